/- FPa ZNm ZNl YNu UWr -/
import Derived.Test.YtbmjiedpaffifaaGreatDb20
import Derived.Test.YtbmjiedpaffifaaGreatDb04
import Derived.Test.YtbmjiedpaffifaaGreatDb15
import Derived.Test.YtbmjiedpaffifaaGreatDb17
namespace Go.Proofs.YtbmjiedpaffifaaGreat
open Go.RowKit

def nB (x : Int) : List Int := U.numB x.toNat
def upd (T : Nat → Int) (r : Nat) (x : Int) : Nat → Int := fun k => if k = r then x else T k
/-- a cloud's bytes, where the numbers up to T are told and the last thing was of r0 -/
def cloudB : (Nat → Int) → Int → List Sn → List Int
  | _, _, [] => []
  | T, r0, s :: t => nB (s.rep - r0) ++ (nB (s.lo - (T s.rep.toNat + 2)) ++ (nB (s.hi - s.lo) ++ cloudB (upd T s.rep.toNat s.hi) s.rep t))
def vecB (Z : List Int) : List Int := Z.flatMap nB
def trl (Z : List Int) : Nat → Int := fun k => Z.getD k 0
def pastB (P : Pst) : List Int := U.numB P.vec.length ++ (vecB P.vec ++ (U.numB P.cloud.length ++ cloudB (trl P.vec) 0 P.cloud))
theorem numB_pos (n : Nat) : 1 ≤ (U.numB n).length := by
  by_cases h : n < 128
  · rw [U.numB_lt h]; simp
  · rw [U.numB_ge h]; simp
theorem cloudB_len : ∀ (L : List Sn) (T : Nat → Int) (r0 : Int), 3 * L.length ≤ (cloudB T r0 L).length
  | [], _, _ => Nat.zero_le _
  | s :: t, T, r0 => by
    have h := cloudB_len t (upd T s.rep.toNat s.hi) s.rep
    have h1 := numB_pos (s.rep - r0).toNat
    have h2 := numB_pos (s.lo - (T s.rep.toNat + 2)).toNat
    have h3 := numB_pos (s.hi - s.lo).toNat
    simp only [cloudB, nB, List.length_append, List.length_cons]
    omega
/-- the cloud may be written so -/
def TrlOk : (Nat → Int) → Int → List Sn → Prop
  | _, _, [] => True
  | T, r0, s :: t => (r0 ≤ s.rep ∧ 0 ≤ s.rep ∧ s.rep ≤ 15) ∧ T s.rep.toNat + 2 ≤ s.lo ∧ s.lo ≤ s.hi ∧ s.hi ≤ 1000000000 ∧ TrlOk (upd T s.rep.toNat s.hi) s.rep t
theorem chain_trl (Z : List Int) : ∀ (L : List Sn) (a : Sn) (T : Nat → Int), 0 ≤ a.rep → (∀ r : Nat, a.rep ≤ (r : Int) → r < 16 → T r = if (r : Int) = a.rep then max (V.atI Z r) a.hi else V.atI Z r) → chain Z a L → TrlOk T a.rep L
  | [], _, _, _, _, _ => trivial
  | c :: t, a, T, ha, hT, h => by
    have S := h.1
    have hr := S.isr
    simp [V.isR] at hr
    have e : ((c.rep.toNat : Nat) : Int) = c.rep := by omega
    have hTc := hT c.rep.toNat (by rw [e]; exact S.rep) (by omega)
    rw [e] at hTc
    have hlead := S.lead
    have hord := S.ord
    have h2 : T c.rep.toNat + 2 ≤ c.lo := by
      rw [hTc]
      split
      · rename_i he
        have := S.gap he
        omega
      · exact hlead
    refine ⟨⟨S.rep, hr.1, by omega⟩, h2, hord, S.top, chain_trl Z t c _ hr.1 (fun r h1 h16 => ?_) h.2⟩
    unfold upd
    by_cases er : r = c.rep.toNat
    · subst er
      rw [if_pos rfl, e, if_pos rfl]
      omega
    · have hne : ¬ (r : Int) = c.rep := by omega
      rw [if_neg er, if_neg hne]
      have := hT r (by have := S.rep; omega) h16
      rw [this, if_neg (by have := S.rep; omega)]
theorem inf_at {P : Pst} (h : InForm P) (k : Nat) (hk : k < 16) : P.vec.getD k 0 = V.at' P.vec k := by
  have := V.short_getD (V.at' P.vec) k hk
  rw [← h.1] at this
  exact this
theorem inf_len {P : Pst} (h : InForm P) : P.vec.length ≤ 16 := (canon_len (canon_iff.2 h)).2
theorem inf_bd {P : Pst} (h : InForm P) : ∀ x ∈ P.vec, 0 ≤ x ∧ x ≤ 1000000000 := by
  intro x hx
  obtain ⟨k, hk, rfl⟩ := List.getElem_of_mem hx
  have e := inf_at h k (by have := inf_len h; omega)
  rw [List.getD_eq_getElem?_getD, List.getElem?_eq_getElem hk] at e
  have := V.at'_bd P.vec k
  simp only [Option.getD_some] at e
  rw [e]
  exact this
theorem inf_trl {P : Pst} (h : InForm P) : TrlOk (trl P.vec) 0 P.cloud := by
  refine chain_trl P.vec P.cloud sn0 (trl P.vec) (Int.le_refl 0) (fun r _ h16 => ?_) h.2
  have e : trl P.vec r = V.atI P.vec r := by unfold trl; rw [inf_at h r h16, atI_nat P.vec h16]
  rw [e]
  split
  · have := V.atI_bd P.vec (r : Int)
    show _ = max _ (0 : Int)
    omega
  · rfl
def rdVec : Nat → List Int → Option (List Int × List Int)
  | 0, Z => some ([], Z)
  | n + 1, Z =>
    match U.pNum 1000000000 Z with
    | none => none
    | some (v, Z1) =>
      match rdVec n Z1 with
      | none => none
      | some (V, R) => some ((v : Int) :: V, R)
def rdCloud : Nat → (Nat → Int) → Int → List Int → Option (List Sn × List Int)
  | 0, _, _, Z => some ([], Z)
  | n + 1, T, r0, Z =>
    match U.pNum (15 - r0) Z with
    | none => none
    | some (a, Z1) =>
      match U.pNum (1000000000 - (T (r0 + a).toNat + 2)) Z1 with
      | none => none
      | some (b, Z2) =>
        match U.pNum (1000000000 - (T (r0 + a).toNat + 2 + b)) Z2 with
        | none => none
        | some (c, Z3) =>
          match rdCloud n (upd T (r0 + a).toNat (T (r0 + a).toNat + 2 + b + c)) (r0 + a) Z3 with
          | none => none
          | some (L, R) => some (⟨r0 + a, T (r0 + a).toNat + 2 + b, T (r0 + a).toNat + 2 + b + c⟩ :: L, R)
def rdPast (Z : List Int) : Option (Pst × List Int) :=
  match U.pNum 16 Z with
  | none => none
  | some (n, Z1) =>
    match rdVec n Z1 with
    | none => none
    | some (V, Z2) =>
      match U.pCnt 3 Z2 with
      | none => none
      | some (m, Z3) =>
        match rdCloud m (trl V) 0 Z3 with
        | none => none
        | some (L, R) => some (⟨V, L⟩, R)
theorem rdVec_to : ∀ (V R : List Int), (∀ x ∈ V, 0 ≤ x ∧ x ≤ 1000000000) → rdVec V.length (vecB V ++ R) = some (V, R)
  | [], R, _ => rfl
  | x :: V, R, h => by
    have hx := h x List.mem_cons_self
    have e : vecB (x :: V) ++ R = U.numB x.toNat ++ (vecB V ++ R) := by show (nB x ++ vecB V) ++ R = _; rw [List.append_assoc]; rfl
    show rdVec (V.length + 1) _ = _
    rw [e]
    unfold rdVec
    rw [U.pNum_to _ (by omega) (by omega)]
    simp only
    rw [rdVec_to V R (fun y hy => h y (List.mem_cons_of_mem _ hy))]
    simp only [Option.some.injEq, Prod.mk.injEq, List.cons.injEq, and_true]
    omega
theorem rdVec_of : ∀ (n : Nat) {Z V R : List Int}, U.Oc Z → rdVec n Z = some (V, R) → Z = vecB V ++ R ∧ V.length = n ∧ U.Oc R ∧ ∀ x ∈ V, 0 ≤ x ∧ x ≤ 1000000000
  | 0, Z, V, R, hZ, h => by
    unfold rdVec at h
    simp only [Option.some.injEq, Prod.mk.injEq] at h
    obtain ⟨rfl, rfl⟩ := h
    exact ⟨rfl, rfl, hZ, fun x hx => by cases hx⟩
  | n + 1, Z, V, R, hZ, h => by
    unfold rdVec at h
    cases h1 : U.pNum 1000000000 Z with
    | none => rw [h1] at h; cases h
    | some y =>
      obtain ⟨v, Z1⟩ := y
      rw [h1] at h
      simp only at h
      obtain ⟨e1, l1, o1, -⟩ := U.pNum_of hZ h1
      cases h2 : rdVec n Z1 with
      | none => rw [h2] at h; cases h
      | some y =>
        obtain ⟨W, R'⟩ := y
        rw [h2] at h
        simp only [Option.some.injEq, Prod.mk.injEq] at h
        obtain ⟨rfl, rfl⟩ := h
        obtain ⟨e2, e3, e4, e5⟩ := rdVec_of n o1 h2
        refine ⟨?_, by simp [e3], e4, fun x hx => ?_⟩
        · rw [e1, e2]
          show _ = (nB (v : Int) ++ vecB W) ++ R'
          rw [List.append_assoc]
          unfold nB
          rw [Int.toNat_natCast]
        · rcases List.mem_cons.1 hx with rfl | hx
          · omega
          · exact e5 x hx
theorem rdCloud_to : ∀ (L : List Sn) (T : Nat → Int) (r0 : Int) (R : List Int), 0 ≤ r0 → TrlOk T r0 L → (∀ k, 0 ≤ T k) → rdCloud L.length T r0 (cloudB T r0 L ++ R) = some (L, R)
  | [], _, _, R, _, _, _ => rfl
  | s :: t, T, r0, R, h0, h, hT => by
    obtain ⟨⟨h1, h2, h3⟩, h4, h5, h6, h7⟩ := h
    have hTs := hT s.rep.toNat
    have e : cloudB T r0 (s :: t) ++ R = U.numB (s.rep - r0).toNat ++ (U.numB (s.lo - (T s.rep.toNat + 2)).toNat ++ (U.numB (s.hi - s.lo).toNat ++ (cloudB (upd T s.rep.toNat s.hi) s.rep t ++ R))) := by
      simp only [cloudB, nB, List.append_assoc]
    have a1 : r0 + (((s.rep - r0).toNat : Nat) : Int) = s.rep := by omega
    have a2 : T s.rep.toNat + 2 + (((s.lo - (T s.rep.toNat + 2)).toNat : Nat) : Int) = s.lo := by omega
    have a3 : s.lo + (((s.hi - s.lo).toNat : Nat) : Int) = s.hi := by omega
    show rdCloud (t.length + 1) T r0 _ = _
    rw [e]
    unfold rdCloud
    rw [U.pNum_to _ (by omega) (by omega)]
    simp only [a1]
    rw [U.pNum_to _ (by omega) (by omega)]
    simp only [a2]
    rw [U.pNum_to _ (by omega) (by omega)]
    simp only [a3]
    rw [rdCloud_to t _ _ R h2 h7 (fun k => by unfold upd; split <;> first | omega | exact hT k)]
theorem rdCloud_of : ∀ (n : Nat) {T : Nat → Int} {r0 : Int} {Z R : List Int} {L : List Sn}, U.Oc Z → 0 ≤ r0 → rdCloud n T r0 Z = some (L, R) → Z = cloudB T r0 L ++ R ∧ L.length = n ∧ U.Oc R ∧ TrlOk T r0 L
  | 0, T, r0, Z, R, L, hZ, _, h => by
    unfold rdCloud at h
    simp only [Option.some.injEq, Prod.mk.injEq] at h
    obtain ⟨rfl, rfl⟩ := h
    exact ⟨rfl, rfl, hZ, trivial⟩
  | n + 1, T, r0, Z, R, L, hZ, h0, h => by
    unfold rdCloud at h
    cases h1 : U.pNum (15 - r0) Z with
    | none => rw [h1] at h; cases h
    | some y =>
      obtain ⟨a, Z1⟩ := y
      rw [h1] at h
      simp only at h
      obtain ⟨e1, l1, o1, -⟩ := U.pNum_of hZ h1
      cases h2 : U.pNum (1000000000 - (T (r0 + a).toNat + 2)) Z1 with
      | none => rw [h2] at h; cases h
      | some y =>
        obtain ⟨b, Z2⟩ := y
        rw [h2] at h
        simp only at h
        obtain ⟨e2, l2, o2, -⟩ := U.pNum_of o1 h2
        cases h3 : U.pNum (1000000000 - (T (r0 + a).toNat + 2 + b)) Z2 with
        | none => rw [h3] at h; cases h
        | some y =>
          obtain ⟨c, Z3⟩ := y
          rw [h3] at h
          simp only at h
          obtain ⟨e3, l3, o3, -⟩ := U.pNum_of o2 h3
          cases h4 : rdCloud n (upd T (r0 + a).toNat (T (r0 + a).toNat + 2 + b + c)) (r0 + a) Z3 with
          | none => rw [h4] at h; cases h
          | some y =>
            obtain ⟨M, R'⟩ := y
            rw [h4] at h
            simp only [Option.some.injEq, Prod.mk.injEq] at h
            obtain ⟨rfl, rfl⟩ := h
            obtain ⟨f1, f2, f3, f4⟩ := rdCloud_of n o3 (by omega) h4
            refine ⟨?_, by simp [f2], f3, ⟨(by show r0 ≤ r0 + (a : Int); omega), (by show 0 ≤ r0 + (a : Int); omega), (by show r0 + (a : Int) ≤ 15; omega)⟩, (by show T (r0 + (a : Int)).toNat + 2 ≤ T (r0 + (a : Int)).toNat + 2 + b; omega), (by show T (r0 + (a : Int)).toNat + 2 + (b : Int) ≤ T (r0 + (a : Int)).toNat + 2 + b + c; omega), (by show T (r0 + (a : Int)).toNat + 2 + (b : Int) + c ≤ 1000000000; omega), f4⟩
            have g1 : (r0 + (a : Int) - r0).toNat = a := by omega
            have g2 : (T (r0 + (a : Int)).toNat + 2 + (b : Int) - (T (r0 + (a : Int)).toNat + 2)).toNat = b := by omega
            have g3 : (T (r0 + (a : Int)).toNat + 2 + (b : Int) + c - (T (r0 + (a : Int)).toNat + 2 + b)).toNat = c := by omega
            simp only [cloudB, nB, List.append_assoc, g1, g2, g3]
            rw [← f1, ← e3, ← e2]
            exact e1
theorem trl_pos {V : List Int} (h : ∀ x ∈ V, 0 ≤ x ∧ x ≤ 1000000000) : ∀ k, 0 ≤ trl V k := by
  intro k
  unfold trl
  by_cases hk : k < V.length
  · rw [List.getD_eq_getElem?_getD, List.getElem?_eq_getElem hk]
    exact (h _ (List.getElem_mem hk)).1
  · rw [List.getD_eq_getElem?_getD, List.getElem?_eq_none (by omega)]
    exact Int.le_refl 0
theorem tdiv3 (n m : Nat) (h : 3 * m ≤ n) : (m : Int) ≤ ((n : Nat) : Int).tdiv (U.eachN 3) := by
  have e : U.eachN 3 = 3 := by decide
  rw [e, Int.tdiv_eq_ediv_of_nonneg (by omega)]
  omega
theorem rdPast_to {P : Pst} (h : InForm P) (R : List Int) : rdPast (pastB P ++ R) = some (P, R) := by
  have hl := inf_len h
  have hc := (canon_len (canon_iff.2 h)).1
  have e : pastB P ++ R = U.numB P.vec.length ++ (vecB P.vec ++ (U.numB P.cloud.length ++ (cloudB (trl P.vec) 0 P.cloud ++ R))) := by unfold pastB; simp only [List.append_assoc]
  rw [e]
  unfold rdPast
  rw [U.pNum_to _ (by omega) (by omega)]
  simp only
  rw [rdVec_to _ _ (inf_bd h)]
  simp only
  rw [U.pCnt_to _ (tdiv3 _ _ (by have := cloudB_len P.cloud (trl P.vec) 0; rw [List.length_append]; omega)) (by omega)]
  simp only
  rw [rdCloud_to _ _ _ _ (Int.le_refl 0) (inf_trl h) (trl_pos (inf_bd h))]
theorem rdPast_of {Z R : List Int} {P : Pst} (hZ : U.Oc Z) (h : rdPast Z = some (P, R)) : Z = pastB P ++ R ∧ U.Oc R ∧ P.vec.length ≤ 16 ∧ (∀ x ∈ P.vec, 0 ≤ x ∧ x ≤ 1000000000) ∧ TrlOk (trl P.vec) 0 P.cloud := by
  unfold rdPast at h
  cases h1 : U.pNum 16 Z with
  | none => rw [h1] at h; cases h
  | some y =>
    obtain ⟨n, Z1⟩ := y
    rw [h1] at h
    simp only at h
    obtain ⟨e1, l1, o1, -⟩ := U.pNum_of hZ h1
    cases h2 : rdVec n Z1 with
    | none => rw [h2] at h; cases h
    | some y =>
      obtain ⟨V, Z2⟩ := y
      rw [h2] at h
      simp only at h
      obtain ⟨e2, l2, o2, b2⟩ := rdVec_of n o1 h2
      cases h3 : U.pCnt 3 Z2 with
      | none => rw [h3] at h; cases h
      | some y =>
        obtain ⟨m, Z3⟩ := y
        rw [h3] at h
        simp only at h
        obtain ⟨e3, o3, l3⟩ := U.pCnt_of o2 h3
        cases h4 : rdCloud m (trl V) 0 Z3 with
        | none => rw [h4] at h; cases h
        | some y =>
          obtain ⟨L, R'⟩ := y
          rw [h4] at h
          simp only [Option.some.injEq, Prod.mk.injEq] at h
          obtain ⟨rfl, rfl⟩ := h
          obtain ⟨f1, f2, f3, f4⟩ := rdCloud_of m o3 (Int.le_refl 0) h4
          refine ⟨?_, f3, (by show V.length ≤ 16; omega), b2, f4⟩
          unfold pastB
          simp only [List.append_assoc]
          rw [← f1, f2, ← e3, ← e2, l2]
          exact e1
end Go.Proofs.YtbmjiedpaffifaaGreat
namespace Go.Proofs.YtbmjiedpaffifaaGreat
open Go.RowKit

/-- a cloud's numbers -/
def clN : (Nat → Int) → Int → List Sn → List Int
  | _, _, [] => []
  | T, r0, s :: t => (s.rep - r0) :: (s.lo - (T s.rep.toNat + 2)) :: (s.hi - s.lo) :: clN (upd T s.rep.toNat s.hi) s.rep t
/-- all numbers of a past -/
def psN (P : Pst) : List Int := (P.vec.length : Int) :: (P.vec ++ ((P.cloud.length : Int) :: clN (trl P.vec) 0 P.cloud))
theorem clN_B : ∀ (L : List Sn) (T : Nat → Int) (r0 : Int), (clN T r0 L).flatMap nB = cloudB T r0 L
  | [], _, _ => rfl
  | s :: t, T, r0 => by
    have h := clN_B t (upd T s.rep.toNat s.hi) s.rep
    simp only [clN, cloudB, List.flatMap_cons, h]
theorem psN_B (P : Pst) : (psN P).flatMap nB = pastB P := by
  unfold psN pastB vecB
  simp only [List.flatMap_cons, List.flatMap_append, clN_B, nB, Int.toNat_natCast]
theorem clN_len : ∀ (L : List Sn) (T : Nat → Int) (r0 : Int), (clN T r0 L).length = 3 * L.length
  | [], _, _ => rfl
  | s :: t, T, r0 => by
    have h := clN_len t (upd T s.rep.toNat s.hi) s.rep
    simp only [clN, List.length_cons, h]
    omega
/-- numbers that a past may hold -/
def SmN (l : List Int) : Prop := ∀ x ∈ l, 0 ≤ x ∧ x ≤ 1000000000
/-- numbers that bytes may hold -/
def AnN (l : List Int) : Prop := ∀ x ∈ l, 0 ≤ x ∧ x ≤ 9223372036854775807
theorem SmN.an {l : List Int} (h : SmN l) : AnN l := fun x hx => by have := h x hx; omega
theorem clN_sm : ∀ (L : List Sn) (T : Nat → Int) (r0 : Int), 0 ≤ r0 → (∀ k, 0 ≤ T k) → TrlOk T r0 L → SmN (clN T r0 L)
  | [], _, _, _, _, _ => fun x hx => by cases hx
  | s :: t, T, r0, h0, hT, h => by
    obtain ⟨⟨h1, h2, h3⟩, h4, h5, h6, h7⟩ := h
    have hTs := hT s.rep.toNat
    have ih := clN_sm t (upd T s.rep.toNat s.hi) s.rep h2 (fun k => by unfold upd; split <;> first | omega | exact hT k) h7
    intro x hx
    simp only [clN, List.mem_cons] at hx
    rcases hx with rfl | rfl | rfl | hx
    · omega
    · omega
    · omega
    · exact ih x hx
theorem psN_sm {P : Pst} (h : InForm P) (hb : P.cloud.length ≤ 1000000000) : SmN (psN P) := by
  have hv := inf_bd h
  have hl := inf_len h
  have ht := clN_sm P.cloud (trl P.vec) 0 (Int.le_refl 0) (fun k => by
    unfold trl
    by_cases hk : k < P.vec.length
    · rw [List.getD_eq_getElem?_getD, List.getElem?_eq_getElem hk]
      exact (hv _ (List.getElem_mem hk)).1
    · rw [List.getD_eq_getElem?_getD, List.getElem?_eq_none (by omega)]
      exact Int.le_refl 0) (inf_trl h)
  intro x hx
  simp only [psN, List.mem_cons, List.mem_append] at hx
  rcases hx with rfl | hx | rfl | hx
  · omega
  · exact hv x hx
  · omega
  · exact ht x hx
/-- numbers are known by their bytes -/
theorem nums_inj : ∀ (l m : List Int), AnN l → AnN m → l.flatMap nB = m.flatMap nB → l = m
  | [], [], _, _, _ => rfl
  | [], y :: m, _, _, h => by
    have := numB_pos y.toNat
    have h2 := congrArg List.length h
    simp only [List.flatMap_nil, List.flatMap_cons, List.length_nil, List.length_append, nB] at h2
    omega
  | x :: l, [], _, _, h => by
    have := numB_pos x.toNat
    have h2 := congrArg List.length h
    simp only [List.flatMap_nil, List.flatMap_cons, List.length_nil, List.length_append, nB] at h2
    omega
  | x :: l, y :: m, hl, hm, h => by
    have hx := hl x List.mem_cons_self
    have hy := hm y List.mem_cons_self
    simp only [List.flatMap_cons, nB] at h
    have h1 := U.pNum_to (most := 9223372036854775807) (v := x.toNat) (l.flatMap nB) (by omega) (by omega)
    have h2 := U.pNum_to (most := 9223372036854775807) (v := y.toNat) (m.flatMap nB) (by omega) (by omega)
    have h3 := h2.symm.trans ((congrArg (U.pNum 9223372036854775807) h).symm.trans h1)
    simp only [Option.some.injEq, Prod.mk.injEq] at h3
    have e := nums_inj l m (fun z hz => hl z (List.mem_cons_of_mem _ hz)) (fun z hz => hm z (List.mem_cons_of_mem _ hz)) h3.2.symm
    rw [e, show x = y by omega]
/-- where the next run may begin at the least -/
def leastN (V : List Int) (f : Bool) (r last a : Int) : Int := if f = true ∨ 0 < a then (if r < (V.length : Int) then V.getD r.toNat 0 + 2 else 2) else last + 2
/-- the runs of the numbers -/
def decC (V : List Int) : Bool → Int → Int → List Int → List Sn
  | f, r0, last, a :: b :: c :: t => ⟨r0 + a, leastN V f (r0 + a) last a + b, leastN V f (r0 + a) last a + b + c⟩ :: decC V false (r0 + a) (leastN V f (r0 + a) last a + b + c) t
  | _, _, _, _ => []
theorem decC_of (V : List Int) : ∀ (L : List Sn) (T : Nat → Int) (f : Bool) (r0 last : Int), 0 ≤ r0 → (∀ k : Nat, r0 ≤ (k : Int) → T k = if (k : Int) = r0 ∧ f = false then last else V.getD k 0) → TrlOk T r0 L → decC V f r0 last (clN T r0 L) = L
  | [], _, _, _, _, _, _, _ => rfl
  | s :: t, T, f, r0, last, h0, hT, h => by
    obtain ⟨⟨h1, h2, h3⟩, h4, h5, h6, h7⟩ := h
    have e : ((s.rep.toNat : Nat) : Int) = s.rep := by omega
    have hTs := hT s.rep.toNat (by omega)
    rw [e] at hTs
    have er : r0 + (s.rep - r0) = s.rep := by omega
    have el : leastN V f s.rep last (s.rep - r0) = T s.rep.toNat + 2 := by
      rw [hTs]
      unfold leastN
      by_cases hc : f = true ∨ 0 < s.rep - r0
      · have hn : ¬ (s.rep = r0 ∧ f = false) := by
          rintro ⟨h8, h9⟩
          rcases hc with hc | hc
          · rw [h9] at hc
            cases hc
          · omega
        rw [if_pos hc, if_neg hn]
        split
        · rfl
        · rename_i hV
          rw [List.getD_eq_getElem?_getD, List.getElem?_eq_none (by omega)]
          rfl
      · have hf : f = false := by
          cases f
          · rfl
          · exact absurd (.inl rfl) hc
        have hz : s.rep = r0 := by
          have := fun q => hc (.inr q)
          omega
        rw [if_neg hc, if_pos ⟨hz, hf⟩]
    simp only [clN, decC, er, el]
    have ea : T s.rep.toNat + 2 + (s.lo - (T s.rep.toNat + 2)) = s.lo := by omega
    have eb : s.lo + (s.hi - s.lo) = s.hi := by omega
    rw [ea, eb, decC_of V t (upd T s.rep.toNat s.hi) false s.rep s.hi h2 (fun k hk => ?_) h7]
    unfold upd
    by_cases ek : k = s.rep.toNat
    · rw [if_pos ek, if_pos ⟨by omega, rfl⟩]
    · rw [if_neg ek, if_neg (by omega), hT k (by omega), if_neg (by omega)]
theorem decC_past {P : Pst} (h : InForm P) : decC P.vec true 0 0 (clN (trl P.vec) 0 P.cloud) = P.cloud :=
  decC_of P.vec P.cloud (trl P.vec) true 0 0 (Int.le_refl 0) (fun k _ => by rw [if_neg (by rintro ⟨_, h⟩; cases h)]; rfl) (inf_trl h)
theorem decC_len (V : List Int) : ∀ (n : Nat) (f : Bool) (r0 last : Int) (l : List Int), l.length = 3 * n → (decC V f r0 last l).length = n
  | 0, _, _, _, [], _ => by unfold decC; rfl
  | 0, _, _, _, _ :: _, h => by simp at h
  | n + 1, f, r0, last, a :: b :: c :: t, h => by
    simp only [decC, List.length_cons]
    rw [decC_len V n _ _ _ t (by simp only [List.length_cons] at h; omega)]
  | n + 1, _, _, _, [], h => by simp at h
  | n + 1, _, _, _, [_], h => by simp at h; omega
  | n + 1, _, _, _, [_, _], h => by simp at h; omega
end Go.Proofs.YtbmjiedpaffifaaGreat
namespace Go.Proofs.YtbmjiedpaffifaaGreat
open Go.RowKit

/-- the numbers are those of this past -/
structure Fits (l : List Int) (P : Pst) : Prop where
  n0 : l.length ≠ 0
  hd : l.getD 0 0 = (P.vec.length : Int)
  v16 : P.vec.length ≤ 16
  len : l.length = P.vec.length + 2 + 3 * P.cloud.length
  cn : l.getD (P.vec.length + 1) 0 = (P.cloud.length : Int)
  vec : (l.drop 1).take P.vec.length = P.vec
  rest : l.drop (P.vec.length + 2) = clN (trl P.vec) 0 P.cloud
  sm : SmN l
theorem nums_len : ∀ l : List Int, l.length ≤ (l.flatMap nB).length
  | [] => Nat.le_refl _
  | x :: t => by
    have h := nums_len t
    have hp := numB_pos x.toNat
    simp only [List.flatMap_cons, List.length_cons, List.length_append, nB]
    omega
theorem psN_len (P : Pst) : (psN P).length = P.vec.length + 2 + 3 * P.cloud.length := by
  unfold psN
  simp only [List.length_cons, List.length_append, clN_len]
  omega
theorem past_few {P : Pst} {Z : List Int} (e : Z = pastB P) (hz : Z.length ≤ 3000000000) : P.cloud.length ≤ 1000000000 := by
  have h1 := nums_len (psN P)
  rw [psN_B, psN_len, ← e] at h1
  omega
theorem fits_of {l : List Int} {P : Pst} {Z : List Int} (h : InForm P) (hz : Z.length ≤ 3000000000) (hl : AnN l) (e : Z = l.flatMap nB) (e2 : Z = pastB P) : Fits l P := by
  have hc := past_few e2 hz
  have hs := psN_sm h hc
  have el : l = psN P := nums_inj l (psN P) hl hs.an (by rw [psN_B, ← e2, e])
  subst el
  refine ⟨?_, rfl, inf_len h, psN_len P, ?_, ?_, ?_, hs⟩
  · rw [psN_len]; omega
  · unfold psN
    simp [List.getD]
  · unfold psN
    simp
  · unfold psN
    simp [List.drop_append]
/-- a row of threes, cut -/
theorem drop_three (R : List Int) (k : Nat) (h : 3 * k + 2 < R.length) : R.drop (3 * k) = R.getD (3 * k) 0 :: R.getD (3 * k + 1) 0 :: R.getD (3 * k + 2) 0 :: R.drop (3 * (k + 1)) := by
  rw [List.drop_eq_getElem_cons (by omega), List.drop_eq_getElem_cons (i := 3 * k + 1) (by omega), List.drop_eq_getElem_cons (i := 3 * k + 1 + 1) (by omega)]
  have e1 : R.getD (3 * k) 0 = R[3 * k] := by simp [List.getD, List.getElem?_eq_getElem (show 3 * k < R.length by omega)]
  have e2 : R.getD (3 * k + 1) 0 = R[3 * k + 1] := by simp [List.getD, List.getElem?_eq_getElem (show 3 * k + 1 < R.length by omega)]
  have e3 : R.getD (3 * k + 2) 0 = R[3 * k + 2] := by simp [List.getD, List.getElem?_eq_getElem (show 3 * k + 2 < R.length by omega)]
  rw [e1, e2, e3, show 3 * (k + 1) = 3 * k + 1 + 1 + 1 by omega]
/-- while the runs are laid -/
structure Lay (V R : List Int) (k : Nat) (rep : Nat) (last : Int) (C : List Sn) : Prop where
  out : decC V true 0 0 R = C ++ decC V (decide (k = 0)) (rep : Int) last (R.drop (3 * k))
  rb : rep ≤ k * 1000000000
  l0 : 0 ≤ last
  lb : last ≤ k * 2000000002 + 1000000002
  zero : k = 0 → rep = 0 ∧ last = 0
theorem lay_start (V R : List Int) : Lay V R 0 0 0 [] := ⟨by simp, by omega, by omega, by omega, fun _ => ⟨rfl, rfl⟩⟩
theorem Lay.next {V R : List Int} {k rep : Nat} {last : Int} {C : List Sn} (h : Lay V R k rep last C) (hV : SmN V) (hk : 3 * k + 2 < R.length) (hR : SmN R) {a b c : Nat} (ha : R.getD (3 * k) 0 = (a : Int)) (hb : R.getD (3 * k + 1) 0 = (b : Int)) (hc : R.getD (3 * k + 2) 0 = (c : Int)) {y : Int} (hy : leastN V (decide (k = 0)) ((rep : Int) + (a : Int)) last (a : Int) = y) :
    Lay V R (k + 1) (rep + a) (y + b + c) (C ++ [⟨((rep + a : Nat) : Int), y + b, y + b + c⟩]) := by
  have hm : ∀ t, t < R.length → R.getD t 0 ≤ 1000000000 := fun t ht => by
    have e : R.getD t 0 = R[t] := by simp [List.getD, List.getElem?_eq_getElem ht]
    rw [e]
    exact (hR _ (List.getElem_mem ht)).2
  have a1 := hm (3 * k) (by omega)
  have b1 := hm (3 * k + 1) (by omega)
  have c1 := hm (3 * k + 2) (by omega)
  rw [ha] at a1
  rw [hb] at b1
  rw [hc] at c1
  have hyb : 2 ≤ y ∧ y ≤ k * 2000000002 + 1000000004 := by
    rw [← hy]
    unfold leastN
    have h1 := h.l0
    have h2 := h.lb
    split
    · split
      · rename_i hlt
        have e : V.getD ((rep : Int) + (a : Int)).toNat 0 = V[((rep : Int) + (a : Int)).toNat]'(by omega) := by simp [List.getD, List.getElem?_eq_getElem (show ((rep : Int) + (a : Int)).toNat < V.length by omega)]
        rw [e]
        have := hV _ (List.getElem_mem (show ((rep : Int) + (a : Int)).toNat < V.length by omega))
        omega
      · omega
    · omega
  refine ⟨?_, ?_, ?_, ?_, fun e => by omega⟩
  · rw [h.out, drop_three R k hk, ha, hb, hc]
    have e1 : decide (k + 1 = 0) = false := by simp
    have e2 : ((rep + a : Nat) : Int) = (rep : Int) + (a : Int) := by omega
    rw [e1, e2, decC, hy]
    simp
  · have := h.rb; omega
  · omega
  · omega
theorem Lay.done {V R : List Int} {k rep : Nat} {last : Int} {C : List Sn} (h : Lay V R k rep last C) (hk : ¬ 3 * k + 2 < R.length) : C = decC V true 0 0 R := by
  have e : decC V (decide (k = 0)) (rep : Int) last (R.drop (3 * k)) = [] := by
    have hl : (R.drop (3 * k)).length ≤ 2 := by rw [List.length_drop]; omega
    generalize R.drop (3 * k) = X at hl
    match X, hl with
    | [], _ => rfl
    | [_], _ => rfl
    | [_, _], _ => rfl
    | _ :: _ :: _ :: _, h => simp only [List.length_cons] at h; omega
  rw [h.out, e, List.append_nil]
theorem Fits.past {l : List Int} {P : Pst} (h : Fits l P) (hf : InForm P) {n : Nat} (hn : l.getD 0 0 = (n : Int)) : (⟨(l.drop 1).take n, decC ((l.drop 1).take n) true 0 0 (l.drop (n + 2))⟩ : Pst) = P := by
  have e : n = P.vec.length := by have := h.hd; omega
  subst e
  rw [h.vec, h.rest, decC_past hf]
end Go.Proofs.YtbmjiedpaffifaaGreat
namespace Go.Proofs.YtbmjiedpaffifaaGreat.U
open Go.RowKit
variable {w w' w2 : World} {g : Nat}

theorem numB_step {y : Nat} (h : ¬ y < 128) : numB y = [(y : Int) % 128 + 128] ++ numB (y / 128) := by
  rw [numB_ge h]
  simp
theorem numB_stepLen {y : Nat} (h : ¬ y < 128) : (numB y).length = (numB (y / 128)).length + 1 := by rw [numB_ge h]; simp
set_option maxRecDepth 100000 in
theorem appendNum_any (ao : Option Addr) (n c : Nat) (Z : List Int) (x : Nat) (w : World) (S : BR w ao n c Z) (hx : x ≤ 9223372036854775807) (hn : n ≤ 140737488355000) : Calls Tryz.prog 50 #[.slice ao n c, .int .i64 (x : Int)] w fun r w' =>
    ∃ bo cc, r = .returned (.slice bo (n + (numB x).length) cc) ∧ BR w' bo (n + (numB x).length) cc (Z ++ numB x) ∧ Ap w w' ao bo := by
  have HL : Hid (n + (numB x).length ≤ 140737488355100) := by show _ ≤ _; have := numB_nine hx; omega
  have HS := hide S
  have HX := hide hx
  clear S hn hx
  go_enter Tryz.func50, Tryz.ntmps50
  go_wp2_with fail
  go_loopw [0, 1] (fun b i wr => ∃ (y : Nat) (m : Nat) (bo : Option Addr) (cc : Nat) (Y : List Int), i = .int .i64 y ∧ b = .slice bo m cc ∧ Hid (BR wr bo m cc Y ∧ Ap w wr ao bo ∧ y ≤ x ∧ Y ++ numB y = Z ++ numB x ∧ m + (numB y).length = n + (numB x).length)) (fun _ i _ => (intOf i).toNat)
  case atStart => exact ⟨x, n, ao, c, Z, rfl, rfl, HS.out, Ap.refl _ _, Nat.le_refl _, rfl, rfl⟩
  case round =>
    obtain ⟨y, m, bo, cc, Y, rfl, rfl, HI⟩ := hrel
    by_cases hlt : y < 128
    · have HM : Hid (m + 1 = n + (numB x).length ∧ Y ++ [(y : Int)] = Z ++ numB x) := by
        obtain ⟨-, -, -, e1, e2⟩ := HI.out
        rw [numB_lt hlt] at e1 e2
        exact ⟨e2, e1⟩
      go_wp2_with (at_builtin; refine HI.out.1.app1 (y : Int) (by have := HM.out.1; have := HL.out; omega) rfl (.tmp 16) (.tmp 19) rfl rfl rfl ?_; intro b5 c5 w5 S5 A5; have HS5 := hide S5; have HA5 := hide A5; clear S5 A5)
      go_ret
      refine ⟨b5, c5, ?_, ?_, HI.out.2.1.trans HA5.out⟩
      · rw [HM.out.1]; rfl
      · rw [← HM.out.1, ← HM.out.2]; exact HS5.out
    · have HM : Hid (m + 1 + (numB (y / 128)).length = n + (numB x).length ∧ Y ++ [(y : Int) % 128 + 128] ++ numB (y / 128) = Z ++ numB x) := by
        obtain ⟨-, -, -, e1, e2⟩ := HI.out
        rw [numB_step hlt] at e1
        rw [numB_stepLen hlt] at e2
        exact ⟨by omega, by rw [List.append_assoc]; exact e1⟩
      have HD : Hid (y / 128 < y ∧ y ≤ x) := ⟨by omega, HI.out.2.2.1⟩
      have HK1 : Hid (wrap64 ((y : Int) / 128) = ((y / 128 : Nat) : Int)) := by show _ = _; have := HX.out; have := HD.out.2; rw [w64 (by omega) (by omega)]; rfl
      have hge : (128 : Int) ≤ y := by omega
      go_wp2_with (at_builtin; refine HI.out.1.app1 ((y : Int) % 128 + 128) (by have := HM.out.1; have := HL.out; omega) rfl (.tmp 7) (.tmp 12) rfl rfl rfl ?_; intro b5 c5 w5 S5 A5; have HS5 := hide S5; have HA5 := hide (HI.out.2.1.trans A5); clear S5 A5)
      go_roundw
      case rel => exact ⟨y / 128, m + 1, b5, c5, _, by rw [HK1.out], rfl, HS5.out, HA5.out, by have := HD.out; omega, HM.out.2, HM.out.1⟩
      case measure => rw [HK1.out]; have := HD.out; simp [intOf]; omega
set_option maxRecDepth 100000 in
theorem refNum_any (x : Nat) (w : World) (hx : x ≤ 9223372036854775807) : Calls Tryz.prog 29 #[.int .i64 (x : Int)] w fun r w' =>
    ∃ bo cc, r = .returned (.slice bo ((numB x).length) cc) ∧ BR w' bo ((numB x).length) cc (numB x) ∧ Ap w w' none bo := by
  have HL : Hid ((numB x).length ≤ 140737488355100) := by show _ ≤ _; have := numB_nine hx; omega
  have HX := hide hx
  clear hx
  go_enter Tryz.func29, Tryz.ntmps29
  go_wp2_with fail
  go_loopw [0, 3] (fun i b wr => ∃ (y : Nat) (m : Nat) (bo : Option Addr) (cc : Nat) (Y : List Int), i = .int .i64 y ∧ b = .slice bo m cc ∧ Hid (BR wr bo m cc Y ∧ Ap w wr none bo ∧ y ≤ x ∧ Y ++ numB y = numB x ∧ m + (numB y).length = (numB x).length)) (fun i _ _ => (intOf i).toNat)
  case atStart => exact ⟨x, 0, none, 0, [], rfl, rfl, BR.nil _, Ap.refl _ _, Nat.le_refl _, rfl, Nat.zero_add _⟩
  case round =>
    obtain ⟨y, m, bo, cc, Y, rfl, rfl, HI⟩ := hrel
    by_cases hlt : y < 128
    · have HM : Hid (m + 1 = (numB x).length ∧ Y ++ [(y : Int)] = numB x) := by
        obtain ⟨-, -, -, e1, e2⟩ := HI.out
        rw [numB_lt hlt] at e1 e2
        exact ⟨e2, e1⟩
      go_wp2_with (at_builtin; refine HI.out.1.app1 (y : Int) (by have := HM.out.1; have := HL.out; omega) rfl (.tmp 15) (.tmp 18) rfl rfl rfl ?_; intro b5 c5 w5 S5 A5; have HS5 := hide S5; have HA5 := hide A5; clear S5 A5)
      go_ret
      refine ⟨b5, c5, ?_, ?_, HI.out.2.1.trans HA5.out⟩
      · rw [HM.out.1]; rfl
      · rw [← HM.out.1, ← HM.out.2]; exact HS5.out
    · have HM : Hid (m + 1 + (numB (y / 128)).length = (numB x).length ∧ Y ++ [(y : Int) % 128 + 128] ++ numB (y / 128) = numB x) := by
        obtain ⟨-, -, -, e1, e2⟩ := HI.out
        rw [numB_step hlt] at e1
        rw [numB_stepLen hlt] at e2
        exact ⟨by omega, by rw [List.append_assoc]; exact e1⟩
      have HD : Hid (y / 128 < y ∧ y ≤ x) := ⟨by omega, HI.out.2.2.1⟩
      have HK1 : Hid (wrap64 ((y : Int) / 128) = ((y / 128 : Nat) : Int)) := by show _ = _; have := HX.out; have := HD.out.2; rw [w64 (by omega) (by omega)]; rfl
      have hge : (128 : Int) ≤ y := by omega
      go_wp2_with (at_builtin; refine HI.out.1.app1 (128 + (y : Int) % 128) (by have := HM.out.1; have := HL.out; omega) rfl (.tmp 6) (.tmp 11) rfl rfl rfl ?_; intro b5 c5 w5 S5 A5; rw [Int.add_comm] at S5; have HS5 := hide S5; have HA5 := hide (HI.out.2.1.trans A5); clear S5 A5)
      go_roundw
      case rel => exact ⟨y / 128, m + 1, b5, c5, _, by rw [HK1.out], rfl, HS5.out, HA5.out, by have := HD.out; omega, HM.out.2, HM.out.1⟩
      case measure => rw [HK1.out]; have := HD.out; simp [intOf]; omega
end Go.Proofs.YtbmjiedpaffifaaGreat.U
namespace Go.Proofs.YtbmjiedpaffifaaGreat.U
open Go.RowKit
variable {w w' w2 : World} {g : Nat}

/-- the writer at g: its row, and whether it is spoilt -/
structure Wr (w : World) (g : Nat) (ao : Option Addr) (n cap : Nat) (Z : List Int) (sp : Bool) : Prop where
  box : w.heap[g]? = some (.cells #[.slice ao n cap, .bool sp] 111 (0, 0))
  row : BR w ao n cap Z
  ne : ∀ k, blk ao = some k → k ≠ g
  nil : sp = true → Z = []
theorem cell_of_box {cs : Array Value} {t : TypeId} (h : w.heap[g]? = some (.cells cs t (0, 0))) (k : Nat) : w.cell? ⟨g, k, none⟩ = cs[k]? := by simp [World.cell?, h]
theorem set0 {u v b : Value} {t : TypeId} (h : w.heap[g]? = some (.cells #[u, b] t (0, 0))) : (w.setCell ⟨g, 0, none⟩ v).heap[g]? = some (.cells #[v, b] t (0, 0)) := by
  simp [World.setCell, h, Array.getElem?_modify]
theorem set1 {u v b : Value} {t : TypeId} (h : w.heap[g]? = some (.cells #[u, b] t (0, 0))) : (w.setCell ⟨g, 1, none⟩ v).heap[g]? = some (.cells #[u, v] t (0, 0)) := by
  simp [World.setCell, h, Array.getElem?_modify]
theorem set_otherW (w : World) (g j k : Nat) (v : Value) (h : k ≠ g) : (w.setCell ⟨g, j, none⟩ v).heap[k]? = w.heap[k]? := Go.Deep.blk_setCell_other w ⟨g, j, none⟩ _ k h
theorem set_sizeW (w : World) (p : Addr) (v : Value) : (w.setCell p v).heap.size = w.heap.size := by simp [World.setCell]
theorem frozen_of_box {cs : Array Value} {t : TypeId} (h : w.heap[g]? = some (.cells cs t (0, 0))) (k : Nat) : w.frozen? ⟨g, k, none⟩ = false := by simp [World.frozen?, h]
/-- a call on the writer at g: g and its row's block alone may have been written -/
structure Kp (w w' : World) (g : Nat) (ao bo : Option Addr) : Prop where
  os : w'.os = w.os
  tape : w'.tape = w.tape
  output : w'.output = w.output
  size : w.heap.size ≤ w'.heap.size
  block : ∀ k, k < w.heap.size → k ≠ g → some k ≠ blk ao → w'.heap[k]? = w.heap[k]?
  lies : blk bo = none ∨ blk bo = blk ao ∨ ∃ k, blk bo = some k ∧ w.heap.size ≤ k
theorem Ap.block' {ao bo : Option Addr} (h : Ap w w' ao bo) {n cap : Nat} {Z : List Int} {sp : Bool} (W : Wr w g ao n cap Z sp) : w'.heap[g]? = w.heap[g]? :=
  h.grown.block g (Array.getElem?_eq_some_iff.1 W.box).1 (fun e => W.ne g e.symm rfl)
theorem Wr.lt {ao : Option Addr} {n cap : Nat} {Z : List Int} {sp : Bool} (W : Wr w g ao n cap Z sp) : g < w.heap.size := (Array.getElem?_eq_some_iff.1 W.box).1
/-- the row has grown and is held -/
theorem Wr.held {ao bo : Option Addr} {n cap m cc : Nat} {Z Y : List Int} (W : Wr w g ao n cap Z false) (h : Ap w w' ao bo) (B : BR w' bo m cc Y) :
    Wr (w'.setCell ⟨g, 0, none⟩ (.slice bo m cc)) g bo m cc Y false ∧ Kp w (w'.setCell ⟨g, 0, none⟩ (.slice bo m cc)) g ao bo := by
  have hg := W.lt
  have hne : ∀ k, blk bo = some k → k ≠ g := fun k hk => by
    rcases h.lies with e | ⟨j, e, hj⟩
    · exact W.ne k (e ▸ hk)
    · rw [e] at hk
      have := Option.some.inj hk
      omega
  refine ⟨⟨set0 ((h.block' W).trans W.box), B.keep fun k hk => set_otherW w' g 0 k _ (hne k hk), hne, fun e => by cases e⟩, ⟨h.grown.os, h.grown.tape, h.grown.output, by rw [set_sizeW]; exact h.grown.size, fun k hk h1 h2 => (set_otherW w' g 0 k _ h1).trans (h.grown.block k hk h2), Or.inr h.lies⟩⟩
/-- the row has grown and is not held, for the writer is spoilt -/
theorem Wr.lost {ao bo : Option Addr} {n cap : Nat} {Z : List Int} (W : Wr w g ao n cap Z true) (h : Ap w w' ao bo) (hao : ao = none) : Wr w' g ao n cap Z true ∧ Kp w w' g ao ao := by
  subst hao
  refine ⟨⟨(h.block' W).trans W.box, W.row.keep (fun k hk => by cases hk), W.ne, W.nil⟩, ⟨h.grown.os, h.grown.tape, h.grown.output, h.grown.size, fun k hk h1 h2 => h.grown.block k hk h2, Or.inr (Or.inl rfl)⟩⟩
theorem hold_ok (w : World) (g : Nat) (u : Value) (bo : Option Addr) (m cc : Nat) (h : w.heap[g]? = some (.cells #[u, .bool false] 111 (0, 0))) :
    Calls Tryz.prog 65 #[ptr g, .slice bo m cc] w fun r w' => r = .returned (.tuple #[]) ∧ w' = w.setCell ⟨g, 0, none⟩ (.slice bo m cc) := by
  have x1 := cell_of_box h 1
  have x0 := cell_of_box h 0
  have f0 := frozen_of_box h 0
  simp at x0 x1
  go_enter Tryz.func65, Tryz.ntmps65
  go_wp2_with fail
  go_end0
  exact ⟨rfl, rfl⟩
theorem hold_sp (w : World) (g : Nat) (u : Value) (bo : Option Addr) (m cc : Nat) (h : w.heap[g]? = some (.cells #[u, .bool true] 111 (0, 0))) :
    Calls Tryz.prog 65 #[ptr g, .slice bo m cc] w fun r w' => r = .returned (.tuple #[]) ∧ w' = w := by
  have x1 := cell_of_box h 1
  simp at x1
  go_enter Tryz.func65, Tryz.ntmps65
  go_wp2_with fail
  go_end0
  exact ⟨rfl, rfl⟩
/-- what a put of these bytes leaves -/
def Puts (w w' : World) (g : Nat) (ao : Option Addr) (Z Y : List Int) (sp : Bool) : Prop :=
  ∃ bo m cc, Wr w' g bo m cc (if sp then [] else Z ++ Y) sp ∧ (sp = true → bo = none) ∧ Kp w w' g ao bo
theorem hold_any {ao bo : Option Addr} {n cap m cc : Nat} {Z Y : List Int} {sp : Bool} (W : Wr w g ao n cap Z sp) (hao : sp = true → ao = none) (h : Ap w w' ao bo) (B : BR w' bo m cc (Z ++ Y)) :
    Calls Tryz.prog 65 #[ptr g, .slice bo m cc] w' fun r w2 => r = .returned (.tuple #[]) ∧ Puts w w2 g ao Z Y sp := by
  cases sp with
  | true =>
    refine (hold_sp w' g _ bo m cc ((h.block' W).trans W.box)).mono ?_
    rintro r w2 ⟨rfl, rfl⟩
    have k := W.lost h (hao rfl)
    have e : Z = [] := W.nil rfl
    subst e
    exact ⟨rfl, ao, n, cap, k.1, hao, k.2⟩
  | false =>
    refine (hold_ok w' g _ bo m cc ((h.block' W).trans W.box)).mono ?_
    rintro r w2 ⟨rfl, rfl⟩
    have k := W.held h B
    exact ⟨rfl, bo, m, cc, k.1, (fun e => by cases e), k.2⟩
theorem Wr.c0 {ao : Option Addr} {n cap : Nat} {Z : List Int} {sp : Bool} (W : Wr w g ao n cap Z sp) : w.cell? ⟨g, 0, none⟩ = some (.slice ao n cap) := by rw [cell_of_box W.box]; rfl
theorem Wr.c1 {ao : Option Addr} {n cap : Nat} {Z : List Int} {sp : Bool} (W : Wr w g ao n cap Z sp) : w.cell? ⟨g, 1, none⟩ = some (.bool sp) := by rw [cell_of_box W.box]; rfl
/-- Num, of a number that is not below 0 -/
theorem wnum_any (ao : Option Addr) (n cap : Nat) (Z : List Int) (sp : Bool) (x : Nat) (w : World) (W : Wr w g ao n cap Z sp) (hao : sp = true → ao = none) (hx : x ≤ 9223372036854775807) (hn : n ≤ 140737488355000) :
    Calls Tryz.prog 46 #[ptr g, .int .i64 (x : Int)] w fun r w' => r = .returned (.tuple #[]) ∧ Puts w w' g ao Z (numB x) sp := by
  have HW := hide W
  have x0 := W.c0
  have HA := hide hao
  have HN := hide (And.intro hx hn)
  have hlt : ¬ ((x : Int) < 0) := by omega
  clear W hao hx hn
  go_enter Tryz.func46, Tryz.ntmps46
  go_wp2_with fail
  refine (appendNum_any ao n cap Z x w HW.out.row HN.out.1 HN.out.2).mono ?_
  rintro r w2 ⟨bo, cc, rfl, B2, A2⟩
  have HB := hide B2
  have HP := hide A2
  clear B2 A2 x0
  go_wp2_with fail
  refine (hold_any HW.out HA.out HP.out HB.out).mono ?_
  rintro r w3 ⟨rfl, P3⟩
  have HF := hide P3
  clear P3
  go_wp2_with fail
  go_end0
  exact ⟨rfl, HF.out⟩
theorem BS.ap0 {so ao bo : Option Addr} {m c : Nat} {Y : List Int} (S : BS w so m c Y) (h : Ap w w' ao bo) (hne : m ≠ 0 → ∀ k, blk so = some k → blk ao ≠ some k) : BS w' so m c Y := by
  by_cases h0 : m = 0
  · exact ⟨S.len, S.nil, fun ad ha t ht => by omega⟩
  · exact S.ap h (hne h0)
theorem BS.lt {so : Option Addr} {m c : Nat} {Y : List Int} (S : BS w so m c Y) (h0 : m ≠ 0) (k : Nat) (e : blk so = some k) : k < w.heap.size := by
  cases so with
  | none => cases e
  | some ad =>
    have := World.block_lt_of_cell? _ _ (S.cell ad rfl 0 (by omega))
    rw [block_of_add] at this
    have : ad.block = k := Option.some.inj e
    omega
set_option maxRecDepth 100000 in
theorem frameB_any (ao : Option Addr) (n c : Nat) (Z : List Int) (so : Option Addr) (m d : Nat) (Y : List Int) (w : World) (S : BR w ao n c Z) (B : BS w so m d Y) (hne : m ≠ 0 → ∀ k, blk so = some k → blk ao ≠ some k) (hn : n + m ≤ 140737488355000) :
    Calls Tryz.prog 26 #[.slice ao n c, .slice so m d] w fun r w' => ∃ bo l cc, r = .returned (.slice bo l cc) ∧ BR w' bo l cc (Z ++ (numB m ++ Y)) ∧ Ap w w' ao bo := by
  have HS := hide S
  have HN := hide hn
  have HY := hide B
  have HE := hide hne
  clear S hn B hne
  go_enter Tryz.func26, Tryz.ntmps26
  go_wp2_with fail
  refine (appendNum_any ao n c Z m w HS.out (by have := HN.out; omega) (by have := HN.out; omega)).mono ?_
  rintro r w2 ⟨bo, cc, rfl, B2, A2⟩
  have HL : Hid (n + (numB m).length + m ≤ 140737488355328) := by show _ ≤ _; have := HN.out; have := numB_nine (n := m) (by omega); omega
  have HB := hide B2
  have HA := hide A2
  have HY2 := hide (HY.out.ap0 A2 HE.out)
  clear B2 A2
  go_wp2_with (at_builtin; refine HB.out.appB HY2.out HL.out rfl (.tmp 8) (.tmp 9) rfl rfl rfl ?_; intro b5 c5 w5 S5 A5; have HS5 := hide S5; have HA5 := hide (HA.out.trans A5); clear S5 A5)
  go_ret
  refine ⟨b5, _, c5, rfl, ?_, HA5.out⟩
  rw [← List.append_assoc]
  exact HS5.out
theorem new_any (w : World) : Calls Tryz.prog 44 #[] w fun r w' => r = .returned (ptr w.heap.size) ∧ w' = w.alloc (.cells #[.slice none 0 0, .bool false] 111) := by
  go_enter Tryz.func44, Tryz.ntmps44
  go_wp2_with fail
  go_ret
  exact ⟨rfl, rfl⟩
theorem wr_new (w : World) : Wr (w.alloc (.cells #[.slice none 0 0, .bool false] 111)) w.heap.size none 0 0 [] false :=
  ⟨heap_alloc_new w _, BR.nil _, (fun k hk => by cases hk), fun h => by cases h⟩
theorem done_ok (ao : Option Addr) (n cap : Nat) (Z : List Int) (w : World) (W : Wr w g ao n cap Z false) (hn : n ≤ 140737488355000) :
    Calls Tryz.prog 45 #[ptr g] w fun r w' => ∃ bo cc, r = .returned (.tuple #[.slice bo n cc, .int .i64 0]) ∧ BR w' bo n cc Z ∧ NewB w w' bo := by
  have HW := hide W
  have x0 := W.c0
  have x1 := W.c1
  have HN := hide hn
  clear W hn
  go_enter Tryz.func45, Tryz.ntmps45
  go_wp2_with fail
  refine (clone_any ao n cap Z w HW.out.row.bs (Nat.le_trans HN.out (by decide))).mono ?_
  rintro r w2 ⟨bo, cc, rfl, B2, N2⟩
  have HB := hide B2
  have HF := hide N2
  clear B2 N2
  go_wp2_with fail
  go_ret2
  exact ⟨_, _, rfl, HB.out, HF.out⟩
/-- a writer that the call made: all of it lies at w0's end or behind -/
structure Wk (w0 wr : World) (g : Nat) (ao : Option Addr) (n cap : Nat) (Z : List Int) : Prop where
  w : Wr wr g ao n cap Z false
  bel : Below w0.heap.size w0 wr
  ge : w0.heap.size ≤ g
  row : ∀ k, blk ao = some k → w0.heap.size ≤ k
theorem wk_new (w0 : World) : Wk w0 (w0.alloc (.cells #[.slice none 0 0, .bool false] 111)) w0.heap.size none 0 0 [] :=
  ⟨wr_new w0, below_new _ _, Nat.le_refl _, fun k e => by cases e⟩
theorem Wk.len {w0 : World} {ao : Option Addr} {n cap : Nat} {Z : List Int} (h : Wk w0 w g ao n cap Z) : Z.length = n := h.w.row.len
theorem Wk.below {w0 : World} {ao : Option Addr} {n cap : Nat} {Z : List Int} (h : Wk w0 w g ao n cap Z) (b : Below w.heap.size w w') : Wk w0 w' g ao n cap Z :=
  ⟨⟨(b.block g h.w.lt).trans h.w.box, h.w.row.below b, h.w.ne, h.w.nil⟩, h.bel.trans (b.mono h.bel.size), h.ge, h.row⟩
theorem Wk.put {w0 : World} {ao : Option Addr} {n cap : Nat} {Z Y : List Int} (h : Wk w0 w g ao n cap Z) (P : Puts w w' g ao Z Y false) : ∃ bo m cc, Wk w0 w' g bo m cc (Z ++ Y) := by
  obtain ⟨bo, m, cc, W, -, K⟩ := P
  refine ⟨bo, m, cc, by simpa using W, ⟨K.os.trans h.bel.os, K.tape.trans h.bel.tape, K.output.trans h.bel.output, Nat.le_trans h.bel.size K.size, fun k hk => (K.block k (Nat.lt_of_lt_of_le hk h.bel.size) (fun e => by have := h.ge; omega) (fun e => by have := h.row k e.symm; omega)).trans (h.bel.block k hk)⟩, h.ge, fun k e => ?_⟩
  rcases K.lies with x | x | ⟨j, x, hj⟩
  · rw [x] at e; cases e
  · exact h.row k (x ▸ e)
  · rw [x] at e
    have := Option.some.inj e
    have := h.bel.size
    omega
end Go.Proofs.YtbmjiedpaffifaaGreat.U
