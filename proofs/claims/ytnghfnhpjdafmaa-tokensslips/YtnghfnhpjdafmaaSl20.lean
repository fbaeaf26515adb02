/- FPa -/
import Derived.Test.YtnghfnhpjdafmaaSl07
import Derived.Test.YtnghfnhpjdafmaaSl14
import Derived.Test.YtnghfnhpjdafmaaSl19
namespace Go.Proofs.Ytnghfnhpjdafmaa
open Go.RowKit

def nB (x : Int) : List Int := U.numB x.toNat
def upd (T : Nat → Int) (r : Nat) (x : Int) : Nat → Int := fun k => if k = r then x else T k
/-- a cloud's bytes, where the numbers up to T are told and the last thing was of r0 -/
def cloudB : (Nat → Int) → Int → List Sn → List Int
  | _, _, [] => []
  | T, r0, s :: t => nB (s.rep - r0) ++ (nB (s.lo - (T s.rep.toNat + 2)) ++ (nB (s.hi - s.lo) ++ cloudB (upd T s.rep.toNat s.hi) s.rep t))
def vecB (Z : List Int) : List Int := Z.flatMap nB
def trl (Z : List Int) : Nat → Int := fun k => Z.getD k 0
def pastB (P : Pst) : List Int := U.numB P.vec.length ++ (vecB P.vec ++ (U.numB P.cloud.length ++ cloudB (trl P.vec) 0 P.cloud))
theorem numB_pos (n : Nat) : 1 ≤ (U.numB n).length := by
  by_cases h : n < 128
  · rw [U.numB_lt h]; simp
  · rw [U.numB_ge h]; simp
theorem cloudB_len : ∀ (L : List Sn) (T : Nat → Int) (r0 : Int), 3 * L.length ≤ (cloudB T r0 L).length
  | [], _, _ => Nat.zero_le _
  | s :: t, T, r0 => by
    have h := cloudB_len t (upd T s.rep.toNat s.hi) s.rep
    have h1 := numB_pos (s.rep - r0).toNat
    have h2 := numB_pos (s.lo - (T s.rep.toNat + 2)).toNat
    have h3 := numB_pos (s.hi - s.lo).toNat
    simp only [cloudB, nB, List.length_append, List.length_cons]
    omega
/-- the cloud may be written so -/
def TrlOk : (Nat → Int) → Int → List Sn → Prop
  | _, _, [] => True
  | T, r0, s :: t => (r0 ≤ s.rep ∧ 0 ≤ s.rep ∧ s.rep ≤ 15) ∧ T s.rep.toNat + 2 ≤ s.lo ∧ s.lo ≤ s.hi ∧ s.hi ≤ 1000000000 ∧ TrlOk (upd T s.rep.toNat s.hi) s.rep t
theorem chain_trl (Z : List Int) : ∀ (L : List Sn) (a : Sn) (T : Nat → Int), 0 ≤ a.rep → (∀ r : Nat, a.rep ≤ (r : Int) → r < 16 → T r = if (r : Int) = a.rep then max (V.atI Z r) a.hi else V.atI Z r) → chain Z a L → TrlOk T a.rep L
  | [], _, _, _, _, _ => trivial
  | c :: t, a, T, ha, hT, h => by
    have S := h.1
    have hr := S.isr
    simp [V.isR] at hr
    have e : ((c.rep.toNat : Nat) : Int) = c.rep := by omega
    have hTc := hT c.rep.toNat (by rw [e]; exact S.rep) (by omega)
    rw [e] at hTc
    have hlead := S.lead
    have hord := S.ord
    have h2 : T c.rep.toNat + 2 ≤ c.lo := by
      rw [hTc]
      split
      · rename_i he
        have := S.gap he
        omega
      · exact hlead
    refine ⟨⟨S.rep, hr.1, by omega⟩, h2, hord, S.top, chain_trl Z t c _ hr.1 (fun r h1 h16 => ?_) h.2⟩
    unfold upd
    by_cases er : r = c.rep.toNat
    · subst er
      rw [if_pos rfl, e, if_pos rfl]
      omega
    · have hne : ¬ (r : Int) = c.rep := by omega
      rw [if_neg er, if_neg hne]
      have := hT r (by have := S.rep; omega) h16
      rw [this, if_neg (by have := S.rep; omega)]
theorem inf_at {P : Pst} (h : InForm P) (k : Nat) (hk : k < 16) : P.vec.getD k 0 = V.at' P.vec k := by
  have := V.short_getD (V.at' P.vec) k hk
  rw [← h.1] at this
  exact this
theorem inf_len {P : Pst} (h : InForm P) : P.vec.length ≤ 16 := (canon_len (canon_iff.2 h)).2
theorem inf_bd {P : Pst} (h : InForm P) : ∀ x ∈ P.vec, 0 ≤ x ∧ x ≤ 1000000000 := by
  intro x hx
  obtain ⟨k, hk, rfl⟩ := List.getElem_of_mem hx
  have e := inf_at h k (by have := inf_len h; omega)
  rw [List.getD_eq_getElem?_getD, List.getElem?_eq_getElem hk] at e
  have := V.at'_bd P.vec k
  simp only [Option.getD_some] at e
  rw [e]
  exact this
theorem inf_trl {P : Pst} (h : InForm P) : TrlOk (trl P.vec) 0 P.cloud := by
  refine chain_trl P.vec P.cloud sn0 (trl P.vec) (Int.le_refl 0) (fun r _ h16 => ?_) h.2
  have e : trl P.vec r = V.atI P.vec r := by unfold trl; rw [inf_at h r h16, atI_nat P.vec h16]
  rw [e]
  split
  · have := V.atI_bd P.vec (r : Int)
    show _ = max _ (0 : Int)
    omega
  · rfl
def rdVec : Nat → List Int → Option (List Int × List Int)
  | 0, Z => some ([], Z)
  | n + 1, Z =>
    match U.pNum 1000000000 Z with
    | none => none
    | some (v, Z1) =>
      match rdVec n Z1 with
      | none => none
      | some (V, R) => some ((v : Int) :: V, R)
def rdCloud : Nat → (Nat → Int) → Int → List Int → Option (List Sn × List Int)
  | 0, _, _, Z => some ([], Z)
  | n + 1, T, r0, Z =>
    match U.pNum (15 - r0) Z with
    | none => none
    | some (a, Z1) =>
      match U.pNum (1000000000 - (T (r0 + a).toNat + 2)) Z1 with
      | none => none
      | some (b, Z2) =>
        match U.pNum (1000000000 - (T (r0 + a).toNat + 2 + b)) Z2 with
        | none => none
        | some (c, Z3) =>
          match rdCloud n (upd T (r0 + a).toNat (T (r0 + a).toNat + 2 + b + c)) (r0 + a) Z3 with
          | none => none
          | some (L, R) => some (⟨r0 + a, T (r0 + a).toNat + 2 + b, T (r0 + a).toNat + 2 + b + c⟩ :: L, R)
def rdPast (Z : List Int) : Option (Pst × List Int) :=
  match U.pNum 16 Z with
  | none => none
  | some (n, Z1) =>
    match rdVec n Z1 with
    | none => none
    | some (V, Z2) =>
      match U.pCnt 3 Z2 with
      | none => none
      | some (m, Z3) =>
        match rdCloud m (trl V) 0 Z3 with
        | none => none
        | some (L, R) => some (⟨V, L⟩, R)
theorem rdVec_to : ∀ (V R : List Int), (∀ x ∈ V, 0 ≤ x ∧ x ≤ 1000000000) → rdVec V.length (vecB V ++ R) = some (V, R)
  | [], R, _ => rfl
  | x :: V, R, h => by
    have hx := h x List.mem_cons_self
    have e : vecB (x :: V) ++ R = U.numB x.toNat ++ (vecB V ++ R) := by show (nB x ++ vecB V) ++ R = _; rw [List.append_assoc]; rfl
    show rdVec (V.length + 1) _ = _
    rw [e]
    unfold rdVec
    rw [U.pNum_to _ (by omega) (by omega)]
    simp only
    rw [rdVec_to V R (fun y hy => h y (List.mem_cons_of_mem _ hy))]
    simp only [Option.some.injEq, Prod.mk.injEq, List.cons.injEq, and_true]
    omega
theorem rdVec_of : ∀ (n : Nat) {Z V R : List Int}, U.Oc Z → rdVec n Z = some (V, R) → Z = vecB V ++ R ∧ V.length = n ∧ U.Oc R ∧ ∀ x ∈ V, 0 ≤ x ∧ x ≤ 1000000000
  | 0, Z, V, R, hZ, h => by
    unfold rdVec at h
    simp only [Option.some.injEq, Prod.mk.injEq] at h
    obtain ⟨rfl, rfl⟩ := h
    exact ⟨rfl, rfl, hZ, fun x hx => by cases hx⟩
  | n + 1, Z, V, R, hZ, h => by
    unfold rdVec at h
    cases h1 : U.pNum 1000000000 Z with
    | none => rw [h1] at h; cases h
    | some y =>
      obtain ⟨v, Z1⟩ := y
      rw [h1] at h
      simp only at h
      obtain ⟨e1, l1, o1, -⟩ := U.pNum_of hZ h1
      cases h2 : rdVec n Z1 with
      | none => rw [h2] at h; cases h
      | some y =>
        obtain ⟨W, R'⟩ := y
        rw [h2] at h
        simp only [Option.some.injEq, Prod.mk.injEq] at h
        obtain ⟨rfl, rfl⟩ := h
        obtain ⟨e2, e3, e4, e5⟩ := rdVec_of n o1 h2
        refine ⟨?_, by simp [e3], e4, fun x hx => ?_⟩
        · rw [e1, e2]
          show _ = (nB (v : Int) ++ vecB W) ++ R'
          rw [List.append_assoc]
          unfold nB
          rw [Int.toNat_natCast]
        · rcases List.mem_cons.1 hx with rfl | hx
          · omega
          · exact e5 x hx
theorem rdCloud_to : ∀ (L : List Sn) (T : Nat → Int) (r0 : Int) (R : List Int), 0 ≤ r0 → TrlOk T r0 L → (∀ k, 0 ≤ T k) → rdCloud L.length T r0 (cloudB T r0 L ++ R) = some (L, R)
  | [], _, _, R, _, _, _ => rfl
  | s :: t, T, r0, R, h0, h, hT => by
    obtain ⟨⟨h1, h2, h3⟩, h4, h5, h6, h7⟩ := h
    have hTs := hT s.rep.toNat
    have e : cloudB T r0 (s :: t) ++ R = U.numB (s.rep - r0).toNat ++ (U.numB (s.lo - (T s.rep.toNat + 2)).toNat ++ (U.numB (s.hi - s.lo).toNat ++ (cloudB (upd T s.rep.toNat s.hi) s.rep t ++ R))) := by
      simp only [cloudB, nB, List.append_assoc]
    have a1 : r0 + (((s.rep - r0).toNat : Nat) : Int) = s.rep := by omega
    have a2 : T s.rep.toNat + 2 + (((s.lo - (T s.rep.toNat + 2)).toNat : Nat) : Int) = s.lo := by omega
    have a3 : s.lo + (((s.hi - s.lo).toNat : Nat) : Int) = s.hi := by omega
    show rdCloud (t.length + 1) T r0 _ = _
    rw [e]
    unfold rdCloud
    rw [U.pNum_to _ (by omega) (by omega)]
    simp only [a1]
    rw [U.pNum_to _ (by omega) (by omega)]
    simp only [a2]
    rw [U.pNum_to _ (by omega) (by omega)]
    simp only [a3]
    rw [rdCloud_to t _ _ R h2 h7 (fun k => by unfold upd; split <;> first | omega | exact hT k)]
theorem rdCloud_of : ∀ (n : Nat) {T : Nat → Int} {r0 : Int} {Z R : List Int} {L : List Sn}, U.Oc Z → 0 ≤ r0 → rdCloud n T r0 Z = some (L, R) → Z = cloudB T r0 L ++ R ∧ L.length = n ∧ U.Oc R ∧ TrlOk T r0 L
  | 0, T, r0, Z, R, L, hZ, _, h => by
    unfold rdCloud at h
    simp only [Option.some.injEq, Prod.mk.injEq] at h
    obtain ⟨rfl, rfl⟩ := h
    exact ⟨rfl, rfl, hZ, trivial⟩
  | n + 1, T, r0, Z, R, L, hZ, h0, h => by
    unfold rdCloud at h
    cases h1 : U.pNum (15 - r0) Z with
    | none => rw [h1] at h; cases h
    | some y =>
      obtain ⟨a, Z1⟩ := y
      rw [h1] at h
      simp only at h
      obtain ⟨e1, l1, o1, -⟩ := U.pNum_of hZ h1
      cases h2 : U.pNum (1000000000 - (T (r0 + a).toNat + 2)) Z1 with
      | none => rw [h2] at h; cases h
      | some y =>
        obtain ⟨b, Z2⟩ := y
        rw [h2] at h
        simp only at h
        obtain ⟨e2, l2, o2, -⟩ := U.pNum_of o1 h2
        cases h3 : U.pNum (1000000000 - (T (r0 + a).toNat + 2 + b)) Z2 with
        | none => rw [h3] at h; cases h
        | some y =>
          obtain ⟨c, Z3⟩ := y
          rw [h3] at h
          simp only at h
          obtain ⟨e3, l3, o3, -⟩ := U.pNum_of o2 h3
          cases h4 : rdCloud n (upd T (r0 + a).toNat (T (r0 + a).toNat + 2 + b + c)) (r0 + a) Z3 with
          | none => rw [h4] at h; cases h
          | some y =>
            obtain ⟨M, R'⟩ := y
            rw [h4] at h
            simp only [Option.some.injEq, Prod.mk.injEq] at h
            obtain ⟨rfl, rfl⟩ := h
            obtain ⟨f1, f2, f3, f4⟩ := rdCloud_of n o3 (by omega) h4
            refine ⟨?_, by simp [f2], f3, ⟨(by show r0 ≤ r0 + (a : Int); omega), (by show 0 ≤ r0 + (a : Int); omega), (by show r0 + (a : Int) ≤ 15; omega)⟩, (by show T (r0 + (a : Int)).toNat + 2 ≤ T (r0 + (a : Int)).toNat + 2 + b; omega), (by show T (r0 + (a : Int)).toNat + 2 + (b : Int) ≤ T (r0 + (a : Int)).toNat + 2 + b + c; omega), (by show T (r0 + (a : Int)).toNat + 2 + (b : Int) + c ≤ 1000000000; omega), f4⟩
            have g1 : (r0 + (a : Int) - r0).toNat = a := by omega
            have g2 : (T (r0 + (a : Int)).toNat + 2 + (b : Int) - (T (r0 + (a : Int)).toNat + 2)).toNat = b := by omega
            have g3 : (T (r0 + (a : Int)).toNat + 2 + (b : Int) + c - (T (r0 + (a : Int)).toNat + 2 + b)).toNat = c := by omega
            simp only [cloudB, nB, List.append_assoc, g1, g2, g3]
            rw [← f1, ← e3, ← e2]
            exact e1
theorem trl_pos {V : List Int} (h : ∀ x ∈ V, 0 ≤ x ∧ x ≤ 1000000000) : ∀ k, 0 ≤ trl V k := by
  intro k
  unfold trl
  by_cases hk : k < V.length
  · rw [List.getD_eq_getElem?_getD, List.getElem?_eq_getElem hk]
    exact (h _ (List.getElem_mem hk)).1
  · rw [List.getD_eq_getElem?_getD, List.getElem?_eq_none (by omega)]
    exact Int.le_refl 0
theorem tdiv3 (n m : Nat) (h : 3 * m ≤ n) : (m : Int) ≤ ((n : Nat) : Int).tdiv (U.eachN 3) := by
  have e : U.eachN 3 = 3 := by decide
  rw [e, Int.tdiv_eq_ediv_of_nonneg (by omega)]
  omega
theorem rdPast_to {P : Pst} (h : InForm P) (R : List Int) : rdPast (pastB P ++ R) = some (P, R) := by
  have hl := inf_len h
  have hc := (canon_len (canon_iff.2 h)).1
  have e : pastB P ++ R = U.numB P.vec.length ++ (vecB P.vec ++ (U.numB P.cloud.length ++ (cloudB (trl P.vec) 0 P.cloud ++ R))) := by unfold pastB; simp only [List.append_assoc]
  rw [e]
  unfold rdPast
  rw [U.pNum_to _ (by omega) (by omega)]
  simp only
  rw [rdVec_to _ _ (inf_bd h)]
  simp only
  rw [U.pCnt_to _ (tdiv3 _ _ (by have := cloudB_len P.cloud (trl P.vec) 0; rw [List.length_append]; omega)) (by omega)]
  simp only
  rw [rdCloud_to _ _ _ _ (Int.le_refl 0) (inf_trl h) (trl_pos (inf_bd h))]
theorem rdPast_of {Z R : List Int} {P : Pst} (hZ : U.Oc Z) (h : rdPast Z = some (P, R)) : Z = pastB P ++ R ∧ U.Oc R ∧ P.vec.length ≤ 16 ∧ (∀ x ∈ P.vec, 0 ≤ x ∧ x ≤ 1000000000) ∧ TrlOk (trl P.vec) 0 P.cloud := by
  unfold rdPast at h
  cases h1 : U.pNum 16 Z with
  | none => rw [h1] at h; cases h
  | some y =>
    obtain ⟨n, Z1⟩ := y
    rw [h1] at h
    simp only at h
    obtain ⟨e1, l1, o1, -⟩ := U.pNum_of hZ h1
    cases h2 : rdVec n Z1 with
    | none => rw [h2] at h; cases h
    | some y =>
      obtain ⟨V, Z2⟩ := y
      rw [h2] at h
      simp only at h
      obtain ⟨e2, l2, o2, b2⟩ := rdVec_of n o1 h2
      cases h3 : U.pCnt 3 Z2 with
      | none => rw [h3] at h; cases h
      | some y =>
        obtain ⟨m, Z3⟩ := y
        rw [h3] at h
        simp only at h
        obtain ⟨e3, o3, l3⟩ := U.pCnt_of o2 h3
        cases h4 : rdCloud m (trl V) 0 Z3 with
        | none => rw [h4] at h; cases h
        | some y =>
          obtain ⟨L, R'⟩ := y
          rw [h4] at h
          simp only [Option.some.injEq, Prod.mk.injEq] at h
          obtain ⟨rfl, rfl⟩ := h
          obtain ⟨f1, f2, f3, f4⟩ := rdCloud_of m o3 (Int.le_refl 0) h4
          refine ⟨?_, f3, (by show V.length ≤ 16; omega), b2, f4⟩
          unfold pastB
          simp only [List.append_assoc]
          rw [← f1, f2, ← e3, ← e2, l2]
          exact e1
end Go.Proofs.Ytnghfnhpjdafmaa
