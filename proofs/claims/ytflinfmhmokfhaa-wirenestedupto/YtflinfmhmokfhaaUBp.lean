/- What steps put, and what is read of it again: plain. -/
import Derived.Test.YtflinfmhmokfhaaUPm
import Derived.Test.YtflinfmhmokfhaaUAk
import Derived.Test.YtflinfmhmokfhaaUPu
namespace Go.Proofs.Ytflinfmhmokfhaa
open Go.RowKit

/-- the bound under which a step is read again -/
def moreN (wide : Int) : Int := bits .and .i64 wide 1023
theorem moreN_bd (wide : Int) : 0 ≤ moreN wide ∧ moreN wide ≤ 1023 := by
  unfold moreN
  have h1 : (BitVec.ofInt 64 wide &&& BitVec.ofInt 64 1023).toNat ≤ 1023 := by
    rw [BitVec.toNat_and]
    exact Nat.le_trans Nat.and_le_right (by decide)
  have e : bits .and .i64 wide 1023 = IntKind.i64.wrap ((BitVec.ofInt 64 wide &&& BitVec.ofInt 64 1023).toNat : Int) := rfl
  rw [e]
  generalize (BitVec.ofInt 64 wide &&& BitVec.ofInt 64 1023).toNat = x at h1
  rw [IntKind.wrap_i64]
  omega
def fitN (s : Stp) (wide : Int) : Int :=
  if s.kind = 1 then (if s.n < 4611686018427387904 then s.n + moreN wide else s.n) else if s.kind = 3 ∨ s.kind = 4 then (s.s.size : Int) + moreN wide else 0
/-- a step that has an encoding -/
structure OkS (s : Stp) : Prop where
  kind : 1 ≤ s.kind ∧ s.kind ≤ 4
  num : s.kind = 1 → 0 ≤ s.n
  big : s.n ≤ 9223372036854775807
  len : s.s.size ≤ 1048576
def encS (s : Stp) : List Int := putB s.kind s.n s.b s.s
/-- what it is read as -/
def gotS (s : Stp) : Got := if s.kind = 1 then ⟨s.n, false, ⟨#[]⟩⟩ else if s.kind = 2 then ⟨0, s.b, ⟨#[]⟩⟩ else ⟨0, false, s.s⟩
/-- an ask of the kinds 1 to 4, plain -/
def asE (Z : List Int) (k n : Int) : Int := if k = 1 then nmE Z n else if k = 2 then flE Z else pcE Z n
def asG (Z : List Int) (k : Int) : Got := if k = 1 then ⟨(nmV Z : Int), false, ⟨#[]⟩⟩ else if k = 2 then ⟨0, flV Z, ⟨#[]⟩⟩ else ⟨0, false, strOfNums ((Z.drop (nmK Z)).take (nmV Z))⟩
def asK (Z : List Int) (k : Int) : Nat := if k = 1 then nmK Z else if k = 2 then 1 else nmK Z + nmV Z
variable {w w' w2 : World} {g : Nat} {ro : Option Addr} {rn rc : Nat} {Z : List Int}
theorem kinds4 {k : Int} (h : 1 ≤ k ∧ k ≤ 4) : k = 1 ∨ k = 2 ∨ k = 3 ∨ k = 4 := by omega
theorem ask_ok (R : RL w g ro rn rc Z) {k n : Int} (hk : 1 ≤ k ∧ k ≤ 4) (h : asE Z k n = 0) : Calls Try.prog 8 #[ptr g, .agg (KC ⟨k, n⟩)] w fun r w' => r = .returned (.agg (GC (asG Z k))) ∧ Mv w w' g ro rn (asK Z k) Z := by
  rcases kinds4 hk with rfl | rfl | rfl | rfl
  · exact ask1_ok R h
  · exact ask2_ok R h
  · exact ask3_ok R h
  · exact ask4_ok R h
theorem ask_bad (R : RL w g ro rn rc Z) {k n e : Int} (hk : 1 ≤ k ∧ k ≤ 4) (h : asE Z k n = e) (he : e ≠ 0) : Calls Try.prog 8 #[ptr g, .agg (KC ⟨k, n⟩)] w fun r w' => r = .panicked (ups g) ∧ Gave w w' g e := by
  rcases kinds4 hk with rfl | rfl | rfl | rfl
  · exact ask1_bad R h he
  · exact ask2_bad R h he
  · exact ask3_bad R h he
  · exact ask4_bad R h he
theorem asK_le {k n : Int} (hk : 1 ≤ k ∧ k ≤ 4) (h : asE Z k n = 0) : asK Z k ≤ Z.length := by
  rcases kinds4 hk with rfl | rfl | rfl | rfl
  · exact (nm_ok (show nmE Z n = 0 from h)).2.2.1
  · have h2 : flE Z = 0 := h
    unfold flE at h2
    split at h2
    · cases h2
    · show 1 ≤ _; omega
  · exact (pcE_ok (show pcE Z n = 0 from h)).2
  · exact (pcE_ok (show pcE Z n = 0 from h)).2
theorem strB_oct (s : ByteArray) (t : Nat) : 0 ≤ (strB s).getD t 0 ∧ (strB s).getD t 0 ≤ 255 := by
  by_cases h : t < s.size
  · rw [strB_at s t h]
    have := (s.data.toList.getD t 0).toNat_lt
    omega
  · rw [List.getD_eq_getElem?_getD, List.getElem?_eq_none (by rw [strB_length]; omega)]
    simp
theorem nums_strB (s : ByteArray) : strOfNums (strB s) = s := by
  have h : (strOfNums (strB s)).data.toList = s.data.toList := by
    rw [strOfNums_data]
    unfold strB
    rw [List.map_map]
    conv => rhs; rw [← List.map_id s.data.toList]
    refine List.map_congr_left fun x _ => ?_
    simp
  cases s with
  | mk d =>
    have : (strOfNums (strB ⟨d⟩)).data = d := by
      rw [← Array.toList_inj]
      exact h
    exact congrArg ByteArray.mk this
/-- what was put is read -/
theorem there (s : Stp) (hs : OkS s) (wide : Int) (R : List Int) : asE (encS s ++ R) s.kind (fitN s wide) = 0 ∧ asG (encS s ++ R) s.kind = gotS s ∧ asK (encS s ++ R) s.kind = (encS s).length := by
  obtain ⟨z, k, n, b, t⟩ := s
  have hm := moreN_bd wide
  have hk := hs.kind
  have hb := hs.big
  have hl := hs.len
  have hn := hs.num
  simp only at hk hb hl hn
  unfold asE asG asK encS gotS fitN putB
  simp only
  rcases kinds4 hk with rfl | rfl | rfl | rfl
  · have h0 := hn rfl
    simp only [if_pos, if_neg (show ¬ n < 0 by omega)]
    have e := nmE_numB n.toNat R (if n < 4611686018427387904 then n + moreN wide else n) (by omega)
    refine ⟨?_, ?_, nmK_numB _ _ (by omega)⟩
    · rw [e, if_neg]
      split <;> omega
    · rw [nmV_numB _ _ (by omega), show ((n.toNat : Nat) : Int) = n by omega]
  · simp only [if_neg (show ¬ (2 : Int) = 1 by decide), if_pos]
    refine ⟨?_, ?_, rfl⟩
    · unfold flE
      rw [if_neg (by simp)]
      cases b <;> rfl
    · unfold flV
      cases b <;> rfl
  all_goals
    simp only [if_neg (show ¬ (3 : Int) = 1 by decide), if_neg (show ¬ (3 : Int) = 2 by decide), if_neg (show ¬ (4 : Int) = 1 by decide), if_neg (show ¬ (4 : Int) = 2 by decide), true_or, or_true, if_pos]
    have e1 : (numB t.size ++ strB t) ++ R = numB t.size ++ (strB t ++ R) := List.append_assoc _ _ _
    rw [e1]
    have hsz := strB_length t
    have q1 := nmE_numB t.size (strB t ++ R) ((t.size : Int) + moreN wide) (by omega)
    have q2 := nmV_numB t.size (strB t ++ R) (by omega)
    have q3 := nmK_numB t.size (strB t ++ R) (by omega)
    refine ⟨?_, ?_, ?_⟩
    · unfold pcE
      rw [q1, if_neg (show ¬ (t.size : Int) + moreN wide < (t.size : Int) by omega), if_neg (by simp), q2, q3, if_neg (by simp only [List.length_append, hsz]; omega)]
    · rw [q2, q3, List.drop_left]
      rw [show t.size = (strB t).length from hsz.symm, List.take_left, nums_strB]
    · rw [q2, q3, List.length_append, hsz]
/-- a strict beginning is too short -/
theorem short (s : Stp) (hs : OkS s) (wide : Int) (i : Nat) (hi : i < (encS s).length) : asE ((encS s).take i) s.kind (fitN s wide) = 50 := by
  obtain ⟨z, k, n, b, t⟩ := s
  have hm := moreN_bd wide
  have hk := hs.kind
  have hb := hs.big
  have hl := hs.len
  have hn := hs.num
  simp only at hk hb hl hn
  unfold asE encS fitN at *
  unfold putB at *
  simp only at hi ⊢
  rcases kinds4 hk with rfl | rfl | rfl | rfl
  · have h0 := hn rfl
    simp only [if_pos, if_neg (show ¬ n < 0 by omega)] at hi ⊢
    unfold nmE
    rw [rdN_short n.toNat i hi (by omega)]
    rfl
  · simp only [if_neg (show ¬ (2 : Int) = 1 by decide), if_pos] at hi ⊢
    have : i = 0 := by simpa using hi
    subst this
    rfl
  all_goals
    simp only [if_neg (show ¬ (3 : Int) = 1 by decide), if_neg (show ¬ (3 : Int) = 2 by decide), if_neg (show ¬ (4 : Int) = 1 by decide), if_neg (show ¬ (4 : Int) = 2 by decide), true_or, or_true, if_pos] at hi ⊢
    have hsz := strB_length t
    unfold pcE
    by_cases hk2 : i < (numB t.size).length
    · have e : (numB t.size ++ strB t).take i = (numB t.size).take i := by rw [List.take_append_of_le_length (by omega)]
      rw [e]
      have hr := rdN_short t.size i hk2 (by omega)
      have h1 : nmE ((numB t.size).take i) ((t.size : Int) + moreN wide) = 50 := by unfold nmE; rw [hr]; rfl
      rw [h1]
      simp
    · obtain ⟨d, rfl⟩ : ∃ d, i = (numB t.size).length + d := ⟨i - (numB t.size).length, by omega⟩
      have e : (numB t.size ++ strB t).take ((numB t.size).length + d) = numB t.size ++ (strB t).take d := by rw [List.take_length_add_append]
      rw [List.length_append, hsz] at hi
      rw [e, nmE_numB _ _ _ (by omega), if_neg (show ¬ (t.size : Int) + moreN wide < (t.size : Int) by omega), if_neg (by simp), nmK_numB _ _ (by omega), nmV_numB _ _ (by omega), if_pos (by simp only [List.length_append, List.length_take, hsz]; omega)]
/-- the steps read from some bytes: what was read, the error, what is left -/
def rdS (wide : Int) : List Stp → List Int → List Got × Int × List Int
  | [], Z => ([], 0, Z)
  | s :: P, Z => if asE Z s.kind (fitN s wide) = 0 then (asG Z s.kind :: (rdS wide P (Z.drop (asK Z s.kind))).1, (rdS wide P (Z.drop (asK Z s.kind))).2) else ([], asE Z s.kind (fitN s wide), Z)
def encL (P : List Stp) : List Int := P.flatMap encS
theorem encL_cons (s : Stp) (P : List Stp) : encL (s :: P) = encS s ++ encL P := rfl
theorem rdS_there (wide : Int) : ∀ (P : List Stp) (R : List Int), (∀ s ∈ P, OkS s) → rdS wide P (encL P ++ R) = (P.map gotS, 0, R)
  | [], R, _ => rfl
  | s :: P, R, h => by
    obtain ⟨h1, h2, h3⟩ := there s (h s (List.mem_cons_self ..)) wide (encL P ++ R)
    have ih := rdS_there wide P R (fun x hx => h x (List.mem_cons_of_mem _ hx))
    rw [encL_cons, List.append_assoc]
    unfold rdS
    rw [if_pos h1, h2, h3, List.drop_left, ih]
    rfl
theorem rdS_short (wide : Int) : ∀ (P : List Stp) (i : Nat), (∀ s ∈ P, OkS s) → i < (encL P).length → (rdS wide P ((encL P).take i)).2.1 = 50
  | [], i, _, hi => absurd hi (Nat.not_lt_zero i)
  | s :: P, i, h, hi => by
    have hs := h s (List.mem_cons_self ..)
    rw [encL_cons, List.length_append] at hi
    rw [encL_cons]
    by_cases hlt : i < (encS s).length
    · have e := short s hs wide i hlt
      rw [List.take_append_of_le_length (by omega)]
      unfold rdS
      rw [e]
      rfl
    · obtain ⟨d, rfl⟩ : ∃ d, i = (encS s).length + d := ⟨i - (encS s).length, by omega⟩
      rw [List.take_length_add_append]
      obtain ⟨h1, h2, h3⟩ := there s hs wide ((encL P).take d)
      have ih := rdS_short wide P d (fun x hx => h x (List.mem_cons_of_mem _ hx)) (by omega)
      unfold rdS
      rw [if_pos h1, h3, List.drop_left]
      exact ih
end Go.Proofs.Ytflinfmhmokfhaa
