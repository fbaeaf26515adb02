/- WireOneForm: the plain words. -/
import Derived.Test.YtgcaijfofcbblaaUPm
import Derived.Test.YtgcaijfofcbblaaUNu
import Derived.Test.YtgcaijfofcbblaaUCv
import Derived.Test.YtgcaijfofcbblaaUSz
import Derived.Lib.Strings
namespace Go.Proofs.Ytgcaijfofcbblaa
open Go.RowKit

theorem scan_kinds (Z : List Int) (a f k : Nat) : (scan Z a f k).2.2 = 0 ∨ (scan Z a f k).2.2 = 50 ∨ (scan Z a f k).2.2 = 51 := by
  induction f generalizing k with
  | zero => exact Or.inr (Or.inr rfl)
  | succ f ih =>
    unfold scan
    split
    · exact Or.inr (Or.inl rfl)
    · split
      · split
        · exact Or.inr (Or.inr rfl)
        · exact Or.inl rfl
      · exact ih _
theorem numB_pos (v : Nat) : 0 < (numB v).length := by
  by_cases hs : v < 128
  · rw [numB_lt hs]; simp
  · rw [numB_ge hs]; simp
/-- Num's answer: an error, or a number with the bytes from which it was read -/
theorem num_cases (Z : List Int) (hZ : ∀ t, 0 ≤ Z.getD t 0 ∧ Z.getD t 0 ≤ 255) (a : Int) :
    (∃ e : Int, numA Z a = (0, 0, e) ∧ e ≠ 0 ∧ (e == 2) = (decide (a < 0) || decide ((Z.length : Int) < a))) ∨
    ∃ k v : Nat, a = (k : Int) ∧ numA Z a = ((v : Int), ((k + (numB v).length : Nat) : Int), 0) ∧ Z.drop k = numB v ++ Z.drop (k + (numB v).length) ∧ v ≤ 9223372036854775807 ∧ k + (numB v).length ≤ Z.length := by
  by_cases h : a < 0 ∨ (Z.length : Int) < a
  · refine Or.inl ⟨2, by unfold numA; rw [if_pos h], by decide, ?_⟩
    have : (decide (a < 0) || decide ((Z.length : Int) < a)) = true := by simpa using h
    rw [this]; rfl
  · obtain ⟨k, rfl⟩ : ∃ k : Nat, a = k := ⟨a.toNat, by omega⟩
    have hf : (decide ((k : Int) < 0) || decide ((Z.length : Int) < (k : Int))) = false := by simpa using h
    by_cases h2 : (rdN Z k).2.2 = 0
    · refine Or.inr ?_
      obtain ⟨x, y, e, he⟩ : ∃ x y e, rdN Z k = (x, y, e) := ⟨_, _, _, rfl⟩
      rw [he] at h2
      simp only at h2
      subst h2
      have hd := rdN_drop Z k
      rw [he] at hd
      obtain ⟨v, h1, h3, h4⟩ := rdN_back (Z.drop k) (fun t => by rw [drop_getD]; exact hZ _) hd
      have hl := scan_size Z k 9 0 (by show (rdN Z k).2.2 = 0; rw [he])
      have e2 : scan Z k 9 0 = (x, y, 0) := he
      rw [e2] at hl
      simp only at hl
      have hv := scan_lt Z k 9 0 (by decide)
      rw [e2] at hv
      simp only at hv
      refine ⟨k, v, rfl, ?_, ?_, by omega, by omega⟩
      · unfold numA
        rw [if_neg h, Int.toNat_natCast, he, if_pos rfl, h1, h3]
        simp
      · rw [List.drop_drop] at h4
        exact h4
    · refine Or.inl ⟨(rdN Z k).2.2, ?_, h2, ?_⟩
      · unfold numA
        rw [if_neg h, Int.toNat_natCast, if_neg h2]
      · rw [hf]
        have := scan_kinds Z k 9 0
        have h3 : (rdN Z k).2.2 = 50 ∨ (rdN Z k).2.2 = 51 := by
          rcases this with x | x | x
          · exact absurd x h2
          · exact Or.inl x
          · exact Or.inr x
        rcases h3 with x | x <;> rw [x] <;> rfl
theorem numA_one : numA [128, 148, 235, 220, 3] 0 = (1000000000, 5, 0) := by decide
theorem szI_one : szI 1000000000 = 5 := by decide +kernel
/-- the row with noughts from k to j -/
def zeros (Z : List Int) (k j : Nat) : List Int := Z.take k ++ (List.replicate (j - k) 0 ++ Z.drop j)
theorem zeros_self (Z : List Int) (k : Nat) : zeros Z k k = Z := by simp [zeros]
theorem zeros_len (Z : List Int) (k j : Nat) (h1 : k ≤ j) (h2 : j ≤ Z.length) : (zeros Z k j).length = Z.length := by
  simp [zeros]; omega
theorem zeros_succ (Z : List Int) (k j : Nat) (h1 : k ≤ j) (h2 : j < Z.length) : (zeros Z k j).set j 0 = zeros Z k (j + 1) := by
  have hl : (Z.take k).length = k := by simp; omega
  have hd : Z.drop j = Z[j] :: Z.drop (j + 1) := List.drop_eq_getElem_cons h2
  have hr : List.replicate (j + 1 - k) (0 : Int) = List.replicate (j - k) 0 ++ [0] := by
    rw [show j + 1 - k = (j - k) + 1 by omega, List.replicate_succ']
  unfold zeros
  rw [List.set_append_right _ _ (by omega), hl, List.set_append_right _ _ (by simp), List.length_replicate, Nat.sub_self, hd, List.set_cons_zero, hr]
  simp
theorem zeros_take (Z : List Int) (k j : Nat) (h2 : k ≤ Z.length) : (zeros Z k j).take k = Z.take k := by
  unfold zeros
  rw [List.take_append_of_le_length (by simp; omega), List.take_take, Nat.min_self]
theorem zeros_drop (Z : List Int) (k j : Nat) (h1 : k ≤ j) (h2 : j ≤ Z.length) : (zeros Z k j).drop j = Z.drop j := by
  unfold zeros
  rw [← List.append_assoc]
  exact List.drop_left' (by simp; omega)
theorem zeros_oct (Z : List Int) (hZ : ∀ t, 0 ≤ Z.getD t 0 ∧ Z.getD t 0 ≤ 255) (k : Nat) : ∀ j, k ≤ j → j ≤ Z.length → ∀ t, 0 ≤ (zeros Z k j).getD t 0 ∧ (zeros Z k j).getD t 0 ≤ 255 := by
  intro j h1 h2 t
  have key : ∀ x ∈ zeros Z k j, (0 : Int) ≤ x ∧ x ≤ 255 := by
    intro x hx
    have hm : ∀ y ∈ Z, (0 : Int) ≤ y ∧ y ≤ 255 := by
      intro y hy
      obtain ⟨i, hi, e⟩ := List.getElem_of_mem hy
      have := hZ i
      rw [List.getD_eq_getElem?_getD, List.getElem?_eq_getElem hi, e] at this
      exact this
    unfold zeros at hx
    rcases List.mem_append.1 hx with h | h
    · exact hm x (List.mem_of_mem_take h)
    · rcases List.mem_append.1 h with h | h
      · obtain ⟨-, rfl⟩ := List.mem_replicate.1 h
        decide
      · exact hm x (List.mem_of_mem_drop h)
  rw [List.getD_eq_getElem?_getD]
  cases hc : (zeros Z k j)[t]? with
  | none => simp
  | some x => exact key x (List.mem_of_getElem? hc)
theorem numA_zeros (Z : List Int) (k j : Nat) (h1 : k < j) (h2 : j ≤ Z.length) : numA (zeros Z k j) (k : Int) = (0, ((k + 1 : Nat) : Int), 0) := by
  have hl := zeros_len Z k j (by omega) h2
  have hd : (zeros Z k j).drop k = numB 0 ++ ((zeros Z k j).drop (k + 1)) := by
    have hg : k < (zeros Z k j).length := by omega
    rw [List.drop_eq_getElem_cons hg, numB_lt (by decide)]
    have : (zeros Z k j)[k] = 0 := by
      have e : (zeros Z k j)[k]? = some 0 := by
        unfold zeros
        rw [List.getElem?_append_right (by simp; omega), List.getElem?_append_left (by simp; omega)]
        rw [List.getElem?_replicate, if_pos (by simp; omega)]
      rw [List.getElem?_eq_getElem hg] at e
      exact Option.some.inj e
    rw [this]
    rfl
  have hr := rdN_numB 0 ((zeros Z k j).drop (k + 1)) (by decide)
  rw [← hd, rdN_drop] at hr
  unfold numA
  rw [if_neg (by omega), Int.toNat_natCast, hr, numB_lt (by decide)]
  simp
/-! ### pieces of a text -/
theorem str_ext (Z : List Int) (a b : Nat) : (strOfNums Z).extract a b = strOfNums ((Z.drop a).take (b - a)) := by
  rw [Lib.extract_eq, strOfNums_data, ← List.map_drop, ← List.map_take]
  rfl
theorem str_size (Z : List Int) : (strOfNums Z).size = Z.length := by
  show (strOfNums Z).data.toList.length = _
  rw [strOfNums_data, List.length_map]
end Go.Proofs.Ytgcaijfofcbblaa
