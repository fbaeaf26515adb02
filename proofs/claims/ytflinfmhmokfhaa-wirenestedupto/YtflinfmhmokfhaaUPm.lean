/- Numbers there and back. -/
import Derived.Test.YtflinfmhmokfhaaUPn
namespace Go.Proofs.Ytflinfmhmokfhaa
open Go.RowKit

theorem rdN_numB (v : Nat) (R : List Int) (hv : v ≤ 9223372036854775807) : rdN (numB v ++ R) 0 = ((v : Int), ((numB v).length : Int), 0) := by
  have h := scan_numB (numB v ++ R) 0 R 9 0 v rfl (numB_nine hv) (fun _ => rfl)
  simp only [val, Int.pow_zero, Int.mul_one, Int.zero_add, Nat.zero_add] at h
  exact h
theorem rdN_short (v t : Nat) (ht : t < (numB v).length) (hv : v ≤ 9223372036854775807) : rdN ((numB v).take t) 0 = (0, 0, 50) :=
  scan_short ((numB v).take t) 0 t 9 0 v rfl ht (by have := numB_nine hv; omega)
theorem rdN_back (Z : List Int) (hZ : ∀ t, 0 ≤ Z.getD t 0 ∧ Z.getD t 0 ≤ 255) {x y : Int} (h : rdN Z 0 = (x, y, 0)) : ∃ v : Nat, x = v ∧ y = ((numB v).length : Int) ∧ Z = numB v ++ Z.drop (numB v).length := by
  obtain ⟨v, h1, h2, h3, -⟩ := scan_back Z hZ 0 9 0 x y h
  refine ⟨v, ?_, by rw [h2]; simp, ?_⟩
  · rw [h1]; simp [val]
  · simpa using h3
theorem nmV_numB (v : Nat) (R : List Int) (hv : v ≤ 9223372036854775807) : nmV (numB v ++ R) = v := by unfold nmV; rw [rdN_numB v R hv]; simp
theorem nmK_numB (v : Nat) (R : List Int) (hv : v ≤ 9223372036854775807) : nmK (numB v ++ R) = (numB v).length := by unfold nmK; rw [rdN_numB v R hv]; simp
theorem nmE_numB (v : Nat) (R : List Int) (most : Int) (hv : v ≤ 9223372036854775807) : nmE (numB v ++ R) most = if most < (v : Int) then 51 else 0 := by
  unfold nmE
  rw [rdN_numB v R hv]
  simp
/-- one frame -/
def frm (Y : List Int) : List Int := numB Y.length ++ Y
theorem frm_pos (Y : List Int) : 0 < (frm Y).length := by
  unfold frm
  by_cases hs : Y.length < 128
  · rw [numB_lt hs]; simp
  · rw [numB_ge hs]; simp
/-- a number that is read is below 2^63 -/
theorem scan_lt (Z : List Int) (a : Nat) : ∀ (f k : Nat), f + k ≤ 9 → (scan Z a f k).1 < 9223372036854775808
  | 0, k, _ => by show (0 : Int) < _; decide
  | f + 1, k, h => by
    unfold scan
    split
    · show (0 : Int) < _; decide
    · split
      · split
        · show (0 : Int) < _; decide
        · have h1 := (val_bd Z a (k + 1)).2
          have h2 : (128 : Int) ^ (k + 1) ≤ 128 ^ 9 := by
            have : (128 : Nat) ^ (k + 1) ≤ 128 ^ 9 := Nat.pow_le_pow_right (by decide) (by omega)
            exact_mod_cast this
          have h3 : (128 : Int) ^ 9 = 9223372036854775808 := by decide
          show val Z a (k + 1) < _
          omega
      · exact scan_lt Z a f (k + 1) (by omega)
theorem nmV_le (Z : List Int) : nmV Z ≤ 9223372036854775807 := by
  have := scan_lt Z 0 9 0 (by decide)
  unfold nmV rdN
  omega
end Go.Proofs.Ytflinfmhmokfhaa
