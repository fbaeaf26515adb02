/- counts.sum, counts.over, counts.under: their contracts. -/
import Derived.Test.YtdilejbdkhkifaaHas
namespace Go.Proofs.Ytdilejbdkhkifaa
open Go.RowKit
attribute [local go_sem ↓] ld56_eq st56_eq
attribute [local go_sem] zeros_VC cells_VA

/-- the first k numbers, summed -/
def sumN (f : Nat → Int) : Nat → Int
  | 0 => 0
  | k + 1 => sumN f k + f k
/-- between 0 and 1000000000, each -/
def Bd (f : Nat → Int) : Prop := ∀ r, r < 16 → 0 ≤ f r ∧ f r ≤ 1000000000
theorem sumN_bd (f : Nat → Int) (h : Bd f) (k : Nat) (hk : k ≤ 16) : 0 ≤ sumN f k ∧ sumN f k ≤ 1000000000 * k := by
  induction k with
  | zero => simp [sumN]
  | succ k ih =>
    have h1 := ih (by omega)
    have h2 := h k (by omega)
    unfold sumN
    omega

set_option maxHeartbeats 800000 in
theorem sum_any (f : Nat → Int) (w : World) (hf : Bd f) :
    Calls Try.prog 39 #[VA f] w fun e w' => e = .returned (.int .i64 (sumN f 16)) ∧ Below w.heap.size w w' := by
  have HF := hide hf
  clear hf
  go_enter Try.func39, Try.ntmps39
  go_wp2
  go_loopw [3, 5] (fun s i wr => ∃ k : Nat, k ≤ 16 ∧ i = .int .i64 k ∧ s = .int .i64 (sumN f k) ∧ Hid (Arr wr w.heap.size 56 f) ∧ Hid (Below w.heap.size w wr)) (fun _ i _ => 16 - (intOf i).toNat)
  case atStart => exact ⟨0, Nat.zero_le _, rfl, rfl, arr_new w 56 f, (Below.refl _ _).alloc (Nat.le_refl _) _⟩
  case round =>
    obtain ⟨k, hk, rfl, rfl, A, HB⟩ := hrel
    have hs := sumN_bd f HF.out k hk
    by_cases hlt : k < 16
    · have c1 := A.out.cell k hlt
      have hb := HF.out k hlt
      obtain ⟨z, HZ⟩ : ∃ z, Hid (f k = z) := ⟨_, rfl⟩
      obtain ⟨q, HQ⟩ : ∃ q, Hid (sumN f k = q) := ⟨_, rfl⟩
      rw [HZ.out] at c1 hb
      rw [HQ.out] at hs ⊢
      go_wp2
      go_roundw
      case rel => exact ⟨k + 1, by omega, by go_num, by unfold sumN; rw [HZ.out, HQ.out], A, HB⟩
      case measure => simp [intOf]; omega
    · obtain rfl : k = 16 := by omega
      go_wp2
      go_ret
      exact ⟨rfl, HB.out⟩
end Go.Proofs.Ytdilejbdkhkifaa
