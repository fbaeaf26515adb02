/- The reference's Norm and Sum. -/
import Derived.Test.YtmmgbcmcjakdoaaWSt
namespace Go.Proofs.Ytmmgbcmcjakdoaa
open Go.RowKit V
attribute [local go_sem ↓] ld55_eq st55_eq
attribute [local go_sem] zeros_VC cells_VA

theorem fresh55 (w w1 : World) (f : Nat → Int) (hb : Below w.heap.size w w1) : ∃ w2 : World, (st55 (.pointer (some ⟨w1.heap.size, 0, none⟩)) (VA f)).run Try.prog (w1.alloc (.cells (VC fun _ => 0) 41)) = .ok () w2 ∧ Arr w2 w1.heap.size 41 f ∧ Below w.heap.size w w2 ∧ Below w1.heap.size w1 w2 :=
  ⟨_, run_st55 (arr_new w1 41 (fun _ => 0)), (arr_new w1 41 (fun _ => 0)).setRow, V.below_setRow (hb.alloc hb.size _) hb.size, V.below_setRow ((Below.refl _ _).alloc (Nat.le_refl _) _) (Nat.le_refl _)⟩

theorem refNorm_new (ao : Option Addr) (n cap : Nat) (Z : List Int) (w : World) (hS : Src w ao n cap Z) :
    Calls Try.prog 21 #[.slice ao n cap] w fun e w' => GivesN w w' e (short (at' Z)) := by
  have HS := hide hS
  clear hS
  go_enter Try.func21, Try.ntmps21
  go_wp2_with fail
  refine (full_any ao n cap Z _ HS.out).mono ?_
  rintro e w1 ⟨rfl, b1⟩
  go_wp2_with fail
  refine (short_new (at' Z) _).mono ?_
  rintro e w2 ⟨ao2, n2, c2, rfl, S2, b2, g2⟩
  have B := hide (below_on2 b1 b2)
  have S := hide S2
  have GG : Hid (∀ ad, ao2 = some ad → w.heap.size ≤ ad.block) := fun ad h => Nat.le_trans b1.size (g2 ad h)
  clear b1 b2 S2 g2
  go_wp2_with fail
  go_ret
  exact ⟨_, _, _, rfl, S.out, B.out, GG.out⟩

set_option maxHeartbeats 800000 in
theorem refSum_any (ao : Option Addr) (n cap : Nat) (Z : List Int) (w : World) (hS : Src w ao n cap Z) :
    Calls Try.prog 34 #[.slice ao n cap] w fun e w' => e = .returned (.int .i64 (sumN (at' Z) 16)) ∧ Below w.heap.size w w' := by
  have HS := hide hS
  clear hS
  go_enter Try.func34, Try.ntmps34
  go_wp2_with fail
  refine (full_any ao n cap Z _ HS.out).mono ?_
  rintro e w1 ⟨rfl, hb⟩
  have s1 := run_st55 (f' := at' Z) (arr_new w1 41 (fun _ => 0))
  have A1 := hide ((arr_new w1 41 (fun _ => 0)).setRow (f' := at' Z))
  have hb2 := hide (V.below_setRow (g := w1.heap.size) (cs := VC (at' Z)) (hb.alloc hb.size (.cells (VC fun _ => 0) 41)) hb.size)
  obtain ⟨w2, hw2⟩ : ∃ w2, (w1.alloc (.cells (VC fun _ => 0) 41)).setRow w1.heap.size (VC (at' Z)) = w2 := ⟨_, rfl⟩
  rw [hw2] at s1 A1 hb2
  clear hw2 hb
  go_wp2
  go_loopw [4, 5] (fun s i wr => ∃ k : Nat, k ≤ 16 ∧ i = .int .i64 k ∧ s = .int .i64 (sumN (at' Z) k) ∧ wr = w2) (fun _ i _ => 16 - (intOf i).toNat)
  case atStart => exact ⟨0, Nat.zero_le _, rfl, rfl, rfl⟩
  case round =>
    obtain ⟨k, hk, rfl, rfl, rfl⟩ := hrel
    have hs := sumN_bd (bnd_at Z) k hk
    by_cases hlt : k < 16
    · have c1 := A1.out.cell k hlt
      have hb := bnd_at Z k hlt
      obtain ⟨z, HZ⟩ : ∃ z, Hid (at' Z k = z) := ⟨_, rfl⟩
      obtain ⟨q, HQ⟩ : ∃ q, Hid (sumN (at' Z) k = q) := ⟨_, rfl⟩
      rw [HZ.out] at c1 hb
      rw [HQ.out] at hs ⊢
      go_wp2
      go_roundw
      case rel => exact ⟨k + 1, by omega, by go_num, by unfold sumN; rw [HZ.out, HQ.out], by trivial⟩
      case measure => simp [intOf]; omega
    · obtain rfl : k = 16 := by omega
      go_wp2
      go_ret
      exact ⟨rfl, hb2.out⟩

end Go.Proofs.Ytmmgbcmcjakdoaa
