/- Norm, Sum, IsNorm, and the reference's: their contracts. -/
import Derived.Test.YtdilejbdkhkifaaShort
import Derived.Test.YtdilejbdkhkifaaSum
import Derived.Test.YtdilejbdkhkifaaEq
namespace Go.Proofs.Ytdilejbdkhkifaa
open Go.RowKit
attribute [local go_sem ↓] ld56_eq st56_eq ld55_eq st55_eq
attribute [local go_sem] zeros_VC cells_VA

theorem Gives.on {w w1 w' : World} {e : Ending} {Z : List Int} (h : Gives w1 w' e Z) (hb : Below w.heap.size w w1) : Gives w w' e Z := by
  obtain ⟨ao, n, c, he, S, b⟩ := h
  exact ⟨ao, n, c, he, S, hb.trans (b.mono hb.size)⟩
theorem below_on2 {a b c : World} (h1 : Below a.heap.size a b) (h2 : Below b.heap.size b c) : Below a.heap.size a c := h1.trans (h2.mono h1.size)
theorem bd_at (Z : List Int) : Bd (at' Z) := fun r _ => at'_bd Z r

theorem norm_any (ao : Option Addr) (n cap : Nat) (Z : List Int) (w : World) (hS : Src w ao n cap Z) :
    Calls Try.prog 16 #[.slice ao n cap] w fun e w' => Gives w w' e (short (at' Z)) := by
  have HS := hide hS
  clear hS
  go_enter Try.func16, Try.ntmps16
  go_wp2_with fail
  refine (meant_any ao n cap Z _ HS.out).mono ?_
  rintro e w1 ⟨rfl, b1⟩
  go_wp2_with fail
  refine (list_any (at' Z) _).mono ?_
  rintro e w2 ⟨ao2, n2, c2, rfl, S2, b2⟩
  have B := hide (below_on2 b1 b2)
  have S := hide S2
  clear b1 b2 S2
  go_wp2_with fail
  go_ret
  exact ⟨_, _, _, rfl, S.out, B.out⟩

theorem refNorm_any (ao : Option Addr) (n cap : Nat) (Z : List Int) (w : World) (hS : Src w ao n cap Z) :
    Calls Try.prog 12 #[.slice ao n cap] w fun e w' => Gives w w' e (short (at' Z)) := by
  have HS := hide hS
  clear hS
  go_enter Try.func12, Try.ntmps12
  go_wp2_with fail
  refine (full_any ao n cap Z _ HS.out).mono ?_
  rintro e w1 ⟨rfl, b1⟩
  go_wp2_with fail
  refine (short_any (at' Z) _).mono ?_
  rintro e w2 ⟨ao2, n2, c2, rfl, S2, b2⟩
  have B := hide (below_on2 b1 b2)
  have S := hide S2
  clear b1 b2 S2
  go_wp2_with fail
  go_ret
  exact ⟨_, _, _, rfl, S.out, B.out⟩

theorem vsum_any (ao : Option Addr) (n cap : Nat) (Z : List Int) (w : World) (hS : Src w ao n cap Z) :
    Calls Try.prog 11 #[.slice ao n cap] w fun e w' => e = .returned (.int .i64 (sumN (at' Z) 16)) ∧ Below w.heap.size w w' := by
  have HS := hide hS
  clear hS
  go_enter Try.func11, Try.ntmps11
  go_wp2_with fail
  refine (meant_any ao n cap Z _ HS.out).mono ?_
  rintro e w1 ⟨rfl, b1⟩
  go_wp2_with fail
  refine (sum_any (at' Z) _ (bd_at Z)).mono ?_
  rintro e w2 ⟨rfl, b2⟩
  have B := hide (below_on2 b1 b2)
  clear b1 b2
  go_wp2_with fail
  go_ret
  exact ⟨rfl, B.out⟩

set_option maxHeartbeats 800000 in
theorem refSum_any (ao : Option Addr) (n cap : Nat) (Z : List Int) (w : World) (hS : Src w ao n cap Z) :
    Calls Try.prog 14 #[.slice ao n cap] w fun e w' => e = .returned (.int .i64 (sumN (at' Z) 16)) ∧ Below w.heap.size w w' := by
  have HS := hide hS
  clear hS
  go_enter Try.func14, Try.ntmps14
  go_wp2_with fail
  refine (full_any ao n cap Z _ HS.out).mono ?_
  rintro e w1 ⟨rfl, hb⟩
  have s1 := run_st55 (f' := at' Z) (arr_new w1 55 (fun _ => 0))
  have A1 := hide ((arr_new w1 55 (fun _ => 0)).setRow (f' := at' Z))
  have hb2 := hide (below_setRow (g := w1.heap.size) (cs := VC (at' Z)) (hb.alloc hb.size (.cells (VC fun _ => 0) 55)) hb.size)
  obtain ⟨w2, hw2⟩ : ∃ w2, (w1.alloc (.cells (VC fun _ => 0) 55)).setRow w1.heap.size (VC (at' Z)) = w2 := ⟨_, rfl⟩
  rw [hw2] at s1 A1 hb2
  clear hw2 hb
  go_wp2
  go_loopw [4, 5] (fun s i wr => ∃ k : Nat, k ≤ 16 ∧ i = .int .i64 k ∧ s = .int .i64 (sumN (at' Z) k) ∧ wr = w2) (fun _ i _ => 16 - (intOf i).toNat)
  case atStart => exact ⟨0, Nat.zero_le _, rfl, rfl, rfl⟩
  case round =>
    obtain ⟨k, hk, rfl, rfl, rfl⟩ := hrel
    have hs := sumN_bd (at' Z) (bd_at Z) k hk
    by_cases hlt : k < 16
    · have c1 := A1.out.cell k hlt
      have hb := bd_at Z k hlt
      obtain ⟨z, HZ⟩ : ∃ z, Hid (at' Z k = z) := ⟨_, rfl⟩
      obtain ⟨q, HQ⟩ : ∃ q, Hid (sumN (at' Z) k = q) := ⟨_, rfl⟩
      rw [HZ.out] at c1 hb
      rw [HQ.out] at hs ⊢
      go_wp2
      go_roundw
      case rel => exact ⟨k + 1, by omega, by go_num, by unfold sumN; rw [HZ.out, HQ.out], by trivial⟩
      case measure => simp [intOf]; omega
    · obtain rfl : k = 16 := by omega
      go_wp2
      go_ret
      exact ⟨rfl, hb2.out⟩

theorem refIsNorm_any (ao : Option Addr) (n cap : Nat) (Z : List Int) (w : World) (hS : Src w ao n cap Z) (hn : n ≤ maxLen) :
    Calls Try.prog 13 #[.slice ao n cap] w fun e w' => e = .returned (.bool (decide (Z = short (at' Z)))) ∧ Below w.heap.size w w' := by
  have HS := hide hS
  have HN := hide hn
  clear hS hn
  go_enter Try.func13, Try.ntmps13
  go_wp2_with fail
  refine (refNorm_any ao n cap Z _ HS.out).mono ?_
  rintro e w1 ⟨ao2, n2, c2, rfl, S2, b1⟩
  have S := hide S2
  have B1 := hide b1
  clear S2 b1
  go_wp2_with fail
  refine (equal_any ao ao2 n n2 cap c2 Z _ _ (HS.out.below B1.out) S.out HN.out).mono ?_
  rintro e w2 ⟨rfl, b2⟩
  have B := hide (below_on2 B1.out b2)
  clear b2
  go_wp2_with fail
  go_ret
  exact ⟨rfl, B.out⟩
end Go.Proofs.Ytdilejbdkhkifaa
