/- wire.Size, barrowref05.Num, barrowref05.Size: their contracts. -/
import Derived.Test.YteeoibohbakboaaNu
import Derived.Test.YteeoibohbakboaaShf
import Derived.Test.YteeoibohbakboaaOwn
namespace Go.Proofs.Yteeoibohbakboaa
open Go.RowKit

set_option maxHeartbeats 1600000 in
theorem size_any (n : Int) (w : World) (hn : n ≤ 9223372036854775807) : Calls Try.prog 6 #[.int .i64 n] w fun e w' => e = .returned (.int .i64 (szI n)) ∧ w' = w := by
  by_cases h0 : n < 0
  · have HF : Hid (szI n = 0) := by show _ = _; unfold szI; rw [if_pos h0]
    go_enter Try.func6, Try.ntmps6
    go_wp2
    go_ret
    exact ⟨ret_int HF.out.symm, rfl⟩
  · obtain ⟨k, rfl⟩ : ∃ k : Nat, n = k := ⟨n.toNat, by omega⟩
    have hc := cnt_bits k (by omega)
    have hle : Lib.bitLen k ≤ 64 := by unfold Lib.bitLen; exact Lib.bitLenAux_le 64 k 64 (by omega)
    have HF : Hid (szI k = ((max 1 ((Lib.bitLen k + 6) / 7) : Nat) : Int)) := by show _ = _; unfold szI; rw [if_neg h0, Int.toNat_natCast, hc]
    clear h0 hc
    have hB := Try.bits_Len k w (by omega) (by omega)
    rw [Int.toNat_natCast] at hB
    have HB := hide hB
    clear hB
    obtain ⟨b, Hb⟩ : ∃ b, Hid (Lib.bitLen k = b) := ⟨_, rfl⟩
    rw [Hb.out] at HB HF hle
    go_enter Try.func6, Try.ntmps6
    go_wp2_with (go_at_call 10; refine HB.out.mono ?_; rintro e' w' ⟨rfl, rfl⟩)
    go_ret
    exact ⟨ret_int (by rw [HF.out]; show max (1 : Int) (((b : Int) + 7 - 1) / 7) = _; omega), rfl⟩
theorem nb_small (n : Nat) (h : n < 128) : nb n = [(n : Int)] := by rw [nb, if_pos h]
theorem nb_big (n : Nat) (h : ¬ n < 128) : nb n = ((n % 128 + 128 : Nat) : Int) :: nb (n / 128) := by rw [nb, if_neg h]
theorem nb_le (n : Nat) (h : n < 9223372036854775808) : (nb n).length ≤ 9 := by rw [nb_length]; exact cnt_le n 9 (by omega) (by omega)
theorem wrap8 (x : Int) (h0 : 0 ≤ x) (h1 : x < 256) : IntKind.u8.wrap x = x := by rw [IntKind.wrap_u8]; omega
set_option maxHeartbeats 1600000 in
theorem refNum_any (n : Nat) (w : World) (hn : n < 9223372036854775808) : Calls Try.prog 11 #[.int .i64 n] w fun e w' => ∃ ao cap, e = .returned (.slice ao (nb n).length cap) ∧ Own w.heap.size w.heap.size w w' ao cap (nb n) := by
  have HLe := hide (nb_le n hn)
  go_enter Try.func11, Try.ntmps11
  go_wp2
  go_loopw [0, 3] (fun v s wr => ∃ (m : Nat) (acc : List Int) (ao : Option Addr) (cap : Nat), m ≤ n ∧ v = .int .i64 m ∧ s = .slice ao acc.length cap ∧ Hid (acc ++ nb m = nb n) ∧ Own w.heap.size w.heap.size w wr ao cap acc) (fun v _ _ => (intOf v).toNat)
  case atStart => exact ⟨n, [], none, 0, Nat.le_refl _, rfl, rfl, rfl, Own.nil (Below.refl _ _) (Nat.le_refl _) (Nat.le_refl _)⟩
  case round =>
    obtain ⟨m, acc, ao, cap, hm, rfl, rfl, HE, O⟩ := hrel
    have hl : acc.length ≤ 9 := by have h := congrArg List.length HE.out; rw [List.length_append] at h; have := HLe.out; omega
    by_cases hs : m < 128
    · have hw := wrap8 m (by omega) (by omega)
      have HN : Hid (nb n = acc ++ [(m : Int)]) := by show _ = _; rw [← HE.out, nb_small m hs]
      have hs' : ¬ (128 : Int) ≤ m := by omega
      go_wp2_with (at_builtin; refine O.append [(m : Int)] _ rfl (by simp) (by simp; omega) rfl (.tmp 15) (.tmp 18) rfl acc.length rfl rfl 1 rfl rfl ?_; intro g4 c4 w4 O4 hk4)
      go_ret
      exact ⟨some ⟨g4, 0, none⟩, c4, by rw [HN.out]; simp, by rw [HN.out]; exact O4⟩
    · have hw := wrap8 (128 + (m : Int) % 128) (by omega) (by omega)
      have HN : Hid ((acc ++ [128 + (m : Int) % 128]) ++ nb (m / 128) = nb n) := by show _ = _; rw [← HE.out, nb_big m hs, show ((m % 128 + 128 : Nat) : Int) = 128 + (m : Int) % 128 by omega]; simp
      have hs' : (128 : Int) ≤ m := by omega
      go_wp2_with (at_builtin; refine O.append [128 + (m : Int) % 128] _ rfl (by simp) (by simp; omega) rfl (.tmp 6) (.tmp 11) rfl acc.length rfl rfl 1 rfl rfl ?_; intro g4 c4 w4 O4 hk4)
      go_roundw
      case rel => exact ⟨m / 128, acc ++ [128 + (m : Int) % 128], some ⟨g4, 0, none⟩, c4, by omega, by go_num, by simp, HN, O4⟩
      case measure => simp [intOf]; omega
theorem refSize_any (n : Int) (w : World) (hn : n ≤ 9223372036854775807) : Calls Try.prog 7 #[.int .i64 n] w fun e w' => e = .returned (.int .i64 (szI n)) ∧ Below w.heap.size w w' := by
  by_cases h0 : n < 0
  · have HF : Hid (szI n = 0) := by show _ = _; unfold szI; rw [if_pos h0]
    go_enter Try.func7, Try.ntmps7
    go_wp2
    go_ret
    exact ⟨ret_int HF.out.symm, Below.refl _ _⟩
  · obtain ⟨k, rfl⟩ : ∃ k : Nat, n = k := ⟨n.toNat, by omega⟩
    have HF : Hid (szI k = (nb k).length) := by show _ = _; unfold szI; rw [if_neg h0, Int.toNat_natCast, nb_length]
    have HC := hide (refNum_any k w (by omega))
    go_enter Try.func7, Try.ntmps7
    go_wp2_with (go_at_call 11; refine HC.out.mono ?_; rintro e' w' ⟨ao, cap, rfl, O⟩)
    go_ret
    exact ⟨ret_int HF.out.symm, O.below⟩
end Go.Proofs.Yteeoibohbakboaa
