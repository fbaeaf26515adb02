/- wire.Size. -/
import Derived.Test.YtpnlfljndkfplaaYBy
import Derived.Test.YtpnlfljndkfplaaUBl
import Derived.Lib.BitFns
namespace Go.Proofs.Ytpnlfljndkfplaa
open Go.RowKit

theorem ret_intS {k : IntKind} {a b : Int} (h : a = b) : Ending.returned (.int k a) = .returned (.int k b) := by rw [h]
/-- how many bytes a number takes -/
def cnt (n : Nat) : Nat := if n < 128 then 1 else 1 + cnt (n / 128)
termination_by n
theorem cnt_small (n : Nat) (h : n < 128) : cnt n = 1 := by rw [cnt, if_pos h]
theorem cnt_big (n : Nat) (h : ¬ n < 128) : cnt n = 1 + cnt (n / 128) := by rw [cnt, if_neg h]
theorem bitLen_small : ∀ n : Fin 128, max 1 ((Lib.bitLen n.val + 6) / 7) = 1 := by decide +kernel
theorem cnt_bits (n : Nat) (h : n < 9223372036854775808) : max 1 ((Lib.bitLen n + 6) / 7) = cnt n := by
  induction n using Nat.strongRecOn with
  | _ n ih =>
    by_cases hs : n < 128
    · rw [cnt_small n hs]; exact bitLen_small ⟨n, hs⟩
    · rw [cnt_big n hs, Lib.bitLen_shift 7 n (by omega) (by omega), ← ih (n / 128) (by omega) (by omega), show n / 2 ^ 7 = n / 128 from rfl, Lib.bitLen_half (n / 128) (by omega) (by omega)]
      generalize Lib.bitLen (n / 128 / 2) = q
      omega
def szI (n : Int) : Int := if n < 0 then 0 else (cnt n.toNat : Int)
theorem cnt_le (n f : Nat) (h : n < 128 ^ f) (hf : 0 < f) : cnt n ≤ f := by
  induction f generalizing n with
  | zero => omega
  | succ f ih =>
    by_cases hs : n < 128
    · rw [cnt_small n hs]; omega
    · rw [cnt_big n hs]
      cases f with
      | zero => rw [Nat.pow_succ] at h; omega
      | succ f =>
        have := ih (n / 128) (by rw [Nat.pow_succ] at h; omega) (by omega)
        omega
set_option maxHeartbeats 1600000 in
theorem size_any (n : Int) (w : World) (hn : n ≤ 9223372036854775807) : Calls Try.prog 28 #[.int .i64 n] w fun e w' => e = .returned (.int .i64 (szI n)) ∧ w' = w := by
  by_cases h0 : n < 0
  · have HF : Hid (szI n = 0) := by show _ = _; unfold szI; rw [if_pos h0]
    go_enter Try.func28, Try.ntmps28
    go_wp2
    go_ret
    exact ⟨ret_intS HF.out.symm, rfl⟩
  · obtain ⟨k, rfl⟩ : ∃ k : Nat, n = k := ⟨n.toNat, by omega⟩
    have hc := cnt_bits k (by omega)
    have hle : Lib.bitLen k ≤ 64 := by unfold Lib.bitLen; exact Lib.bitLenAux_le 64 k 64 (by omega)
    have HF : Hid (szI k = ((max 1 ((Lib.bitLen k + 6) / 7) : Nat) : Int)) := by show _ = _; unfold szI; rw [if_neg h0, Int.toNat_natCast, hc]
    clear h0 hc
    have hB := Try.bits_Len k w (by omega) (by omega)
    rw [Int.toNat_natCast] at hB
    have HB := hide hB
    clear hB
    obtain ⟨b, Hb⟩ : ∃ b, Hid (Lib.bitLen k = b) := ⟨_, rfl⟩
    rw [Hb.out] at HB HF hle
    go_enter Try.func28, Try.ntmps28
    go_wp2_with (go_at_call 41; refine HB.out.mono ?_; rintro e' w' ⟨rfl, rfl⟩)
    go_ret
    exact ⟨ret_intS (by rw [HF.out]; show max (1 : Int) (((b : Int) + 7 - 1) / 7) = _; omega), rfl⟩
theorem cnt_numB (n : Nat) : (numB n).length = cnt n := by
  induction n using Nat.strongRecOn with
  | _ n ih =>
    by_cases hs : n < 128
    · rw [cnt_small n hs, numB_lt hs]; rfl
    · rw [cnt_big n hs, numB_ge hs, List.length_cons, ih _ (by omega)]; omega
theorem size_numB (n : Nat) (w : World) (hn : n ≤ 9223372036854775807) : Calls Try.prog 28 #[.int .i64 (n : Int)] w fun e w' => e = .returned (.int .i64 ((numB n).length : Int)) ∧ w' = w := by
  have h := size_any (n : Int) w (by omega)
  have e : szI (n : Int) = ((numB n).length : Int) := by
    unfold szI
    rw [if_neg (by omega), Int.toNat_natCast, cnt_numB]
  rw [e] at h
  exact h
end Go.Proofs.Ytpnlfljndkfplaa
