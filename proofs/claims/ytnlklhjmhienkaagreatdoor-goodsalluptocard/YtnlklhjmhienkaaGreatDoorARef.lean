/- The reference's digits and check: their contracts. -/
import Derived.Test.YtnlklhjmhienkaaGreatDoorAWid
namespace Go.Proofs.YtnlklhjmhienkaaGreatDoor.A
open Go.RowKit

set_option maxHeartbeats 800000 in
theorem digit_any' (c : UInt8) (w : World) : Calls Tryz.prog 37 #[.int .u8 (c.toNat : Int)] w fun e w' => e = .returned (.bool (dig c)) ∧ w' = w := by
  by_cases h : 48 ≤ (c.toNat : Int)
  · have HM : Hid (decide ((c.toNat : Int) ≤ 57) = dig c) := by show _ = _; unfold dig; rw [decide_eq_true h, Bool.true_and]
    go_enter Tryz.func37, Tryz.ntmps37
    go_wp2
    go_ret
    exact ⟨ret_bool HM.out, rfl⟩
  · have HM : Hid (false = dig c) := by show _ = _; unfold dig; rw [decide_eq_false h, Bool.false_and]
    go_enter Tryz.func37, Tryz.ntmps37
    go_wp2
    go_ret
    exact ⟨ret_bool HM.out, rfl⟩
set_option maxHeartbeats 800000 in
theorem digits_any (s : ByteArray) (w : World) (hs : s.size ≤ maxLen) :
    Calls Tryz.prog 58 #[.string s] w fun e w' => e = .returned (.bool (allDig s)) ∧ w' = w := by
  unfold maxLen at hs
  go_enter Tryz.func58, Tryz.ntmps58
  go_wp2
  go_loop [3] (fun i => ∃ k : Nat, k ≤ s.size ∧ i = .int .i64 k ∧ Hid ((s.data.toList.take k).all dig = true)) (fun i => s.size - (intOf i).toNat)
  case atStart => exact ⟨0, Nat.zero_le _, rfl, rfl⟩
  case round =>
    obtain ⟨k, hk, rfl, HA⟩ := hrel
    by_cases hlt : k < s.size
    · have HS : Hid (s.data.toList.take (k + 1) = s.data.toList.take k ++ [s[k]]) := take_snocB s k hlt
      obtain ⟨x, Hx⟩ : ∃ x : Bool, Hid (dig s[k] = x) := ⟨dig s[k], rfl⟩
      cases x with
      | true =>
        go_wp2_with (go_at_call 37; refine (digit_any' s[k] _).mono ?_; rintro e w' ⟨rfl, rfl⟩; rw [Hx.out])
        go_round
        case rel => exact ⟨k + 1, by omega, by go_num, by show _ = _; rw [HS.out, List.all_append, HA.out]; simp [Hx.out]⟩
        case measure => simp [intOf]; omega
      | false =>
        have HF := hide (allDig_no s k hlt Hx.out)
        go_wp2_with (go_at_call 37; refine (digit_any' s[k] _).mono ?_; rintro e w' ⟨rfl, rfl⟩; rw [Hx.out])
        go_ret
        exact ⟨ret_bool HF.out.symm, rfl⟩
    · have HF : Hid (allDig s = true) := by
        have e : s.data.toList.take k = s.data.toList := List.take_of_length_le (by simp; omega)
        have := HA.out
        rw [e] at this
        exact this
      go_wp2
      go_ret
      exact ⟨ret_bool HF.out.symm, rfl⟩
end Go.Proofs.YtnlklhjmhienkaaGreatDoor.A
