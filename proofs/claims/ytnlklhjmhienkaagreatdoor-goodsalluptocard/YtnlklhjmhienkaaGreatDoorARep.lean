/- strings.Repeat of the text 0, as often as Widen asks: nought, once, twice, six times. -/
import Derived.Test.YtnlklhjmhienkaaGreatDoorADig
namespace Go.Proofs.YtnlklhjmhienkaaGreatDoor.A
open Go.RowKit

def hp (a b : ByteArray) : Bool := decide (b.size ≤ a.size) && ((a.extract 0 b.size).toList == b.toList)

set_option maxHeartbeats 800000 in
theorem hasPrefix_any (a b : ByteArray) (w : World) (_ha : a.size ≤ maxLen) (_hb : b.size ≤ maxLen) : Calls Tryz.prog 78 #[.string a, .string b] w fun e w' => ∃ v : Bool, e = .returned (.bool v) ∧ v = hp a b ∧ w' = w := by
  unfold maxLen at _ha _hb
  by_cases h : b.size ≤ a.size
  · have HP : Hid (((a.extract 0 b.size).toList == b.toList) = hp a b) := by show _ = _; unfold hp; rw [decide_eq_true h, Bool.true_and]
    go_enter Tryz.func78, Tryz.ntmps78
    go_wp2
    go_ret
    exact ⟨_, rfl, HP.out, rfl⟩
  · have HP : Hid (false = hp a b) := by show _ = _; unfold hp; rw [decide_eq_false h, Bool.false_and]
    go_enter Tryz.func78, Tryz.ntmps78
    go_wp2
    go_ret
    exact ⟨_, rfl, HP.out, rfl⟩
theorem hp_no (a b : ByteArray) (w : World) (ha : a.size ≤ maxLen) (hb : b.size ≤ maxLen) (h : hp a b = false) : Calls Tryz.prog 78 #[.string a, .string b] w fun e w' => e = .returned (.bool false) ∧ w' = w :=
  (hasPrefix_any a b w ha hb).mono fun e w' ⟨v, he, hv, hw⟩ => ⟨by rw [he, hv, h], hw⟩
theorem hp_yes (a b : ByteArray) (w : World) (ha : a.size ≤ maxLen) (hb : b.size ≤ maxLen) (h : hp a b = true) : Calls Tryz.prog 78 #[.string a, .string b] w fun e w' => e = .returned (.bool true) ∧ w' = w :=
  (hasPrefix_any a b w ha hb).mono fun e w' ⟨v, he, hv, hw⟩ => ⟨by rw [he, hv, h], hw⟩
def zs (n : Nat) : ByteArray := ⟨(List.replicate n (48 : UInt8)).toArray⟩

set_option maxRecDepth 100000 in
set_option maxHeartbeats 2000000 in
theorem rep0 (w : World) : Calls Tryz.prog 60 #[.string ⟨#[48]⟩, .int .i64 0] w fun e w' => e = .returned (.string ⟨#[]⟩) ∧ w' = w := by
  go_enter Tryz.func60, Tryz.ntmps60
  go_wp2
  go_ret
  exact ⟨rfl, rfl⟩
set_option maxRecDepth 100000 in
set_option maxHeartbeats 2000000 in
theorem rep1 (w : World) : Calls Tryz.prog 60 #[.string ⟨#[48]⟩, .int .i64 1] w fun e w' => e = .returned (.string ⟨#[48]⟩) ∧ w' = w := by
  go_enter Tryz.func60, Tryz.ntmps60
  go_wp2
  go_ret
  exact ⟨rfl, rfl⟩
set_option maxRecDepth 100000 in
set_option maxHeartbeats 2000000 in
theorem mul2 (w : World) : Calls Tryz.prog 77 #[.int .u64 1, .int .u64 2] w fun e w' => e = .returned (.tuple #[.int .u64 0, .int .u64 2]) ∧ w' = w := by
  have h1 : bits BinOp.and IntKind.u64 1 4294967295 = 1 := by decide
  have h2 : bits BinOp.and IntKind.u64 2 4294967295 = 2 := by decide
  have h3 : bits BinOp.and IntKind.u64 0 4294967295 = 0 := by decide
  go_enter Tryz.func77, Tryz.ntmps77
  go_wp2
  go_ret2
  exact ⟨by simp, rfl⟩
set_option maxRecDepth 100000 in
set_option maxHeartbeats 2000000 in
theorem rep2 (w : World) : Calls Tryz.prog 60 #[.string ⟨#[48]⟩, .int .i64 2] w fun e w' => e = .returned (.string ⟨#[48, 48]⟩) ∧ w' = w := by
  have i0 : ∀ h, ((⟨#[48]⟩ : ByteArray)[0]'h).toNat = 48 := fun _ => rfl
  go_enter Tryz.func60, Tryz.ntmps60
  go_wp2_with (first | (go_at_call 77; refine (mul2 _).mono ?_; rintro e w' ⟨rfl, rfl⟩) | (go_at_call 78; refine (hp_no _ _ _ ?_ ?_ ?_).mono ?_; decide +kernel; decide +kernel; decide +kernel; rintro e w' ⟨rfl, rfl⟩) | (go_at_call 78; refine (hp_yes _ _ _ ?_ ?_ ?_).mono ?_; decide +kernel; decide +kernel; decide +kernel; rintro e w' ⟨rfl, rfl⟩) | go_in)
  go_ret
  exact ⟨by first | rfl | kernel_rfl, rfl⟩
set_option maxRecDepth 100000 in
set_option maxHeartbeats 2000000 in
theorem mul6 (w : World) : Calls Tryz.prog 77 #[.int .u64 1, .int .u64 6] w fun e w' => e = .returned (.tuple #[.int .u64 0, .int .u64 6]) ∧ w' = w := by
  have h1 : bits BinOp.and IntKind.u64 1 4294967295 = 1 := by decide
  have h2 : bits BinOp.and IntKind.u64 6 4294967295 = 6 := by decide
  have h3 : bits BinOp.and IntKind.u64 0 4294967295 = 0 := by decide
  go_enter Tryz.func77, Tryz.ntmps77
  go_wp2
  go_ret2
  exact ⟨by simp, rfl⟩
set_option maxRecDepth 100000 in
set_option maxHeartbeats 2000000 in
theorem rep6 (w : World) : Calls Tryz.prog 60 #[.string ⟨#[48]⟩, .int .i64 6] w fun e w' => e = .returned (.string ⟨#[48, 48, 48, 48, 48, 48]⟩) ∧ w' = w := by
  have i0 : ∀ h, ((⟨#[48]⟩ : ByteArray)[0]'h).toNat = 48 := fun _ => rfl
  go_enter Tryz.func60, Tryz.ntmps60
  go_wp2_with (first | (go_at_call 77; refine (mul6 _).mono ?_; rintro e w' ⟨rfl, rfl⟩) | (go_at_call 78; refine (hp_no _ _ _ ?_ ?_ ?_).mono ?_; decide +kernel; decide +kernel; decide +kernel; rintro e w' ⟨rfl, rfl⟩) | (go_at_call 78; refine (hp_yes _ _ _ ?_ ?_ ?_).mono ?_; decide +kernel; decide +kernel; decide +kernel; rintro e w' ⟨rfl, rfl⟩) | go_in)
  go_ret
  exact ⟨by first | rfl | kernel_rfl, rfl⟩
end Go.Proofs.YtnlklhjmhienkaaGreatDoor.A
