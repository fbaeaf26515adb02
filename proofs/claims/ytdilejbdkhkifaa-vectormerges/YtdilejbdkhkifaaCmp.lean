/- cmp.Compare, slices.Compare over rows of one length: their contracts. -/
import Derived.Test.YtdilejbdkhkifaaNorm
namespace Go.Proofs.Ytdilejbdkhkifaa
open Go.RowKit

def cmpI (x y : Int) : Int := if x < y then -1 else if y < x then 1 else 0
theorem isNaN_any (x : Int) (w : World) : Calls Try.prog 50 #[.int .i64 x] w fun e w' => e = .returned (.bool false) ∧ w' = w := by
  have h : (x != x) = false := by simp
  go_enter Try.func50, Try.ntmps50
  go_wp2_with fail
  go_ret
  exact ⟨by simp, rfl⟩
theorem cmp_any (x y : Int) (w : World) : Calls Try.prog 48 #[.int .i64 x, .int .i64 y] w fun e w' => e = .returned (.int .i64 (cmpI x y)) ∧ w' = w := by
  by_cases h1 : x < y
  · have HC : Hid (cmpI x y = -1) := by show _ = _; unfold cmpI; rw [if_pos h1]
    go_enter Try.func48, Try.ntmps48
    go_wp2_with (go_at_call 50; refine (isNaN_any _ _).mono ?_; rintro e w' ⟨rfl, rfl⟩)
    go_ret
    exact ⟨ret_int HC.out.symm, rfl⟩
  · by_cases h2 : y < x
    · have HC : Hid (cmpI x y = 1) := by show _ = _; unfold cmpI; rw [if_neg h1, if_pos h2]
      go_enter Try.func48, Try.ntmps48
      go_wp2_with (go_at_call 50; refine (isNaN_any _ _).mono ?_; rintro e w' ⟨rfl, rfl⟩)
      go_ret
      exact ⟨ret_int HC.out.symm, rfl⟩
    · have HC : Hid (cmpI x y = 0) := by show _ = _; unfold cmpI; rw [if_neg h1, if_neg h2]
      go_enter Try.func48, Try.ntmps48
      go_wp2_with (go_at_call 50; refine (isNaN_any _ _).mono ?_; rintro e w' ⟨rfl, rfl⟩)
      go_ret
      exact ⟨ret_int HC.out.symm, rfl⟩
/-- j numbers from the k-th on -/
def lexF (f g : Nat → Int) : Nat → Nat → Int
  | 0, _ => 0
  | j + 1, k => if cmpI (f k) (g k) = 0 then lexF f g j (k + 1) else cmpI (f k) (g k)

set_option maxHeartbeats 800000 in
theorem slicesCompare_any (b c : Nat) (f g : Nat → Int) (w : World) (A : Arr w b 56 f) (B : Arr w c 56 g) :
    Calls Try.prog 49 #[.slice (some ⟨b, 0, none⟩) 16 16, .slice (some ⟨c, 0, none⟩) 16 16] w fun e w' => e = .returned (.int .i64 (lexF f g 16 0)) ∧ w' = w := by
  have HA := hide A
  have HB := hide B
  clear A B
  go_enter Try.func49, Try.ntmps49
  go_wp2_with fail
  go_loopw [11] (fun i wr => ∃ k : Nat, k ≤ 16 ∧ i = .int .i64 k ∧ Hid (lexF f g (16 - k) k = lexF f g 16 0) ∧ wr = w) (fun i _ => 16 - (intOf i).toNat)
  case atStart => exact ⟨0, Nat.zero_le _, rfl, rfl, by trivial⟩
  case round =>
    obtain ⟨k, hk, rfl, HL, rfl⟩ := hrel
    by_cases hlt : k < 16
    · have c1 := HA.out.cell k hlt
      have c2 := HB.out.cell k hlt
      obtain ⟨q, Hq⟩ : ∃ q, Hid (cmpI (f k) (g k) = q) := ⟨_, rfl⟩
      have HS : Hid (lexF f g (16 - k) k = if q = 0 then lexF f g (16 - (k + 1)) (k + 1) else q) := by
        show _ = _
        rw [show 16 - k = 16 - (k + 1) + 1 by omega]
        conv => lhs; unfold lexF
        rw [Hq.out]
      by_cases h0 : q = 0
      · have h0' : (q != 0) = false := by simp [h0]
        have HN : Hid (lexF f g (16 - (k + 1)) (k + 1) = lexF f g 16 0) := by show _ = _; rw [← HL.out, HS.out, if_pos h0]
        clear h0
        go_wp2_with (go_at_call 48; refine (cmp_any _ _ _).mono ?_; rintro e w' ⟨rfl, rfl⟩; rw [Hq.out])
        go_roundw
        case rel => exact ⟨k + 1, by omega, by go_num, HN, by trivial⟩
        case measure => simp [intOf]; omega
      · have h0' : (q != 0) = true := by simp [h0]
        have HN : Hid (q = lexF f g 16 0) := by show _ = _; rw [← HL.out, HS.out, if_neg h0]
        clear h0
        go_wp2_with (go_at_call 48; refine (cmp_any _ _ _).mono ?_; rintro e w' ⟨rfl, rfl⟩; rw [Hq.out])
        go_ret
        exact ⟨ret_int HN.out, rfl⟩
    · obtain rfl : k = 16 := by omega
      have HN : Hid (0 = lexF f g 16 0) := by show _ = _; rw [← HL.out]; rfl
      go_wp2_with fail
      go_ret
      exact ⟨ret_int HN.out, rfl⟩
end Go.Proofs.Ytdilejbdkhkifaa
