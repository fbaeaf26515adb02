/- The reference's num (barrowref09). -/
import Derived.Test.YtphohmoibnoeaaaGreatPb18
namespace Go.Proofs.YtphohmoibnoeaaaGreat.U
open Go.RowKit
variable {w w' w2 : World} {g : Nat}

set_option maxRecDepth 100000 in
theorem rnum9_any (ao : Option Addr) (n c : Nat) (Z : List Int) (x : Nat) (w : World) (S : BR w ao n c Z) (hx : x ≤ 9223372036854775807) (hn : n ≤ 140737488355000) : Calls Tryz.prog 36 #[.slice ao n c, .int .i64 (x : Int)] w fun r w' =>
  ∃ bo cc, r = .returned (.slice bo (n + (numB x).length) cc) ∧ BR w' bo (n + (numB x).length) cc (Z ++ numB x) ∧ Ap w w' ao bo := by
 have HL : Hid (n + (numB x).length ≤ 140737488355100) := by show _ ≤ _; have := numB_nine hx; omega
 have HS := hide S
 have HX := hide hx
 clear S hn hx
 go_enter Tryz.func36, Tryz.ntmps36
 go_wp2_with fail
 go_loopw [0, 1] (fun b i wr => ∃ (y : Nat) (m : Nat) (bo : Option Addr) (cc : Nat) (Y : List Int), i = .int .i64 y ∧ b = .slice bo m cc ∧ Hid (BR wr bo m cc Y ∧ Ap w wr ao bo ∧ y ≤ x ∧ Y ++ numB y = Z ++ numB x ∧ m + (numB y).length = n + (numB x).length)) (fun _ i _ => (intOf i).toNat)
 case atStart => exact ⟨x, n, ao, c, Z, rfl, rfl, HS.out, Ap.refl _ _, Nat.le_refl _, rfl, rfl⟩
 case round =>
  obtain ⟨y, m, bo, cc, Y, rfl, rfl, HI⟩ := hrel
  by_cases hlt : y < 128
  ·have HM : Hid (m + 1 = n + (numB x).length ∧ Y ++ [(y : Int)] = Z ++ numB x) := by
    obtain ⟨-, -, -, e1, e2⟩ := HI.out
    rw [numB_lt hlt] at e1 e2
    exact ⟨e2, e1⟩
   go_wp2_with (at_builtin; refine HI.out.1.app1 (y : Int) (by have := HM.out.1; have := HL.out; omega) rfl (.tmp 16) (.tmp 19) rfl rfl rfl ?_; intro b5 c5 w5 S5 A5; have HS5 := hide S5; have HA5 := hide A5; clear S5 A5)
   go_ret
   refine ⟨b5, c5, ?_, ?_, HI.out.2.1.trans HA5.out⟩
   ·rw [HM.out.1]; rfl
   ·rw [← HM.out.1, ← HM.out.2]; exact HS5.out
  ·have HM : Hid (m + 1 + (numB (y / 128)).length = n + (numB x).length ∧ Y ++ [(y : Int) % 128 + 128] ++ numB (y / 128) = Z ++ numB x) := by
    obtain ⟨-, -, -, e1, e2⟩ := HI.out
    rw [numB_step hlt] at e1
    rw [numB_stepLen hlt] at e2
    exact ⟨by omega, by rw [List.append_assoc]; exact e1⟩
   have HD : Hid (y / 128 < y ∧ y ≤ x) := ⟨by omega, HI.out.2.2.1⟩
   have hrem : (y : Int).tmod 128 = (y : Int) % 128 := Int.tmod_eq_emod_of_nonneg (by omega)
   have hquo : (y : Int).tdiv 128 = ((y / 128 : Nat) : Int) := rfl
   have HK1 : Hid (wrap64 ((y : Int) / 128) = ((y / 128 : Nat) : Int)) := by show _ = _; have := HX.out; have := HD.out.2; rw [w64 (by omega) (by omega)]; rfl
   have hge : (128 : Int) ≤ y := by omega
   go_wp2_with (at_builtin; refine HI.out.1.app1 ((y : Int) % 128 + 128) (by have := HM.out.1; have := HL.out; omega) rfl (.tmp 7) (.tmp 12) rfl rfl rfl ?_; intro b5 c5 w5 S5 A5; have HS5 := hide S5; have HA5 := hide (HI.out.2.1.trans A5); clear S5 A5)
   go_roundw
   case rel => exact ⟨y / 128, m + 1, b5, c5, _, by rw [HK1.out], rfl, HS5.out, HA5.out, by have := HD.out; omega, HM.out.2, HM.out.1⟩
   case measure => rw [HK1.out]; have := HD.out; simp [intOf]; omega
end Go.Proofs.YtphohmoibnoeaaaGreat.U
