/- BS1 -/
import Derived.Test.YtfpmijfcemopoaaGreatKb00
namespace Go.Proofs.YtfpmijfcemopoaaGreat
open Go.RowKit
set_option maxRecDepth 100000 in
theorem len64_one (w : World) : Calls Tryz.prog 138 #[.int .u64 1] w fun e w' => ∃ z, e = .returned (.int .i64 z) ∧ w' = w := by
 go_enter Tryz.func138, Tryz.ntmps138
 go_wp2_with fail
 go_ret
 exact ⟨_, rfl, rfl⟩
set_option maxRecDepth 100000 in
theorem bitsLen_one (w : World) : Calls Tryz.prog 86 #[.int .u64 1] w fun e w' => ∃ z, e = .returned (.int .i64 z) ∧ w' = w := by
 go_enter Tryz.func86, Tryz.ntmps86
 go_wp2_with fail
 refine (len64_one _).mono ?_
 rintro e w' ⟨z, rfl, rfl⟩
 go_wp2_with fail
 go_ret
 exact ⟨_, rfl, rfl⟩
set_option maxRecDepth 100000 in
theorem insOne (ao : Option Addr) (c : Nat) (F : Value) (w : World) : Calls Tryz.prog 129 #[.slice ao 1 c, .int .i64 0, .int .i64 1, F] w fun e w' => e = .returned (.tuple #[]) ∧ w' = w := by
 go_enter Tryz.func129, Tryz.ntmps129
 go_wp2_with fail
 go_loopw [8] (fun i wr => i = .int .i64 1 ∧ wr = w) (fun _ _ => 0)
 case atStart => exact ⟨rfl, rfl⟩
 case round =>
  obtain ⟨rfl, rfl⟩ := hrel
  go_wp2_with fail
  go_end0
  exact ⟨rfl, rfl⟩
set_option maxRecDepth 100000 in
theorem pdqOne (ao : Option Addr) (c : Nat) (z : Int) (F : Value) (w : World) : Calls Tryz.prog 85 #[.slice ao 1 c, .int .i64 0, .int .i64 1, .int .i64 z, F] w fun e w' => e = .returned (.tuple #[]) ∧ w' = w := by
 go_enter Tryz.func85, Tryz.ntmps85
 go_wp2_with fail
 go_loopw [1, 2] (fun i j wr => i = .int .i64 0 ∧ j = .int .i64 1 ∧ wr = w) (fun _ _ _ => 0)
 case atStart => exact ⟨rfl, rfl, rfl⟩
 case round =>
  obtain ⟨rfl, rfl, rfl⟩ := hrel
  go_wp2_with fail
  refine (insOne ao c F _).mono ?_
  rintro e w' ⟨rfl, rfl⟩
  go_wp2_with fail
  refine bodyPost_ret (results_none (fn := Tryz.f85) rfl _ _ _) rfl ?_
  exact ⟨rfl, rfl⟩
set_option maxRecDepth 100000 in
theorem sortOne (ao : Option Addr) (c : Nat) (F : Value) (w : World) : Calls Tryz.prog 42 #[.slice ao 1 c, F] w fun e w' => e = .returned (.tuple #[]) ∧ w' = w := by
 go_enter Tryz.func42, Tryz.ntmps42
 go_wp2_with fail
 refine (bitsLen_one _).mono ?_
 rintro e w' ⟨z, rfl, rfl⟩
 go_wp2_with fail
 refine (pdqOne ao c z F _).mono ?_
 rintro e w' ⟨rfl, rfl⟩
 go_wp2_with fail
 go_end0
 exact ⟨rfl, rfl⟩
set_option maxRecDepth 100000 in
theorem compactOne (ao : Option Addr) (c : Nat) (F : Value) (w : World) : Calls Tryz.prog 43 #[.slice ao 1 c, F] w fun e w' => e = .returned (.slice ao 1 c) ∧ w' = w := by
 go_enter Tryz.func43, Tryz.ntmps43
 go_wp2_with fail
 go_ret
 exact ⟨rfl, rfl⟩
end Go.Proofs.YtfpmijfcemopoaaGreat
