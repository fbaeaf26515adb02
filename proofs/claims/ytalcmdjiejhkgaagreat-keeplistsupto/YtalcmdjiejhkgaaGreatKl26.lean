/- BS1 -/
import Derived.Test.YtalcmdjiejhkgaaGreatKl00
set_option maxRecDepth 100000
namespace Go.Proofs.YtalcmdjiejhkgaaGreat
open Go.RowKit
theorem len64_one (w : World) : Calls Tryz.prog 124 #[.int .u64 1] w fun e w' => ∃ z, e = .returned (.int .i64 z) /\ w' = w := by
 go_enter Tryz.func124, Tryz.ntmps124
 go_wp2_with fail
 go_ret
 exact ⟨_, rfl, rfl⟩
theorem bitsLen_one (w : World) : Calls Tryz.prog 80 #[.int .u64 1] w fun e w' => ∃ z, e = .returned (.int .i64 z) /\ w' = w := by
 go_enter Tryz.func80, Tryz.ntmps80
 go_wp2_with fail
 refine (len64_one _).mono ?_
 rintro e w' ⟨z, rfl, rfl⟩
 go_wp2_with fail
 go_ret
 exact ⟨_, rfl, rfl⟩
theorem insOne (ao : Option Addr) (c : Nat) (F : Value) (w : World) : Calls Tryz.prog 115 #[.slice ao 1 c, .int .i64 0, .int .i64 1, F] w fun e w' => e = .returned (.tuple #[]) /\ w' = w := by
 go_enter Tryz.func115, Tryz.ntmps115
 go_wp2_with fail
 go_loopw [8] (fun i wr => i = .int .i64 1 /\ wr = w) (fun _ _ => 0)
 case atStart => exact ⟨rfl, rfl⟩
 case round =>
  obtain ⟨rfl, rfl⟩ := hrel
  go_wp2_with fail
  go_end0
  exact ⟨rfl, rfl⟩
theorem pdqOne (ao : Option Addr) (c : Nat) (z : Int) (F : Value) (w : World) : Calls Tryz.prog 79 #[.slice ao 1 c, .int .i64 0, .int .i64 1, .int .i64 z, F] w fun e w' => e = .returned (.tuple #[]) /\ w' = w := by
 go_enter Tryz.func79, Tryz.ntmps79
 go_wp2_with fail
 go_loopw [1, 2] (fun i j wr => i = .int .i64 0 /\ j = .int .i64 1 /\ wr = w) (fun _ _ _ => 0)
 case atStart => exact ⟨rfl, rfl, rfl⟩
 case round =>
  obtain ⟨rfl, rfl, rfl⟩ := hrel
  go_wp2_with fail
  refine (insOne ao c F _).mono ?_
  rintro e w' ⟨rfl, rfl⟩
  go_wp2_with fail
  refine bodyPost_ret (results_none (fn := Tryz.f79) rfl _ _ _) rfl ?_
  exact ⟨rfl, rfl⟩
theorem sortOne (ao : Option Addr) (c : Nat) (F : Value) (w : World) : Calls Tryz.prog 44 #[.slice ao 1 c, F] w fun e w' => e = .returned (.tuple #[]) /\ w' = w := by
 go_enter Tryz.func44, Tryz.ntmps44
 go_wp2_with fail
 refine (bitsLen_one _).mono ?_
 rintro e w' ⟨z, rfl, rfl⟩
 go_wp2_with fail
 refine (pdqOne ao c z F _).mono ?_
 rintro e w' ⟨rfl, rfl⟩
 go_wp2_with fail
 go_end0
 exact ⟨rfl, rfl⟩
theorem compactOne (ao : Option Addr) (c : Nat) (F : Value) (w : World) : Calls Tryz.prog 45 #[.slice ao 1 c, F] w fun e w' => e = .returned (.slice ao 1 c) /\ w' = w := by
 go_enter Tryz.func45, Tryz.ntmps45
 go_wp2_with fail
 go_ret
 exact ⟨rfl, rfl⟩
end Go.Proofs.YtalcmdjiejhkgaaGreat
