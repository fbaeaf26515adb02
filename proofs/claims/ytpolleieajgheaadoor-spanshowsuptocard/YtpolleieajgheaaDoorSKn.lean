/- The reference's Norm: its contract. -/
import Derived.Test.YtpolleieajgheaaDoorSKc
namespace Go.Proofs.YtpolleieajgheaaDoor
open Go.RowKit
attribute [local go_sem] zero_RC cells_RV RC_size fold_RC build_RC'

theorem refNorm_any (ao : Option Addr) (n cap : Nat) (A : List Rn) (w : World) (hS : RSrc w ao n cap A) (hn : n ≤ 8589934592) :
    Calls Tryd.prog 9 #[.slice ao n cap] w fun e w' => GivesR w w' e (NormOf A) := by
  have HC := hide (sweep_any _ 1 1 (T1 ao n cap A) 1 _ (csrc1 w ao n cap A hS 22) (by omega) (by simp [T1, tot]; omega))
  have HB := hide (below_new w (.cells #[.slice ao n cap] 22))
  clear hS
  go_enter Tryd.func9, Tryd.ntmps9
  go_wp2_with fail
  refine HC.out.mono ?_
  rintro e w1 ⟨a1, n1, c1, R, rfl, S1, b1, p1⟩
  have HF : Hid (GivesR w w1 (.returned (.slice a1 n1 c1)) (NormOf A)) := ⟨a1, n1, c1, R, rfl, S1, HB.out.trans (b1.mono HB.out.size), p1.1, fun x => (p1.2 x).trans (kept1 x)⟩
  clear S1 b1 p1
  go_wp2_with fail
  go_ret
  exact HF.out
end Go.Proofs.YtpolleieajgheaaDoor
