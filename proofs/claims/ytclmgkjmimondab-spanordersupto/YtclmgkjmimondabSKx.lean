/- The reference's Minus: its contract. -/
import Derived.Test.YtclmgkjmimondabSKc
namespace Go.Proofs.Ytclmgkjmimondab
open Go.RowKit
attribute [local go_sem] zero_RC cells_RV RC_size fold_RC build_RC'

theorem refMinus_any (ao bo : Option Addr) (n cap m cap' : Nat) (A B : List Rn) (w : World) (hS : RSrc w ao n cap A) (hR : RSrc w bo m cap' B) (hn : n + m ≤ 8589934592) :
    Calls Try.prog 9 #[.slice ao n cap, .slice bo m cap'] w fun e w' => GivesR w w' e (MinusOf A B) := by
  have HC := hide (sweep_any _ 2 2 (T2 ao bo n cap m cap' A B) 3 _ (csrc2 w ao bo n cap m cap' A B hS hR 22) (by omega) (by simp [T2, tot]; omega))
  have HB := hide (below_new w (.cells #[.slice ao n cap, .slice bo m cap'] 22))
  clear hS hR
  go_enter Try.func9, Try.ntmps9
  go_wp2_with fail
  refine HC.out.mono ?_
  rintro e w1 ⟨a1, n1, c1, R, rfl, S1, b1, p1⟩
  have HF : Hid (GivesR w w1 (.returned (.slice a1 n1 c1)) (MinusOf A B)) := ⟨a1, n1, c1, R, rfl, S1, HB.out.trans (b1.mono HB.out.size), p1.1, fun x => (p1.2 x).trans (kept_first x)⟩
  clear S1 b1 p1
  go_wp2_with fail
  go_ret
  exact HF.out
end Go.Proofs.Ytclmgkjmimondab
