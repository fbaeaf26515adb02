/- The reference's Union: its contract. -/
import Derived.Test.YtmamnigobdgpjaaSKc
namespace Go.Proofs.Ytmamnigobdgpjaa
open Go.RowKit
attribute [local go_sem] zero_RC cells_RV RC_size fold_RC build_RC'

theorem refUnionN_any (ao : Option Addr) (q cp : Nat) (X : List Sl) (w : World) (hC : CSrc w ao q X) (hq : 0 < q) (hn : tot X ≤ 8589934592) :
    Calls Try.prog 5 #[.slice ao q cp] w fun e w' => GivesR w w' e (fun R => form 1 R ∧ ∀ n, mem R n ↔ ∃ s, s ∈ X ∧ mem s.L n) := by
  have HC := hide (sweep_any ao q cp X 1 w hC hq hn)
  clear hC
  go_enter Try.func5, Try.ntmps5
  go_wp2_with fail
  refine HC.out.mono ?_
  rintro e w1 ⟨a1, n1, c1, R, rfl, S1, b1, p1⟩
  have HF : Hid (GivesR w w1 (.returned (.slice a1 n1 c1)) (fun R => form 1 R ∧ ∀ n, mem R n ↔ ∃ s, s ∈ X ∧ mem s.L n)) := ⟨a1, n1, c1, R, rfl, S1, b1, p1.1, fun x => (p1.2 x).trans (kept_any X x)⟩
  clear S1 b1 p1
  go_wp2_with fail
  go_ret
  exact HF.out
end Go.Proofs.Ytmamnigobdgpjaa
