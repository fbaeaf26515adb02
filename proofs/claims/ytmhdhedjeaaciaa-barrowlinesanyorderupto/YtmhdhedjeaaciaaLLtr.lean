/- The reference's later: its contract; the order as a merging takes it. -/
import Derived.Test.YtmhdhedjeaaciaaLOwn2
import Derived.Test.YtmhdhedjeaaciaaLPu
import Derived.Laws.MakeOwn
namespace Go.Proofs.Ytmhdhedjeaaciaa
open Go.RowKit
attribute [local go_sem ↓] ld28_eq st28_eq ld26_eq
attribute [local go_sem] zero_EC cells_EV EC_size

def leE (x y : En) : Bool := !ahead y x
theorem leE_trans (a b c : En) (h1 : leE a b = true) (h2 : leE b c = true) : leE a c = true := by
  simp [leE, ahead] at *; omega
theorem leE_total (a b : En) : (leE a b || leE b a) = true := by
  simp [leE, ahead]; omega
theorem later_any (x y : En) (w : World) : Calls Try.prog 46 #[EV x, EV y, .int .i64 0] w fun e w' => e = .returned (.bool (ahead y x)) ∧ Below w.heap.size w w' := by
  have B1 := below_new w (.cells (EC x) 40)
  have X1 := box_new w 40 x
  have Y2 := box_new (w.alloc (.cells (EC x) 40)) 40 y
  have X2 := X1.below (below_new (w.alloc (.cells (EC x) 40)) (.cells (EC y) 40))
  have HB := hide (B1.trans ((below_new (w.alloc (.cells (EC x) 40)) (.cells (EC y) 40)).mono B1.size))
  rw [World.size_alloc] at Y2
  have l1 := run_ld26 X2.at
  have l2 := run_ld26 Y2.at
  have HC := hide (ahead_dc y x ((w.alloc (.cells (EC x) 40)).alloc (.cells (EC y) 40)))
  clear B1 X1 X2 Y2
  go_enter Try.func46, Try.ntmps46
  go_wp2_with (go_at_call 38; refine HC.out.mono ?_; rintro e w3 ⟨rfl, b3⟩)
  go_ret
  exact ⟨rfl, HB.out.trans (b3.mono HB.out.size)⟩
end Go.Proofs.Ytmhdhedjeaaciaa
