/- awake. -/
import Derived.Test.YtclmgkjmimondaaRNo
import Derived.Test.YtclmgkjmimondaaRMt
namespace Go.Proofs.Ytclmgkjmimondaa
open Go.RowKit
attribute [local go_sem ↓] ldR_eq stR_eq
attribute [local go_sem] zero_RC cells_RV RC_size fold_RC build_RC

theorem aw_norm : NormOf [⟨3, 5⟩, ⟨1, 2⟩] [⟨1, 5⟩] := by
  refine ⟨⟨by decide, by decide, by decide, trivial⟩, fun n => ?_⟩
  rw [mem_one, mem_cons, mem_one]
  simp only
  omega
set_option maxRecDepth 100000 in
set_option maxHeartbeats 1000000 in
theorem awake_any (w : World) : Calls Try.prog 9 #[] w fun e w' => e = .returned (.bool true) ∧ Below w.heap.size w w' := by
  go_enter Try.func9, Try.ntmps9
  go_wp2_with fail
  refine (norm_any _ 2 2 [⟨3, 5⟩, ⟨1, 2⟩] _ (lit_rsrc w [⟨3, 5⟩, ⟨1, 2⟩] _ rfl _ 2 rfl (by omega))).mono ?_
  rintro e w1 ⟨a1, n1, c1, X, rfl, S1, b1, p1⟩
  obtain rfl := p1.unique aw_norm
  obtain rfl : n1 = 1 := S1.len.symm
  have HB1 := hide ((below_new _ _).trans (b1.mono (below_new _ _).size))
  obtain ⟨ad, rfl, _⟩ := S1.at 0 (by omega)
  obtain ⟨b, o, rfl⟩ := S1.spot (by omega)
  obtain ⟨q0, q1⟩ := S1.nums 0 (by omega)
  have k0 : w1.cell? ⟨b, o, none⟩ = some (.int .i64 1) := by simpa using q0
  have k1 : w1.cell? ⟨b, o + 1, none⟩ = some (.int .i64 5) := by simpa using q1
  clear S1 b1 p1 q0 q1
  go_wp2_with fail
  go_ret
  exact ⟨rfl, HB1.out⟩
end Go.Proofs.Ytclmgkjmimondaa
