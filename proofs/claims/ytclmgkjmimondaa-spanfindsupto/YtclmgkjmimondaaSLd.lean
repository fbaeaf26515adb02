/- SpanFinds: the law's walk. -/
import Derived.Test.YtclmgkjmimondaaSRg
import Derived.Test.YtclmgkjmimondaaRHs
import Derived.Test.YtclmgkjmimondaaSNe
namespace Go.Proofs.Ytclmgkjmimondaa
open Go.RowKit
attribute [local go_sem ↓] ldR_eq stR_eq
attribute [local go_sem] zero_RC cells_RV RC_size fold_RC build_RC

set_option maxRecDepth 100000 in
set_option maxHeartbeats 4000000 in
theorem finds_any (ao : Option Addr) (n cap : Nat) (A : List Rn) (x : Int) (w : World) (hS : RSrc w ao n cap A) (hn : n ≤ 1048576) :
    Calls Try.prog 4 #[.slice ao n cap, .int .i64 x] w fun e w' => e = .returned (.bool true) ∧ Below w.heap.size w w' := by
  have HS := hide hS
  clear hS
  go_enter Try.func4, Try.ntmps4
  have HB0 : Hid (Below w.heap.size w w) := Below.refl _ _
  go_wp2_with fail
  refine (has_any _ 1 1 [⟨-4, 2⟩] 2 _ (lit_rsrc w [⟨-4, 2⟩] _ rfl _ 1 rfl (by omega))).mono ?_
  rintro e w1 ⟨q1, rfl, hq1, b1⟩
  replace b1 := (below_new _ _).trans (b1.mono (below_new _ _).size)
  have HB1 := hide (HB0.out.trans (b1.mono HB0.out.size))
  obtain rfl : q1 = true := hq1.2 ((mem_one _ _).2 ⟨by omega, by omega, by decide, by decide⟩)
  clear b1 HB0 hq1
  go_wp2_with fail
  refine (has_any _ 1 1 [⟨-4, 2⟩] 0 _ (lit_rsrc w1 [⟨-4, 2⟩] _ rfl _ 1 rfl (by omega))).mono ?_
  rintro e w2 ⟨q2, rfl, hq2, b2⟩
  replace b2 := (below_new _ _).trans (b2.mono (below_new _ _).size)
  have HB2 := hide (HB1.out.trans (b2.mono HB1.out.size))
  obtain rfl : q2 = false := by cases q2 with | false => rfl | true => exact absurd (hq2.1 rfl).1 (by omega)
  clear b2 HB1 hq2
  go_wp2_with fail
  refine (gap_any none 0 0 [] (-7) _ (RSrc.empty _)).mono ?_
  rintro e w3 ⟨q3, rfl, hq3, b3⟩
  have HB3 := hide (HB2.out.trans (b3.mono HB2.out.size))
  obtain rfl : q3 = 1 := hq3.unique (Or.inr ⟨by omega, ⟨by omega, by omega, mem_nil 1, by omega⟩, fun n hn => hn.1⟩)
  clear b3 HB2 hq3
  go_wp2_with fail
  refine (refHas_any ao n cap A x _ (HS.out.below HB3.out)).mono ?_
  rintro e w4 ⟨q4, rfl, hq4, b4⟩
  have HB4 := hide (HB3.out.trans (b4.mono HB3.out.size))
  have HQ4 := hide hq4
  clear b4 HB3 hq4
  go_wp2_with fail
  refine (refFirst_any ao n cap A x _ (HS.out.below HB4.out)).mono ?_
  rintro e w5 ⟨q5, rfl, hq5, b5⟩
  have HB5 := hide (HB4.out.trans (b5.mono HB4.out.size))
  have HQ5 := hide hq5
  clear b5 HB4 hq5
  go_wp2_with fail
  refine (refGap_any ao n cap A x _ (HS.out.below HB5.out) hn).mono ?_
  rintro e w6 ⟨q6, rfl, hq6, b6⟩
  have HB6 := hide (HB5.out.trans (b6.mono HB5.out.size))
  have HQ6 := hide hq6
  clear b6 HB5 hq6
  go_wp2_with fail
  refine (has_any ao n cap A x _ (HS.out.below HB6.out)).mono ?_
  rintro e w7 ⟨q7, rfl, hq7, b7⟩
  have HB7 := hide (HB6.out.trans (b7.mono HB6.out.size))
  obtain rfl : q7 = q4 := Bool.eq_iff_iff.2 (hq7.trans HQ4.out.symm)
  have hqq : (q7 == q7) = true := by simp
  clear b7 HB6 hq7
  go_wp2_with fail
  refine (first_any ao n cap A x _ (HS.out.below HB7.out)).mono ?_
  rintro e w8 ⟨q8, rfl, hq8, b8⟩
  have HB8 := hide (HB7.out.trans (b8.mono HB7.out.size))
  obtain ⟨Y, hY⟩ := norm_ex A
  obtain rfl : q8 = q5 := (fst_leastOf hY (hq8 Y hY)).unique HQ5.out
  have hff : (q8 == q8) = true := by simp
  clear b8 HB7 hq8 hY Y
  go_wp2_with fail
  refine (gap_any ao n cap A x _ (HS.out.below HB8.out)).mono ?_
  rintro e w9 ⟨q9, rfl, hq9, b9⟩
  have HB9 := hide (HB8.out.trans (b9.mono HB8.out.size))
  obtain rfl : q9 = q6 := hq9.unique HQ6.out
  have hgg : (q9 == q9) = true := by simp
  clear b9 HB8 hq9
  go_wp2_with fail
  go_ret
  exact ⟨rfl, HB9.out⟩
end Go.Proofs.Ytclmgkjmimondaa
