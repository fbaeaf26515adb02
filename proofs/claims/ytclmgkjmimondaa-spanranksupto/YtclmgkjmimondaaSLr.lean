/- SpanRanks: the law's walk. -/
import Derived.Test.YtclmgkjmimondaaSRh
import Derived.Test.YtclmgkjmimondaaSNe
namespace Go.Proofs.Ytclmgkjmimondaa
open Go.RowKit
attribute [local go_sem ↓] ldR_eq stR_eq
attribute [local go_sem] zero_RC cells_RV RC_size fold_RC build_RC

theorem lit28 : form 1 [⟨2, 4⟩, ⟨8, 8⟩] := ⟨by decide, by decide, by decide, by decide, by decide, by decide, trivial⟩
set_option maxRecDepth 100000 in
set_option maxHeartbeats 4000000 in
theorem ranks_any (ao : Option Addr) (n cap : Nat) (A : List Rn) (x : Int) (w : World) (hS : RSrc w ao n cap A) (hn : n ≤ 1048576) (hx : x ≤ 9223372036854775807) :
    Calls Try.prog 6 #[.slice ao n cap, .int .i64 x] w fun e w' => e = .returned (.bool true) ∧ Below w.heap.size w w' := by
  have HS := hide hS
  clear hS
  go_enter Try.func6, Try.ntmps6
  have HB0 : Hid (Below w.heap.size w w) := Below.refl _ _
  go_wp2_with fail
  refine (rank_any _ 2 2 [⟨2, 4⟩, ⟨8, 8⟩] 3 _ (lit_rsrc w [⟨2, 4⟩, ⟨8, 8⟩] _ rfl _ 2 rfl (by omega))).mono ?_
  rintro e w1 ⟨q1, rfl, hq1, b1⟩
  replace b1 := (below_new _ _).trans (b1.mono (below_new _ _).size)
  have HB1 := hide (HB0.out.trans (b1.mono HB0.out.size))
  obtain rfl : q1 = 2 := by rw [hq1 _ (NormOf.self lit28)]; decide
  clear b1 HB0 hq1
  go_wp2_with fail
  refine (pick_any _ 2 2 [⟨2, 4⟩, ⟨8, 8⟩] 4 _ (lit_rsrc w1 [⟨2, 4⟩, ⟨8, 8⟩] _ rfl _ 2 rfl (by omega)) (by omega)).mono ?_
  rintro e w2 ⟨q2, rfl, hq2, b2⟩
  replace b2 := (below_new _ _).trans (b2.mono (below_new _ _).size)
  have HB2 := hide (HB1.out.trans (b2.mono HB1.out.size))
  obtain rfl : q2 = 8 := by rw [hq2 _ (NormOf.self lit28)]; decide
  clear b2 HB1 hq2
  go_wp2_with fail
  refine (refRank_any ao n cap A x _ (HS.out.below HB2.out) hn).mono ?_
  rintro e w3 ⟨q3, rfl, hq3, b3⟩
  have HB3 := hide (HB2.out.trans (b3.mono HB2.out.size))
  have HQ3 := hide hq3
  clear b3 HB2 hq3
  go_wp2_with fail
  refine (refPick_any ao n cap A x _ (HS.out.below HB3.out) (by omega) hx).mono ?_
  rintro e w4 ⟨q4, rfl, hq4, b4⟩
  have HB4 := hide (HB3.out.trans (b4.mono HB3.out.size))
  have HQ4 := hide hq4
  clear b4 HB3 hq4
  go_wp2_with fail
  refine (rank_any ao n cap A x _ (HS.out.below HB4.out)).mono ?_
  rintro e w5 ⟨q5, rfl, hq5, b5⟩
  have HB5 := hide (HB4.out.trans (b5.mono HB4.out.size))
  obtain ⟨Y, hY⟩ := norm_ex A
  obtain rfl : q5 = q3 := (hq5 Y hY).trans (HQ3.out Y hY).symm
  have hff : (q5 == q5) = true := by simp
  clear b5 HB4 hq5 hY Y
  go_wp2_with fail
  refine (pick_any ao n cap A x _ (HS.out.below HB5.out) hx).mono ?_
  rintro e w6 ⟨q6, rfl, hq6, b6⟩
  have HB6 := hide (HB5.out.trans (b6.mono HB5.out.size))
  obtain ⟨Y, hY⟩ := norm_ex A
  obtain rfl : q6 = q4 := (hq6 Y hY).trans (HQ4.out Y hY).symm
  have hgg : (q6 == q6) = true := by simp
  clear b6 HB5 hq6 hY Y
  go_wp2_with fail
  go_ret
  exact ⟨rfl, HB6.out⟩
end Go.Proofs.Ytclmgkjmimondaa
