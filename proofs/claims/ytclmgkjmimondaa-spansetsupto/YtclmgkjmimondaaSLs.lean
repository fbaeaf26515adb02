/- SpanSets: the law's walk. -/
import Derived.Test.YtclmgkjmimondaaSRu
import Derived.Test.YtclmgkjmimondaaRAk
import Derived.Test.YtclmgkjmimondaaREq
import Derived.Test.YtclmgkjmimondaaROs
namespace Go.Proofs.Ytclmgkjmimondaa
open Go.RowKit
attribute [local go_sem ↓] ldR_eq stR_eq
attribute [local go_sem] zero_RC cells_RV RC_size fold_RC build_RC

set_option maxRecDepth 100000 in
set_option maxHeartbeats 2000000 in
theorem sets_any (ao bo : Option Addr) (n cap m cap' : Nat) (A B : List Rn) (w : World) (hS : RSrc w ao n cap A) (hR : RSrc w bo m cap' B) (hn : n ≤ 1048576) (hm : m ≤ 1048576) :
    Calls Try.prog 8 #[.slice ao n cap, .slice bo m cap'] w fun e w' => e = .returned (.bool true) ∧ Below w.heap.size w w' := by
  have HS := hide hS
  have HR := hide hR
  clear hS hR
  go_enter Try.func8, Try.ntmps8
  have HB0 : Hid (Below w.heap.size w w) := Below.refl _ _
  go_wp2_with fail
  refine (awake_any _).mono ?_
  rintro e w1 ⟨rfl, b1⟩
  have HB1 := hide (HB0.out.trans (b1.mono HB0.out.size))
  clear b1 HB0
  go_wp2_with fail
  refine (refUnion_any ao bo n cap m cap' A B _ (HS.out.below HB1.out) (HR.out.below HB1.out) (by omega)).mono ?_
  rintro e w2 ⟨a2, n2, c2, X2, rfl, S2, b2, p2⟩
  have HB2 := hide (HB1.out.trans (b2.mono HB1.out.size))
  have HX2 := hide S2
  have HP2 := hide p2
  clear b2 HB1 S2 p2
  go_wp2_with fail
  refine (refMeet_any ao bo n cap m cap' A B _ (HS.out.below HB2.out) (HR.out.below HB2.out) (by omega)).mono ?_
  rintro e w3 ⟨a3, n3, c3, X3, rfl, S3, b3, p3⟩
  replace HX2 := hide (HX2.out.below b3)
  have HB3 := hide (HB2.out.trans (b3.mono HB2.out.size))
  have HX3 := hide S3
  have HP3 := hide p3
  clear b3 HB2 S3 p3
  go_wp2_with fail
  refine (refMinus_any ao bo n cap m cap' A B _ (HS.out.below HB3.out) (HR.out.below HB3.out) (by omega)).mono ?_
  rintro e w4 ⟨a4, n4, c4, X4, rfl, S4, b4, p4⟩
  replace HX2 := hide (HX2.out.below b4)
  replace HX3 := hide (HX3.out.below b4)
  have HB4 := hide (HB3.out.trans (b4.mono HB3.out.size))
  have HX4 := hide S4
  have HP4 := hide p4
  clear b4 HB3 S4 p4
  go_wp2_with fail
  refine (union2_any ao bo n cap m cap' A B _ (HS.out.below HB4.out) (HR.out.below HB4.out) (by omega)).mono ?_
  rintro e w5 ⟨a5, n5, c5, X5, rfl, S5, b5, p5⟩
  replace HX2 := hide (HX2.out.below b5)
  replace HX3 := hide (HX3.out.below b5)
  replace HX4 := hide (HX4.out.below b5)
  have HB5 := hide (HB4.out.trans (b5.mono HB4.out.size))
  have HX5 := hide S5
  have HP5 := hide p5
  clear b5 HB4 S5 p5
  have HE5 : Hid (X5 = X2) := HP5.out.unique HP2.out
  go_wp2_with fail
  refine (equal_any a5 a2 n5 c5 n2 c2 X5 X2 _ HX5.out HX2.out).mono ?_
  rintro e w6 ⟨rfl, b6⟩
  replace HX2 := hide (HX2.out.below b6)
  replace HX3 := hide (HX3.out.below b6)
  replace HX4 := hide (HX4.out.below b6)
  replace HX5 := hide (HX5.out.below b6)
  have HB6 := hide (HB5.out.trans (b6.mono HB5.out.size))
  rw [decide_eq_true HE5.out]
  clear b6 HB5
  go_wp2_with fail
  refine (meet_any ao bo n cap m cap' A B _ (HS.out.below HB6.out) (HR.out.below HB6.out)).mono ?_
  rintro e w7 ⟨a7, n7, c7, X7, rfl, S7, b7, p7⟩
  replace HX2 := hide (HX2.out.below b7)
  replace HX3 := hide (HX3.out.below b7)
  replace HX4 := hide (HX4.out.below b7)
  replace HX5 := hide (HX5.out.below b7)
  have HB7 := hide (HB6.out.trans (b7.mono HB6.out.size))
  have HX7 := hide S7
  have HP7 := hide p7
  clear b7 HB6 S7 p7
  have HE7 : Hid (X7 = X3) := HP7.out.unique HP3.out
  go_wp2_with fail
  refine (equal_any a7 a3 n7 c7 n3 c3 X7 X3 _ HX7.out HX3.out).mono ?_
  rintro e w8 ⟨rfl, b8⟩
  replace HX2 := hide (HX2.out.below b8)
  replace HX3 := hide (HX3.out.below b8)
  replace HX4 := hide (HX4.out.below b8)
  replace HX5 := hide (HX5.out.below b8)
  replace HX7 := hide (HX7.out.below b8)
  have HB8 := hide (HB7.out.trans (b8.mono HB7.out.size))
  rw [decide_eq_true HE7.out]
  clear b8 HB7
  go_wp2_with fail
  refine (minus_any ao bo n cap m cap' A B _ (HS.out.below HB8.out) (HR.out.below HB8.out)).mono ?_
  rintro e w9 ⟨a9, n9, c9, X9, rfl, S9, b9, p9⟩
  replace HX2 := hide (HX2.out.below b9)
  replace HX3 := hide (HX3.out.below b9)
  replace HX4 := hide (HX4.out.below b9)
  replace HX5 := hide (HX5.out.below b9)
  replace HX7 := hide (HX7.out.below b9)
  have HB9 := hide (HB8.out.trans (b9.mono HB8.out.size))
  have HX9 := hide S9
  have HP9 := hide p9
  clear b9 HB8 S9 p9
  have HE9 : Hid (X9 = X4) := HP9.out.unique HP4.out
  go_wp2_with fail
  refine (equal_any a9 a4 n9 c9 n4 c4 X9 X4 _ HX9.out HX4.out).mono ?_
  rintro e w10 ⟨rfl, b10⟩
  replace HX2 := hide (HX2.out.below b10)
  replace HX3 := hide (HX3.out.below b10)
  replace HX4 := hide (HX4.out.below b10)
  replace HX5 := hide (HX5.out.below b10)
  replace HX7 := hide (HX7.out.below b10)
  replace HX9 := hide (HX9.out.below b10)
  have HB10 := hide (HB9.out.trans (b10.mono HB9.out.size))
  rw [decide_eq_true HE9.out]
  clear b10 HB9
  go_wp2_with fail
  go_ret
  exact ⟨rfl, HB10.out⟩
end Go.Proofs.Ytclmgkjmimondaa
