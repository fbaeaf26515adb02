/- SpanForms: the law's walk. -/
import Derived.Test.YtclmgkjmimondaaSRi
import Derived.Test.YtclmgkjmimondaaRAk
import Derived.Test.YtclmgkjmimondaaREq
import Derived.Test.YtclmgkjmimondaaRIn
namespace Go.Proofs.Ytclmgkjmimondaa
open Go.RowKit
attribute [local go_sem ↓] ldR_eq stR_eq
attribute [local go_sem] zero_RC cells_RV RC_size fold_RC build_RC

theorem size_same {A : List Rn} {k l : Int} (h : SizeOf A k) (h' : SizeOf A l) : k = l := by
  obtain ⟨R, hR, e⟩ := h
  obtain ⟨R', hR', e'⟩ := h'
  rw [e, e', hR.unique hR']
set_option maxRecDepth 100000 in
set_option maxHeartbeats 4000000 in
theorem forms_any (ao : Option Addr) (n cap : Nat) (A : List Rn) (w : World) (hS : RSrc w ao n cap A) (hn : n ≤ 1048576) :
    Calls Try.prog 3 #[.slice ao n cap] w fun e w' => e = .returned (.bool true) ∧ Below w.heap.size w w' := by
  have HS := hide hS
  clear hS
  go_enter Try.func3, Try.ntmps3
  have HB0 : Hid (Below w.heap.size w w) := Below.refl _ _
  go_wp2_with fail
  refine (awake_any _).mono ?_
  rintro e w1 ⟨rfl, b1⟩
  have HB1 := hide (HB0.out.trans (b1.mono HB0.out.size))
  clear b1 HB0
  go_wp2_with fail
  refine (isNorm_any _ 2 2 [⟨1, 2⟩, ⟨4, 4⟩] _ (lit_rsrc w1 [⟨1, 2⟩, ⟨4, 4⟩] _ rfl _ 2 rfl (by omega))).mono ?_
  rintro e w2 ⟨rfl, b2⟩
  replace b2 := (below_new _ _).trans (b2.mono (below_new _ _).size)
  have HB2 := hide (HB1.out.trans (b2.mono HB1.out.size))
  rw [show isForm 1 [⟨1, 2⟩, ⟨4, 4⟩] = true by decide]
  clear b2 HB1
  go_wp2_with fail
  refine (isNorm_any _ 2 2 [⟨1, 2⟩, ⟨3, 4⟩] _ (lit_rsrc w2 [⟨1, 2⟩, ⟨3, 4⟩] _ rfl _ 2 rfl (by omega))).mono ?_
  rintro e w3 ⟨rfl, b3⟩
  replace b3 := (below_new _ _).trans (b3.mono (below_new _ _).size)
  have HB3 := hide (HB2.out.trans (b3.mono HB2.out.size))
  rw [show isForm 1 [⟨1, 2⟩, ⟨3, 4⟩] = false by decide]
  clear b3 HB2
  go_wp2_with fail
  refine (refNorm_any ao n cap A _ (HS.out.below HB3.out) (by omega)).mono ?_
  rintro e w4 ⟨a4, n4, c4, X4, rfl, S4, b4, p4⟩
  have HB4 := hide (HB3.out.trans (b4.mono HB3.out.size))
  have HX4 := hide S4
  have HP4 := hide p4
  clear b4 HB3 S4 p4
  go_wp2_with fail
  refine (refIsNorm_any ao n cap A _ (HS.out.below HB4.out)).mono ?_
  rintro e w5 ⟨q5, rfl, hq5, b5⟩
  replace HX4 := hide (HX4.out.below b5)
  have HB5 := hide (HB4.out.trans (b5.mono HB4.out.size))
  have HQ5 := hide hq5
  clear b5 HB4 hq5
  go_wp2_with fail
  refine (refSize_any ao n cap A _ (HS.out.below HB5.out) (by omega)).mono ?_
  rintro e w6 ⟨q6, rfl, hq6, b6⟩
  replace HX4 := hide (HX4.out.below b6)
  have HB6 := hide (HB5.out.trans (b6.mono HB5.out.size))
  have HQ6 := hide hq6
  clear b6 HB5 hq6
  go_wp2_with fail
  refine (refLast_any ao n cap A _ (HS.out.below HB6.out)).mono ?_
  rintro e w7 ⟨q7, rfl, hq7, b7⟩
  replace HX4 := hide (HX4.out.below b7)
  have HB7 := hide (HB6.out.trans (b7.mono HB6.out.size))
  have HQ7 := hide hq7
  clear b7 HB6 hq7
  go_wp2_with fail
  refine (norm_any ao n cap A _ (HS.out.below HB7.out)).mono ?_
  rintro e w8 ⟨a8, n8, c8, X8, rfl, S8, b8, p8⟩
  replace HX4 := hide (HX4.out.below b8)
  have HB8 := hide (HB7.out.trans (b8.mono HB7.out.size))
  have HX8 := hide S8
  have HP8 := hide p8
  clear b8 HB7 S8 p8
  have HE8 : Hid (X8 = X4) := HP8.out.unique HP4.out
  go_wp2_with fail
  refine (equal_any a8 a4 n8 c8 n4 c4 X8 X4 _ HX8.out HX4.out).mono ?_
  rintro e w9 ⟨rfl, b9⟩
  replace HX4 := hide (HX4.out.below b9)
  replace HX8 := hide (HX8.out.below b9)
  have HB9 := hide (HB8.out.trans (b9.mono HB8.out.size))
  rw [decide_eq_true HE8.out]
  clear b9 HB8
  go_wp2_with fail
  refine (isNorm_any a8 n8 c8 X8 _ HX8.out).mono ?_
  rintro e w10 ⟨rfl, b10⟩
  replace HX4 := hide (HX4.out.below b10)
  replace HX8 := hide (HX8.out.below b10)
  have HB10 := hide (HB9.out.trans (b10.mono HB9.out.size))
  rw [(isForm_iff X8 1).2 HP8.out.1]
  clear b10 HB9
  go_wp2_with fail
  refine (isNorm_any ao n cap A _ (HS.out.below HB10.out)).mono ?_
  rintro e w11 ⟨rfl, b11⟩
  replace HX4 := hide (HX4.out.below b11)
  replace HX8 := hide (HX8.out.below b11)
  have HB11 := hide (HB10.out.trans (b11.mono HB10.out.size))
  have e11 : isForm 1 A = q5 := Bool.eq_iff_iff.2 ((isForm_iff A 1).trans HQ5.out.symm)
  rw [e11]
  have hqq : (q5 != q5) = false := by simp
  clear b11 HB10 e11
  go_wp2_with fail
  refine (size_any ao n cap A _ (HS.out.below HB11.out)).mono ?_
  rintro e w12 ⟨q12, rfl, hq12, b12⟩
  replace HX4 := hide (HX4.out.below b12)
  replace HX8 := hide (HX8.out.below b12)
  have HB12 := hide (HB11.out.trans (b12.mono HB11.out.size))
  obtain rfl : q12 = q6 := size_same hq12 HQ6.out
  have hss : (q12 == q12) = true := by simp
  clear b12 HB11 hq12
  go_wp2_with fail
  refine (last_any ao n cap A _ (HS.out.below HB12.out)).mono ?_
  rintro e w13 ⟨q13, rfl, hq13, b13⟩
  replace HX4 := hide (HX4.out.below b13)
  replace HX8 := hide (HX8.out.below b13)
  have HB13 := hide (HB12.out.trans (b13.mono HB12.out.size))
  obtain rfl : q13 = q7 := hq13.unique HQ7.out
  have hll : (q13 == q13) = true := by simp
  clear b13 HB12 hq13
  go_wp2_with fail
  go_ret
  exact ⟨rfl, HB13.out⟩
end Go.Proofs.Ytclmgkjmimondaa
