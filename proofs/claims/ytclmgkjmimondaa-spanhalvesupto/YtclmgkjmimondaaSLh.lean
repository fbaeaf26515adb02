/- SpanHalves: the law's walk. -/
import Derived.Test.YtclmgkjmimondaaSRh
import Derived.Test.YtclmgkjmimondaaRAk
import Derived.Test.YtclmgkjmimondaaREq
namespace Go.Proofs.Ytclmgkjmimondaa
open Go.RowKit
attribute [local go_sem ↓] ldR_eq stR_eq
attribute [local go_sem] zero_RC cells_RV RC_size fold_RC build_RC

theorem lead_lit {k : Int} {L : List Rn} (h : LeadOf [⟨1, 4⟩, ⟨6, 7⟩] k L) : k = 4 ∧ L = [⟨6, 7⟩] := by
  obtain ⟨X, hX, h⟩ := h.2.2.2.2.2
  have e : X = [⟨1, 4⟩, ⟨6, 7⟩] := hX.unique (NormOf.self ⟨by decide, by decide, by decide, by decide, by decide, by decide, trivial⟩)
  subst e
  rcases h with ⟨_, _, h⟩ | h
  · exact absurd rfl (h _ _ rfl)
  · injection h with h1 h2
    injection h1 with h3 h4
    exact ⟨h4.symm, h2.symm⟩
theorem lead_same {A L : List Rn} {k g : Int} (h : LeadOf A k L) (hg : Least (GapP A 1) g) : k = (if g - 1 < 0 then 1000000000 else g - 1) ∧ MinusOf A [⟨1, k⟩] L := by
  obtain ⟨X, hX, h⟩ := h.2.2.2.2.2
  exact lead_gap hX h hg
set_option maxRecDepth 100000 in
set_option maxHeartbeats 4000000 in
theorem halves_any (ao : Option Addr) (n cap : Nat) (A : List Rn) (x : Int) (w : World) (hS : RSrc w ao n cap A) (hn : n ≤ 1048576) :
    Calls Try.prog 5 #[.slice ao n cap, .int .i64 x] w fun e w' => e = .returned (.bool true) ∧ Below w.heap.size w w' := by
  have HS := hide hS
  clear hS
  go_enter Try.func5, Try.ntmps5
  have HB0 : Hid (Below w.heap.size w w) := Below.refl _ _
  go_wp2_with fail
  refine (awake_any _).mono ?_
  rintro e w1 ⟨rfl, b1⟩
  have HB1 := hide (HB0.out.trans (b1.mono HB0.out.size))
  clear b1 HB0
  go_wp2_with fail
  refine (lead_any _ 2 2 [⟨1, 4⟩, ⟨6, 7⟩] _ (lit_rsrc w1 [⟨1, 4⟩, ⟨6, 7⟩] _ rfl _ 2 rfl (by omega))).mono ?_
  rintro e w2 ⟨q2, a2, n2, c2, X2, rfl, S2, p2, b2⟩
  replace b2 := (below_new _ _).trans (b2.mono (below_new _ _).size)
  have HB2 := hide (HB1.out.trans (b2.mono HB1.out.size))
  obtain ⟨rfl, hx2⟩ := lead_lit p2
  obtain rfl : n2 = 1 := by rw [← S2.len, hx2]; rfl
  clear b2 HB1 S2 p2 hx2
  go_wp2_with fail
  refine (refLead_any ao n cap A _ (HS.out.below HB2.out) hn).mono ?_
  rintro e w3 ⟨g3, q3, a3, n3, c3, X3, rfl, S3, hg3, hk3, p3, b3⟩
  have HB3 := hide (HB2.out.trans (b3.mono HB2.out.size))
  have HX3 := hide S3
  have HG3 := hide hg3
  have HK3 := hide hk3
  have HP3 := hide p3
  clear b3 HB2 S3 hg3 hk3 p3
  go_wp2_with fail
  refine (refSplit_any ao n cap A x _ (HS.out.below HB3.out) hn).mono ?_
  rintro e w4 ⟨a4, n4, c4, X4, d4, m4, e4, Y4, rfl, S4, T4, p4, r4, b4⟩
  replace HX3 := hide (HX3.out.below b4)
  have HB4 := hide (HB3.out.trans (b4.mono HB3.out.size))
  have HX4 := hide S4
  have HY4 := hide T4
  have HP4 := hide p4
  have HR4 := hide r4
  clear b4 HB3 S4 T4 p4 r4
  go_wp2_with fail
  refine (lead_any ao n cap A _ (HS.out.below HB4.out)).mono ?_
  rintro e w5 ⟨q5, a5, n5, c5, X5, rfl, S5, p5, b5⟩
  replace HX3 := hide (HX3.out.below b5)
  replace HX4 := hide (HX4.out.below b5)
  replace HY4 := hide (HY4.out.below b5)
  have HB5 := hide (HB4.out.trans (b5.mono HB4.out.size))
  have HX5 := hide S5
  obtain ⟨hk5, hm5⟩ := lead_same p5 HG3.out
  obtain rfl : q5 = q3 := hk5.trans HK3.out.symm
  have HE5 : Hid (X5 = X3) := hm5.unique HP3.out
  have hqq : (q5 != q5) = false := by simp
  clear b5 HB4 S5 p5 hk5 hm5
  go_wp2_with fail
  refine (equal_any a5 a3 n5 c5 n3 c3 X5 X3 _ HX5.out HX3.out).mono ?_
  rintro e w6 ⟨rfl, b6⟩
  replace HX3 := hide (HX3.out.below b6)
  replace HX4 := hide (HX4.out.below b6)
  replace HY4 := hide (HY4.out.below b6)
  replace HX5 := hide (HX5.out.below b6)
  have HB6 := hide (HB5.out.trans (b6.mono HB5.out.size))
  rw [decide_eq_true HE5.out]
  clear b6 HB5
  go_wp2_with fail
  refine (split_any ao n cap A x _ (HS.out.below HB6.out)).mono ?_
  rintro e w7 ⟨a7, n7, c7, X7, d7, m7, e7, Y7, rfl, S7, T7, p7, r7, b7⟩
  replace HX3 := hide (HX3.out.below b7)
  replace HX4 := hide (HX4.out.below b7)
  replace HY4 := hide (HY4.out.below b7)
  replace HX5 := hide (HX5.out.below b7)
  have HB7 := hide (HB6.out.trans (b7.mono HB6.out.size))
  have HX7 := hide S7
  have HY7 := hide T7
  have HE7 : Hid (X7 = X4) := p7.unique HP4.out
  have HF7 : Hid (Y7 = Y4) := r7.unique HR4.out
  clear b7 HB6 S7 T7 p7 r7
  go_wp2_with fail
  refine (equal_any a7 a4 n7 c7 n4 c4 X7 X4 _ HX7.out HX4.out).mono ?_
  rintro e w8 ⟨rfl, b8⟩
  replace HX3 := hide (HX3.out.below b8)
  replace HX4 := hide (HX4.out.below b8)
  replace HY4 := hide (HY4.out.below b8)
  replace HX5 := hide (HX5.out.below b8)
  replace HX7 := hide (HX7.out.below b8)
  replace HY7 := hide (HY7.out.below b8)
  have HB8 := hide (HB7.out.trans (b8.mono HB7.out.size))
  rw [decide_eq_true HE7.out]
  clear b8 HB7
  go_wp2_with fail
  refine (equal_any d7 d4 m7 e7 m4 e4 Y7 Y4 _ HY7.out HY4.out).mono ?_
  rintro e w9 ⟨rfl, b9⟩
  replace HX3 := hide (HX3.out.below b9)
  replace HX4 := hide (HX4.out.below b9)
  replace HY4 := hide (HY4.out.below b9)
  replace HX5 := hide (HX5.out.below b9)
  replace HX7 := hide (HX7.out.below b9)
  replace HY7 := hide (HY7.out.below b9)
  have HB9 := hide (HB8.out.trans (b9.mono HB8.out.size))
  rw [decide_eq_true HF7.out]
  clear b9 HB8
  go_wp2_with fail
  go_ret
  exact ⟨rfl, HB9.out⟩
end Go.Proofs.Ytclmgkjmimondaa
