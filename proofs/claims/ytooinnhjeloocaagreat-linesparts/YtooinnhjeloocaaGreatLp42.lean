/- OLq -/
import Derived.Test.YtooinnhjeloocaaGreatLp41
namespace Go.Proofs.YtooinnhjeloocaaGreat
open Go.RowKit
attribute [local go_sem ↓] ldP_eq stP_eq
attribute [local go_sem] cells_PV PC_size cells_CaV CaC_size
variable {w w' w2 W W' : World} {g : Nat}

set_option maxRecDepth 100000 in
set_option maxHeartbeats 6400000 in
theorem linesParts_any (m : Ca) (A B : List K.En) (w : World) (hS : CaS w m A B) :
    Calls Tryz.prog 3 #[CaV m] w fun e w' => e = .returned (.bool true) ∧ Below w.heap.size w w' := by
  have b1 := below_new w (.cells (CaC m) 30)
  have x1 := CaBox_new w m
  obtain ⟨w1, hw1⟩ : ∃ w1, w.alloc (.cells (CaC m) 30) = w1 := ⟨_, rfl⟩
  obtain ⟨g1, hg1⟩ : ∃ g1, w.heap.size = g1 := ⟨_, rfl⟩
  rw [hw1] at b1 x1
  rw [hg1] at x1
  have HX : Hid (CaBox w1 g1 m ∧ CaS w1 m A B ∧ Below w.heap.size w w1) := ⟨x1, hS.below b1, b1⟩
  clear b1 x1 hS
  go_enter Tryz.func3, Tryz.ntmps3
  go_wp2_with fail
  clear hw1 hg1
  refine (K.some_any _).mono ?_
  rintro x w2 ⟨so, sn, sc, rfl, S2, b2, -⟩
  have b3 := below_new w2 (.cells #[.int .i64 3] 3)
  have P3 := lit_three w2
  obtain ⟨w3, hw3⟩ : ∃ w3, w2.alloc (.cells #[.int .i64 3] 3) = w3 := ⟨_, rfl⟩
  obtain ⟨g3, hg3⟩ : ∃ g3, w2.heap.size = g3 := ⟨_, rfl⟩
  rw [hw3] at b3 P3
  rw [hg3] at P3
  have b23 := b2.trans (b3.mono b2.size)
  have HX3 : Hid (CaBox w3 g1 m ∧ CaS w3 m A B ∧ Below w.heap.size w w3) := ⟨HX.out.1.below b23, HX.out.2.1.below b23, HX.out.2.2.trans (b23.mono HX.out.2.2.size)⟩
  have HC3 := hide (inside_any so sn sc K.someL ⟨some ⟨g3, 0, none⟩, 1, 1, none, 0, 0, ⟨[3], []⟩⟩ w3 (S2.below b3) P3)
  clear S2 b2 b3 P3 b23 HX
  go_wp2_with fail
  clear hw3 hg3
  refine HC3.out.mono ?_
  rintro x w4 hx
  obtain ⟨io, im, ic, rfl, S4, b4, -⟩ : K.GivesEE w3 w4 x [⟨0, 3, ⟨#[65]⟩, 5⟩] 0 := by
    rcases hx with ⟨-, -, h⟩ | ⟨h, -⟩
    · rw [← some_in]; exact h
    · exact absurd ⟨some_chk6, form_three⟩ h
  have hm1 : im = 1 := S4.1.symm
  subst hm1
  obtain ⟨ad, hao, A4⟩ := S4.at 0 (by omega)
  subst hao
  have c3 := A4.c3
  have c0 := A4.c0
  rw [Nat.zero_mul, add_zero] at c3 c0
  have c3' : w4.cell? ⟨ad.block, ad.off + 3, none⟩ = some (.int .i64 5) := by
    have hs := World.cell?_spot c0
    obtain ⟨b, o, k⟩ := ad
    obtain rfl : k = none := hs
    rw [Addr.add_lit] at c3
    exact c3
  have HX4 : Hid (CaBox w4 g1 m ∧ CaS w4 m A B ∧ Below w.heap.size w w4) := ⟨HX3.out.1.below b4, HX3.out.2.1.below b4, HX3.out.2.2.trans (b4.mono HX3.out.2.2.size)⟩
  have d0 := HX4.out.1.c0
  have l4 := run_ldP HX4.out.1.past
  have HC4 := hide (inside_any m.ao m.n m.cap A m.p w4 HX4.out.2.1.a HX4.out.2.1.p)
  clear hx HC3 S4 b4 A4 HX3 c3 c0
  go_wp2_with fail
  clear c3' d0 l4
  refine HC4.out.mono ?_
  rintro x w5 hx
  obtain ⟨io, im, iq, e5, rfl, hP⟩ := hx.shape
  have HP5 := hide hP
  have b5 : Below w4.heap.size w4 w5 := by
    rcases hP with ⟨-, -, _, _, _, -, -, b, -⟩ | ⟨-, _, _, _, -, -, b, -⟩ <;> exact b
  have HX5 : Hid (CaBox w5 g1 m ∧ CaS w5 m A B ∧ Below w.heap.size w w5) := ⟨HX4.out.1.below b5, HX4.out.2.1.below b5, HX4.out.2.2.trans (b5.mono HX4.out.2.2.size)⟩
  have d0 := HX5.out.1.c0
  have l5 := run_ldP HX5.out.1.past
  have HC5 := hide (outside_any m.ao m.n m.cap A m.p w5 HX5.out.2.1.a HX5.out.2.1.p)
  clear hx hP b5 HX4 HC4
  go_wp2_with fail
  clear d0 l5
  refine HC5.out.mono ?_
  rintro x w6 hx
  by_cases hg : K.chk A = 0 ∧ InForm m.p.P
  rotate_left
  · obtain ⟨oo, om, oq, rfl, S6, b6, -⟩ : K.GivesEE w5 w6 x [] 1 := by
      rcases hx with ⟨h1, h2, -⟩ | ⟨-, h⟩
      · exact absurd ⟨h1, h2⟩ hg
      · exact h
    obtain ⟨h5, hm5⟩ : e5 = 1 ∧ im = 0 := by
      rcases HP5.out with ⟨h1, h2, -⟩ | ⟨-, a, n, c, h, S, -⟩
      · exact absurd ⟨h1, h2⟩ hg
      · simp only [Ending.returned.injEq, Value.tuple.injEq, Array.mk.injEq, List.cons.injEq, Value.slice.injEq, Value.int.injEq, true_and, and_true] at h
        obtain ⟨⟨rfl, rfl, rfl⟩, rfl⟩ := h
        exact ⟨rfl, S.1.symm⟩
    obtain rfl : om = 0 := S6.1.symm
    subst h5 hm5
    have HB := hide (HX5.out.2.2.trans (b6.mono HX5.out.2.2.size))
    clear hx S6 b6 hg HP5 HC5
    go_wp2_with fail
    go_ret
    exact ⟨rfl, HB.out⟩
  · obtain ⟨oo, om, oq, rfl, S6, b6, -⟩ : K.GivesEE w5 w6 x (A.filter (pkB m.p.P false)) 0 := by
      rcases hx with ⟨-, -, h⟩ | ⟨h, -⟩
      · exact h
      · exact absurd hg h
    obtain ⟨h5, S5⟩ : e5 = 0 ∧ K.ESrc w5 io im iq (A.filter (pkB m.p.P true)) := by
      rcases HP5.out with ⟨-, -, a, n, c, h, S, -⟩ | ⟨h, -⟩
      · simp only [Ending.returned.injEq, Value.tuple.injEq, Array.mk.injEq, List.cons.injEq, Value.slice.injEq, Value.int.injEq, true_and, and_true] at h
        obtain ⟨⟨rfl, rfl, rfl⟩, rfl⟩ := h
        exact ⟨rfl, S⟩
      · exact absurd hg h
    subst h5
    have hsum : im + om = m.n := by rw [← S5.1, ← S6.1, ← HX5.out.2.1.a.1]; exact parts_len m.p.P A
    have hsb : m.n ≤ 3518437208883 := HX5.out.2.1.a.2.2.2.2
    have hsi : (im : Int) + (om : Int) = (m.n : Int) := by omega
    have HS6 : Hid (K.ESrc w6 io im iq (A.filter (pkB m.p.P true)) ∧ K.ESrc w6 oo om oq (A.filter (pkB m.p.P false))) := ⟨S5.below b6, S6⟩
    have HX6 : Hid (CaBox w6 g1 m ∧ CaS w6 m A B ∧ Below w.heap.size w w6) := ⟨HX5.out.1.below b6, HX5.out.2.1.below b6, HX5.out.2.2.trans (b6.mono HX5.out.2.2.size)⟩
    have HG := hide hg
    have d0 := HX6.out.1.c0
    clear hx S5 S6 b6 hg HP5 HC5 HX5 hsum
    go_wp2_with fail
    refine (K.lcheck_any m.ao m.n m.cap A _ HX6.out.2.1.a).mono ?_
    rintro x w7 ⟨rfl, b7⟩
    rw [HG.out.1]
    have HS7 : Hid (K.ESrc w7 io im iq (A.filter (pkB m.p.P true)) ∧ K.ESrc w7 oo om oq (A.filter (pkB m.p.P false))) := ⟨HS6.out.1.below b7, HS6.out.2.below b7⟩
    have HX7 : Hid (CaBox w7 g1 m ∧ CaS w7 m A B ∧ Below w.heap.size w w7) := ⟨HX6.out.1.below b7, HX6.out.2.1.below b7, HX6.out.2.2.trans (b7.mono HX6.out.2.2.size)⟩
    have d7 := HX7.out.1.c0
    clear b7 HS6 HX6 d0
    go_wp2_with fail
    refine (K.union_any io oo im iq om oq _ _ _ HS7.out.1 HS7.out.2).mono ?_
    rintro x w8 ⟨uo, un, uc, U, er, rfl, S8, b8, hU⟩
    obtain ⟨rfl, rfl⟩ := parts_union HG.out.1 hU
    have HS8 : Hid (K.ESrc w8 io im iq (U.filter (pkB m.p.P true)) ∧ K.ESrc w8 uo un uc U) := ⟨HS7.out.1.below b8, S8⟩
    have HX8 : Hid (CaBox w8 g1 m ∧ CaS w8 m U B ∧ Below w.heap.size w w8) := ⟨HX7.out.1.below b8, HX7.out.2.1.below b8, HX7.out.2.2.trans (b8.mono HX7.out.2.2.size)⟩
    have d8 := HX8.out.1.c0
    clear b8 S8 hU HS7 HX7 d7 hsi
    go_wp2_with fail
    refine (K.same_any uo m.ao un uc m.n m.cap U U _ HS8.out.2 HX8.out.2.1.a rfl).mono ?_
    rintro x w9 ⟨rfl, b9⟩
    have HS9 := hide (HS8.out.1.below b9)
    have HX9 : Hid (CaBox w9 g1 m ∧ CaS w9 m U B ∧ Below w.heap.size w w9) := ⟨HX8.out.1.below b9, HX8.out.2.1.below b9, HX8.out.2.2.trans (b9.mono HX8.out.2.2.size)⟩
    clear b9 HS8 HX8 d8
    go_wp2_with fail
    refine (dots_any io im iq _ _ HS9.out).mono ?_
    rintro x wa ⟨ba, hx⟩
    obtain ⟨q, rfl, Sq, -, hq⟩ : ∃ q : Pv, x = .returned (.tuple #[PV q, .int .i64 0]) ∧ PSrc wa q ∧ PNew w9.heap.size q ∧ CanonOf (dotsG ((U.filter (pkB m.p.P true)).map dotOf)) q.P := by
      rcases hx with ⟨-, h⟩ | ⟨h, -⟩
      · exact h
      · exact absurd (filter_chk HG.out.1) h
    obtain ⟨gb, hgb⟩ : ∃ gb, wa.heap.size = gb := ⟨_, rfl⟩
    obtain ⟨wb, hstb, Xb, bb, -⟩ := madeP wa q gb hgb
    replace hstb : (stP (.pointer (some ⟨gb, 0, none⟩)) (PV q)).run Tryz.prog (wa.alloc (.cells #[.slice none 0 0, .slice none 0 0] 26)) = .ok () wb := hstb
    have bab := ba.trans (bb.mono ba.size)
    have HSb : Hid (K.ESrc wb io im iq (U.filter (pkB m.p.P true)) ∧ PSrc wb q) := ⟨HS9.out.below bab, Sq.below bb⟩
    have HXb : Hid (CaBox wb g1 m ∧ CaS wb m U B ∧ Below w.heap.size w wb) := ⟨HX9.out.1.below bab, HX9.out.2.1.below bab, HX9.out.2.2.trans (bab.mono HX9.out.2.2.size)⟩
    have db := HXb.out.1.c0
    have lb := run_ldP Xb.at
    have HQ := hide hq
    have HCb := hide (inside_any m.ao m.n m.cap U q wb HXb.out.2.1.a HSb.out.2)
    clear hx Sq hq Xb bb ba bab HS9 HX9
    go_wp2_with fail
    clear hstb hgb
    refine HCb.out.mono ?_
    rintro x wc hx
    obtain ⟨po, pn, pc, rfl, Sc, bc, -⟩ : K.GivesEE wb wc x (U.filter (pkB m.p.P true)) 0 := by
      rcases hx with ⟨-, -, h⟩ | ⟨h, -⟩
      · rw [← parts_again HG.out.1 HQ.out]; exact h
      · exact absurd ⟨HG.out.1, canon_inform HQ.out⟩ h
    have HSc := hide Sc
    have HSd := hide (HSb.out.1.below bc)
    have HB := hide (HXb.out.2.2.trans (bc.mono HXb.out.2.2.size))
    clear hx Sc bc db lb HCb HSb HXb
    go_wp2_with fail
    refine (K.same_any po io pn pc im iq _ _ _ HSc.out HSd.out rfl).mono ?_
    rintro x wd ⟨rfl, bd⟩
    have HBd := hide (HB.out.trans (bd.mono HB.out.size))
    clear bd
    go_wp2_with fail
    go_ret
    exact ⟨rfl, HBd.out⟩
end Go.Proofs.YtooinnhjeloocaaGreat
