/- TSr TMn TJn -/
import Derived.Test.YtalpnhfoaohhhaaGreatTc25
import Derived.Test.YtalpnhfoaohhhaaGreatTc36
import Derived.Test.YtalpnhfoaohhhaaGreatTc41
import Derived.Test.YtalpnhfoaohhhaaGreatTc40
import Derived.Deep.CutRange
namespace Go.Proofs.YtalpnhfoaohhhaaGreat
open Go.RowKit
attribute [local go_sem ↓] K.ld28_eq K.st28_eq K.run_eq28 ldP_eq stP_eq ldRe_eq stRe_eq
attribute [local go_sem] K.zero_EC K.cells_EV cells_PV PC_size
def EqF (f g : Fc) : Prop := f.es = g.es ∧ f.p.P = g.p.P ∧ plR f.rs = plR g.rs
attribute [local go_sem ↓] ldFa_eq stFa_eq
attribute [local go_sem] cells_FaV FaC_size
end Go.Proofs.YtalpnhfoaohhhaaGreat
namespace Go.Proofs.YtalpnhfoaohhhaaGreat
open Go.RowKit
structure IsF (h : Fc) (E : K.En → Prop) (M : Nat → Int → Prop) (R : Rp → Prop) : Prop where
 form : FormF h
 len : h.es.length = h.an ∧ h.rs.length = h.rn
 es : ∀ x, x ∈ h.es ↔ E x
 p : ∀ r, r < 16 → ∀ n, mem (runsAt h.p.P r) n ↔ M r n
 rs : ∀ y, y ∈ plR h.rs ↔ R y
def WellF (f g : Fc) : Prop := FormF f ∧ FormF g ∧ ∀ e ∈ f.es, ¬ ClE e g
theorem sameDot_symm {x y : K.En} (h : K.sameDot x y = true) : K.sameDot y x = true := by
 unfold K.sameDot at h ⊢
 simp only [Bool.and_eq_true, beq_iff_eq] at h ⊢
 exact ⟨h.1.symm, h.2.symm⟩
theorem sameDot_dotOf {x y : K.En} (h : K.sameDot x y = true) : dotOf x = dotOf y := by
 unfold K.sameDot at h
 simp only [Bool.and_eq_true, beq_iff_eq] at h
 unfold dotOf
 rw [h.1, h.2]
attribute [local go_sem ↓] ldFa_eq stFa_eq ldD_eq stD_eq
attribute [local go_sem] cells_FaV FaC_size cells_RV RC_size zero_RC
end Go.Proofs.YtalpnhfoaohhhaaGreat
namespace Go.Proofs.YtalpnhfoaohhhaaGreat
open Go.RowKit
attribute [local go_sem ↓] ldP_eq stP_eq ldFa_eq stFa_eq bldF_eq bsPs_eq
attribute [local go_sem] cells_PV PC_size cells_FaV FaC_size zero_FaZ run_bldF0 run_bldF12 run_bsPs
set_option maxRecDepth 100000 in
set_option maxHeartbeats 3200000 in
theorem tJoin_any (f g : Fc) (w : World) (hF : FcOk w f) (hG : FcOk w g) (hf : FcR f) (hg : FcR g) (hnm : f.rn + g.rn ≤ 2199023255551) :
  Calls Tryz.prog 15 #[FaV (mkF f), FaV (mkF g)] w fun e w' => FcD w w' e (JnOf 0 f g) := by
 obtain ⟨w2, hw2, HX2, HY2, HB2⟩ := box2F w f g
 have b3 := below_new w2 (.cells (FaC (mkF fz0)) 29)
 have X3 := FaBox_new w2 (mkF fz0)
 have hs2 : w2.heap.size = w.heap.size + 2 := by rw [← hw2]; simp
 obtain ⟨wk, hwk⟩ : ∃ wk, w2.alloc (.cells (FaC (mkF fz0)) 29) = wk := ⟨_, rfl⟩
 rw [hwk] at b3 X3
 rw [hs2] at X3
 obtain ⟨G, hG0⟩ : ∃ G, w.heap.size = G := ⟨_, rfl⟩
 rw [hG0] at X3 HX2 HY2
 have HX := hide (HX2.out.below b3)
 have HY := hide (HY2.out.below b3)
 have HZ := hide X3
 have HBK := hide (HB2.out.trans (b3.mono HB2.out.size))
 have HF := hide (hF.below HBK.out)
 have HG := hide (hG.below HBK.out)
 have HR : Hid (FcR f ∧ FcR g ∧ f.rn + g.rn ≤ 2199023255551) := ⟨hf, hg, hnm⟩
 have HGs : Hid (w.heap.size = G) := hG0
 clear hF hG hf hg hnm b3 X3 HX2 HY2 HB2
 have lf := run_ldFa HX.out
 have lg := run_ldFa HY.out
 go_enter Tryz.func15, Tryz.ntmps15
 go_wp2_with fail
 clear hw2 hwk hs2 hG0
 refine (checkBoth_any f g _ HF.out HG.out).mono ?_
 rintro e w3 ⟨x, rfl, hx, b3⟩
 have HB3 := hide (HBK.out.trans (b3.mono HBK.out.size))
 have HX3 := hide (HX.out.below b3)
 have HY3 := hide (HY.out.below b3)
 have HZ3 := hide (HZ.out.below b3)
 have HF3 := hide (HF.out.below b3)
 have HG3 := hide (HG.out.below b3)
 clear b3 lf lg
 rcases hx with ⟨rfl, h1, h2⟩ | ⟨rfl, h1⟩
 rotate_left
 ·have st0 := run_stFa (m' := mkF fz0) HZ3.out
  have HE := hide (give_fc (w := w) (f := fz0) (er := 1) (JnOf 0 f g) HZ3.out (fz0_ok _) fz0_row (fz0_new _) HB3.out (by rw [HGs.out]; omega) (.inl ⟨h1, rfl, rfl⟩))
  clear h1
  go_wp2_with fail
  clear st0
  refine bodyPost_ret (res2Fb rfl rfl rfl HE.out.1) rfl ?_
  exact HE.out.2
 have HFo : Hid (FormF f ∧ FormF g) := ⟨h1, h2⟩
 obtain ⟨c0, c3⟩ := HX3.out.cs
 obtain ⟨d0, d3⟩ := HY3.out.cs
 clear h1 h2
 go_wp2_with fail
 clear c0 c3 d0 d3
 refine (K.unionN_any f.ao g.ao f.an f.ac g.an g.ac f.es g.es _ HF3.out.es HG3.out.es).mono ?_
 rintro e w4 ⟨ao, n, c, R, er, rfl, S4, b4, n4, u4⟩
 have HB4 := hide (HB3.out.trans (b4.mono HB3.out.size))
 have HX4 := hide (HX3.out.below b4)
 have HY4 := hide (HY3.out.below b4)
 have HZ4 := hide (HZ3.out.below b4)
 have HF4 := hide (HF3.out.below b4)
 have HG4 := hide (HG3.out.below b4)
 have HS4 := hide S4
 have HN4 : Hid (∀ ad, ao = some ad → G + 3 ≤ ad.block) := fun ad e => Nat.le_trans (by have := HZ3.out.lt; omega) (n4 ad e)
 have HU4 := hide u4
 clear b4 S4 n4 u4
 by_cases h0 : er = 0
 rotate_left
 ·have hne : (er != 0) = true := by simp [h0]
  have st0 := run_stFa (m' := mkF fz0) HZ4.out
  have HE := hide (give_fc (w := w) (f := fz0) (er := er) (JnOf 0 f g) HZ4.out (fz0_ok _) fz0_row (fz0_new _) HB4.out (by rw [HGs.out]; omega) (.inr ⟨HFo.out.1, HFo.out.2, R, er, HU4.out, .inl ⟨h0, by rw [if_pos rfl], rfl⟩⟩))
  clear h0
  go_wp2_with fail
  clear st0
  refine bodyPost_ret (res2Fb rfl rfl rfl HE.out.1) rfl ?_
  exact HE.out.2
 subst h0
 obtain ⟨-, c3⟩ := HX4.out.cs
 obtain ⟨-, d3⟩ := HY4.out.cs
 go_wp2_with fail
 clear c3 d3
 refine (keepUnion_any f.ro g.ro f.rn f.rc g.rn g.rc f.rs g.rs _ (HF4.out.row HR.out.1) (HG4.out.row HR.out.2.1) HR.out.2.2).mono ?_
 rintro e w5 (⟨-, -, h5, F5, rfl, G5, m5, U5⟩ | ⟨hno, -⟩)
 rotate_left
 ·exact absurd ⟨HFo.out.1.2.2, HFo.out.2.2.2⟩ hno
 have b5 := G5.below
 have HB5 := hide (HB4.out.trans (b5.mono HB4.out.size))
 have HX5 := hide (HX4.out.below b5)
 have HY5 := hide (HY4.out.below b5)
 have HZ5 := hide (HZ4.out.below b5)
 have HF5 := hide (HF4.out.below b5)
 have HG5 := hide (HG4.out.below b5)
 have HS5 := hide (HS4.out.below b5)
 have hz : G + 3 ≤ w4.heap.size := by have := HZ4.out.lt; omega
 have HR5 : Hid (RcT w5 h5.o h5.n h5.c F5 ∧ (∀ ad, h5.o = some ad → G + 3 ≤ ad.block) ∧ (∀ r ∈ F5, PNew (G + 3) r.p)) := ⟨G5.row, fun ad e => Nat.le_trans hz (G5.new ad e), fun r hr => (G5.fresh r hr).mono hz⟩
 have HU5 : Hid (UnOf f.rs g.rs F5 ∧ h5.n ≤ f.rn + g.rn) := ⟨U5, m5⟩
 clear b5 G5 U5 m5 hz
 obtain ⟨ho5, hn5, hc5⟩ := h5
 rw [show HsV ⟨ho5, hn5, hc5⟩ = Value.slice ho5 hn5 hc5 from rfl]
 have lp := run_ldP HX5.out.past
 have lq := run_ldP HY5.out.past
 have hPR := prow2 w5 f.p g.p HF5.out.p HG5.out.p
 have b6 := below_new w5 (.cells #[.slice f.p.vo f.p.vn f.p.vc, .slice f.p.co f.p.cn f.p.cc, .slice g.p.vo g.p.vn g.p.vc, .slice g.p.co g.p.cn g.p.cc] 26)
 have lb := run_bsPs f.p g.p w5
 obtain ⟨g6, hg6⟩ : ∃ g6, w5.heap.size = g6 := ⟨_, rfl⟩
 obtain ⟨w6, hw6⟩ : ∃ w6, w5.alloc (.cells #[.slice f.p.vo f.p.vn f.p.vc, .slice f.p.co f.p.cn f.p.cc, .slice g.p.vo g.p.vn g.p.vc, .slice g.p.co g.p.cn g.p.cc] 26) = w6 := ⟨_, rfl⟩
 rw [hw6] at hPR b6 lb
 rw [hg6] at hPR lb
 have HPR := hide hPR
 have HB6 := hide (HB5.out.trans (b6.mono HB5.out.size))
 have HZ6 := hide (HZ5.out.below b6)
 have HS6 := hide (HS5.out.below b6)
 have HR6 : Hid (RcT w6 ho5 hn5 hc5 F5 ∧ (∀ ad, ho5 = some ad → G + 3 ≤ ad.block) ∧ (∀ r ∈ F5, PNew (G + 3) r.p)) := ⟨HR5.out.1.below b6, HR5.out.2.1, HR5.out.2.2⟩
 clear hPR b6 hg6 hw6
 go_wp2_with fail
 clear lp lq lb
 refine (pastJoin_any (some ⟨g6, 0, none⟩) 2 2 [f.p, g.p] _ HPR.out (bsP2_wt HFo.out.1.2.1 HFo.out.2.2.1) (by decide)).mono ?_
 rintro e w7 ⟨q, rfl, S7, N7, b7, C7⟩
 have hz6 : G + 3 ≤ w6.heap.size := by have := HZ6.out.lt; omega
 have HFc : Hid (FcOk w7 ⟨ao, n, c, R, q, ho5, hn5, hc5, F5⟩) := ⟨HS6.out.below b7, S7, (HR6.out.1.below b7).src⟩
 have HFn : Hid (FcN (G + 2 + 1) ⟨ao, n, c, R, q, ho5, hn5, hc5, F5⟩) := ⟨HN4.out, N7.mono hz6, HR6.out.2.1, HR6.out.2.2⟩
 have HZ7 := hide (HZ6.out.below b7)
 have HB7 := hide (HB6.out.trans (b7.mono HB6.out.size))
 have stz := run_stFa (m' := mkF ⟨ao, n, c, R, q, ho5, hn5, hc5, F5⟩) HZ7.out
 have HE := hide (give_fc (w := w) (f := ⟨ao, n, c, R, q, ho5, hn5, hc5, F5⟩) (er := 0) (JnOf 0 f g) HZ7.out HFc.out ⟨HR6.out.1.room, HR6.out.1.nil⟩ HFn.out HB7.out (by rw [HGs.out]; omega) (.inr ⟨HFo.out.1, HFo.out.2, R, 0, HU4.out, .inr ⟨rfl, rfl, rfl, C7, HU5.out⟩⟩))
 clear S7 N7 b7 C7 hz6
 replace stz : (stFa (.pointer (some ⟨G + 2, 0, none⟩)) (.agg #[.slice ao n c, .slice q.vo q.vn q.vc, .slice q.co q.cn q.cc, .slice ho5 hn5 hc5])).run Tryz.prog w7 = .ok () (w7.setRow (G + 2) (FaC (mkF ⟨ao, n, c, R, q, ho5, hn5, hc5, F5⟩))) := stz
 go_wp2_with fail
 clear stz
 refine bodyPost_ret (res2Fb rfl rfl rfl HE.out.1) rfl ?_
 exact HE.out.2
end Go.Proofs.YtalpnhfoaohhhaaGreat
