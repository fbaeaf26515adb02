/- TMn TJn TPs BAq TLv -/
import Derived.Test.YtehcehhfdhiomaaGreatTk
import Derived.Test.YtehcehhfdhiomaaGreatTf38
import Derived.Test.YtehcehhfdhiomaaGreatTf33
import Derived.Deep.CutRange
import Derived.Test.YtehcehhfdhiomaaGreatTf37
import Derived.Test.YtehcehhfdhiomaaGreatTf22
namespace Go.Proofs.YtehcehhfdhiomaaGreat
open Go.RowKit
structure IsF (h : Fc) (E : K.En → Prop) (M : Nat → Int → Prop) (R : Rp → Prop) : Prop where
 form : FormF h
 len : h.es.length = h.an ∧ h.rs.length = h.rn
 es : ∀ x, x ∈ h.es ↔ E x
 p : ∀ r, r < 16 → ∀ n, mem (runsAt h.p.P r) n ↔ M r n
 rs : ∀ y, y ∈ plR h.rs ↔ R y
def WellF (f g : Fc) : Prop := FormF f ∧ FormF g ∧ ∀ e ∈ f.es, ¬ ClE e g
attribute [local go_sem ↓] ldFa_eq stFa_eq ldD_eq stD_eq
attribute [local go_sem] cells_FaV FaC_size cells_RV RC_size zero_RC
end Go.Proofs.YtehcehhfdhiomaaGreat
namespace Go.Proofs.YtehcehhfdhiomaaGreat
open Go.RowKit
attribute [local go_sem ↓] ldP_eq stP_eq ldFa_eq stFa_eq bldF_eq bsPs_eq
attribute [local go_sem] cells_PV PC_size cells_FaV FaC_size zero_FaZ run_bldF0 run_bldF12 run_bsPs
set_option maxRecDepth 100000 in
set_option maxHeartbeats 3200000 in
theorem tJoin_any (f g : Fc) (w : World) (hF : FcOk w f) (hG : FcOk w g) (hf : FcR f) (hg : FcR g) (hnm : f.rn + g.rn ≤ 2199023255551) :
  Calls Tryz.prog 17 #[FaV (mkF f), FaV (mkF g)] w fun e w' => FcD w w' e (JnOf 0 f g) := by
 obtain ⟨w2, hw2, HX2, HY2, HB2⟩ := box2F w f g
 have b3 := below_new w2 (.cells (FaC (mkF fz0)) 29)
 have X3 := FaBox_new w2 (mkF fz0)
 have hs2 : w2.heap.size = w.heap.size + 2 := by rw [← hw2]; simp
 obtain ⟨wk, hwk⟩ : ∃ wk, w2.alloc (.cells (FaC (mkF fz0)) 29) = wk := ⟨_, rfl⟩
 rw [hwk] at b3 X3
 rw [hs2] at X3
 obtain ⟨G, hG0⟩ : ∃ G, w.heap.size = G := ⟨_, rfl⟩
 rw [hG0] at X3 HX2 HY2
 have HX := hide (HX2.out.below b3)
 have HY := hide (HY2.out.below b3)
 have HZ := hide X3
 have HBK := hide (HB2.out.trans (b3.mono HB2.out.size))
 have HF := hide (hF.below HBK.out)
 have HG := hide (hG.below HBK.out)
 have HR : Hid (FcR f ∧ FcR g ∧ f.rn + g.rn ≤ 2199023255551) := ⟨hf, hg, hnm⟩
 have HGs : Hid (w.heap.size = G) := hG0
 clear hF hG hf hg hnm b3 X3 HX2 HY2 HB2
 have lf := run_ldFa HX.out
 have lg := run_ldFa HY.out
 go_enter Tryz.func17, Tryz.ntmps17
 go_wp2_with fail
 clear hw2 hwk hs2 hG0
 refine (checkBoth_any f g _ HF.out HG.out).mono ?_
 rintro e w3 ⟨x, rfl, hx, b3⟩
 have HB3 := hide (HBK.out.trans (b3.mono HBK.out.size))
 have HX3 := hide (HX.out.below b3)
 have HY3 := hide (HY.out.below b3)
 have HZ3 := hide (HZ.out.below b3)
 have HF3 := hide (HF.out.below b3)
 have HG3 := hide (HG.out.below b3)
 clear b3 lf lg
 rcases hx with ⟨rfl, h1, h2⟩ | ⟨rfl, h1⟩
 rotate_left
 ·have st0 := run_stFa (m' := mkF fz0) HZ3.out
  have HE := hide (give_fc (w := w) (f := fz0) (er := 1) (JnOf 0 f g) HZ3.out (fz0_ok _) fz0_row (fz0_new _) HB3.out (by rw [HGs.out]; omega) (.inl ⟨h1, rfl, rfl⟩))
  clear h1
  go_wp2_with fail
  clear st0
  refine bodyPost_ret (res2Fb rfl rfl rfl HE.out.1) rfl ?_
  exact HE.out.2
 have HFo : Hid (FormF f ∧ FormF g) := ⟨h1, h2⟩
 obtain ⟨c0, c3⟩ := HX3.out.cs
 obtain ⟨d0, d3⟩ := HY3.out.cs
 clear h1 h2
 go_wp2_with fail
 clear c0 c3 d0 d3
 refine (K.unionN_any f.ao g.ao f.an f.ac g.an g.ac f.es g.es _ HF3.out.es HG3.out.es).mono ?_
 rintro e w4 ⟨ao, n, c, R, er, rfl, S4, b4, n4, u4⟩
 have HB4 := hide (HB3.out.trans (b4.mono HB3.out.size))
 have HX4 := hide (HX3.out.below b4)
 have HY4 := hide (HY3.out.below b4)
 have HZ4 := hide (HZ3.out.below b4)
 have HF4 := hide (HF3.out.below b4)
 have HG4 := hide (HG3.out.below b4)
 have HS4 := hide S4
 have HN4 : Hid (∀ ad, ao = some ad → G + 3 ≤ ad.block) := fun ad e => Nat.le_trans (by have := HZ3.out.lt; omega) (n4 ad e)
 have HU4 := hide u4
 clear b4 S4 n4 u4
 by_cases h0 : er = 0
 rotate_left
 ·have hne : (er != 0) = true := by simp [h0]
  have st0 := run_stFa (m' := mkF fz0) HZ4.out
  have HE := hide (give_fc (w := w) (f := fz0) (er := er) (JnOf 0 f g) HZ4.out (fz0_ok _) fz0_row (fz0_new _) HB4.out (by rw [HGs.out]; omega) (.inr ⟨HFo.out.1, HFo.out.2, R, er, HU4.out, .inl ⟨h0, by rw [if_pos rfl], rfl⟩⟩))
  clear h0
  go_wp2_with fail
  clear st0
  refine bodyPost_ret (res2Fb rfl rfl rfl HE.out.1) rfl ?_
  exact HE.out.2
 subst h0
 obtain ⟨-, c3⟩ := HX4.out.cs
 obtain ⟨-, d3⟩ := HY4.out.cs
 go_wp2_with fail
 clear c3 d3
 refine (keepUnion_any f.ro g.ro f.rn f.rc g.rn g.rc f.rs g.rs _ (HF4.out.row HR.out.1) (HG4.out.row HR.out.2.1) HR.out.2.2).mono ?_
 rintro e w5 (⟨-, -, h5, F5, rfl, G5, m5, U5⟩ | ⟨hno, -⟩)
 rotate_left
 ·exact absurd ⟨HFo.out.1.2.2, HFo.out.2.2.2⟩ hno
 have b5 := G5.below
 have HB5 := hide (HB4.out.trans (b5.mono HB4.out.size))
 have HX5 := hide (HX4.out.below b5)
 have HY5 := hide (HY4.out.below b5)
 have HZ5 := hide (HZ4.out.below b5)
 have HF5 := hide (HF4.out.below b5)
 have HG5 := hide (HG4.out.below b5)
 have HS5 := hide (HS4.out.below b5)
 have hz : G + 3 ≤ w4.heap.size := by have := HZ4.out.lt; omega
 have HR5 : Hid (RcT w5 h5.o h5.n h5.c F5 ∧ (∀ ad, h5.o = some ad → G + 3 ≤ ad.block) ∧ (∀ r ∈ F5, PNew (G + 3) r.p)) := ⟨G5.row, fun ad e => Nat.le_trans hz (G5.new ad e), fun r hr => (G5.fresh r hr).mono hz⟩
 have HU5 : Hid (UnOf f.rs g.rs F5 ∧ h5.n ≤ f.rn + g.rn) := ⟨U5, m5⟩
 clear b5 G5 U5 m5 hz
 obtain ⟨ho5, hn5, hc5⟩ := h5
 rw [show HsV ⟨ho5, hn5, hc5⟩ = Value.slice ho5 hn5 hc5 from rfl]
 have lp := run_ldP HX5.out.past
 have lq := run_ldP HY5.out.past
 have hPR := prow2 w5 f.p g.p HF5.out.p HG5.out.p
 have b6 := below_new w5 (.cells #[.slice f.p.vo f.p.vn f.p.vc, .slice f.p.co f.p.cn f.p.cc, .slice g.p.vo g.p.vn g.p.vc, .slice g.p.co g.p.cn g.p.cc] 26)
 have lb := run_bsPs f.p g.p w5
 obtain ⟨g6, hg6⟩ : ∃ g6, w5.heap.size = g6 := ⟨_, rfl⟩
 obtain ⟨w6, hw6⟩ : ∃ w6, w5.alloc (.cells #[.slice f.p.vo f.p.vn f.p.vc, .slice f.p.co f.p.cn f.p.cc, .slice g.p.vo g.p.vn g.p.vc, .slice g.p.co g.p.cn g.p.cc] 26) = w6 := ⟨_, rfl⟩
 rw [hw6] at hPR b6 lb
 rw [hg6] at hPR lb
 have HPR := hide hPR
 have HB6 := hide (HB5.out.trans (b6.mono HB5.out.size))
 have HZ6 := hide (HZ5.out.below b6)
 have HS6 := hide (HS5.out.below b6)
 have HR6 : Hid (RcT w6 ho5 hn5 hc5 F5 ∧ (∀ ad, ho5 = some ad → G + 3 ≤ ad.block) ∧ (∀ r ∈ F5, PNew (G + 3) r.p)) := ⟨HR5.out.1.below b6, HR5.out.2.1, HR5.out.2.2⟩
 clear hPR b6 hg6 hw6
 go_wp2_with fail
 clear lp lq lb
 refine (pastJoin_any (some ⟨g6, 0, none⟩) 2 2 [f.p, g.p] _ HPR.out (bsP2_wt HFo.out.1.2.1 HFo.out.2.2.1) (by decide)).mono ?_
 rintro e w7 ⟨q, rfl, S7, N7, b7, C7⟩
 have hz6 : G + 3 ≤ w6.heap.size := by have := HZ6.out.lt; omega
 have HFc : Hid (FcOk w7 ⟨ao, n, c, R, q, ho5, hn5, hc5, F5⟩) := ⟨HS6.out.below b7, S7, (HR6.out.1.below b7).src⟩
 have HFn : Hid (FcN (G + 2 + 1) ⟨ao, n, c, R, q, ho5, hn5, hc5, F5⟩) := ⟨HN4.out, N7.mono hz6, HR6.out.2.1, HR6.out.2.2⟩
 have HZ7 := hide (HZ6.out.below b7)
 have HB7 := hide (HB6.out.trans (b7.mono HB6.out.size))
 have stz := run_stFa (m' := mkF ⟨ao, n, c, R, q, ho5, hn5, hc5, F5⟩) HZ7.out
 have HE := hide (give_fc (w := w) (f := ⟨ao, n, c, R, q, ho5, hn5, hc5, F5⟩) (er := 0) (JnOf 0 f g) HZ7.out HFc.out ⟨HR6.out.1.room, HR6.out.1.nil⟩ HFn.out HB7.out (by rw [HGs.out]; omega) (.inr ⟨HFo.out.1, HFo.out.2, R, 0, HU4.out, .inr ⟨rfl, rfl, rfl, C7, HU5.out⟩⟩))
 clear S7 N7 b7 C7 hz6
 replace stz : (stFa (.pointer (some ⟨G + 2, 0, none⟩)) (.agg #[.slice ao n c, .slice q.vo q.vn q.vc, .slice q.co q.cn q.cc, .slice ho5 hn5 hc5])).run Tryz.prog w7 = .ok () (w7.setRow (G + 2) (FaC (mkF ⟨ao, n, c, R, q, ho5, hn5, hc5, F5⟩))) := stz
 go_wp2_with fail
 clear stz
 refine bodyPost_ret (res2Fb rfl rfl rfl HE.out.1) rfl ?_
 exact HE.out.2
end Go.Proofs.YtehcehhfdhiomaaGreat
namespace Go.Proofs.YtehcehhfdhiomaaGreat
open Go.RowKit
def hrd (f : Fc) (r : Nat) (n : Int) : Prop := mem (dotsG (f.es.map dotOf) r) n ∨ mem (runsAt f.p.P r) n
def PsD (f : Fc) (P : Pst) (er : Int) : Prop := (¬ FormF f ∧ er = 1 ∧ P = pv0.P) ∨ (FormF f ∧ er = 0 ∧ InForm P ∧ ∀ r, r < 16 → ∀ n, mem (runsAt P r) n ↔ hrd f r n)
def PsA (w w' : World) (e : Ending) (f : Fc) : Prop := ∃ (p : Pv) (er : Int), e = .returned (.tuple #[PV p, .int .i64 er]) ∧ PSrc w' p ∧ PNew w.heap.size p ∧ Below w.heap.size w w' ∧ PsD f p.P er
attribute [local go_sem ↓] ldP_eq stP_eq ldFa_eq stFa_eq bsPs_eq
attribute [local go_sem] cells_PV PC_size cells_FaV FaC_size run_bsPs
set_option maxRecDepth 100000 in
set_option maxHeartbeats 3200000 in
theorem tPast_any (f : Fc) (w : World) (hF : FcOk w f) : Calls Tryz.prog 14 #[FaV (mkF f)] w fun e w' => PsA w w' e f := by
 have b1 := below_new w (.cells (FaC (mkF f)) 29)
 have X1 := FaBox_new w (mkF f)
 obtain ⟨w1, hw1⟩ : ∃ w1, w.alloc (.cells (FaC (mkF f)) 29) = w1 := ⟨_, rfl⟩
 have hs1 : w1.heap.size = w.heap.size + 1 := by rw [← hw1]; simp
 rw [hw1] at b1 X1
 have x2 : PBox (w1.alloc (.cells #[.slice none 0 0, .slice none 0 0] 26)) w1.heap.size pv0 := pbox_new w1 pv0
 have b2 := below_new w1 (.cells #[.slice none 0 0, .slice none 0 0] 26)
 obtain ⟨w2, hw2⟩ : ∃ w2, w1.alloc (.cells #[.slice none 0 0, .slice none 0 0] 26) = w2 := ⟨_, rfl⟩
 rw [hw2] at x2 b2
 rw [hs1] at x2
 obtain ⟨G, hG0⟩ : ∃ G, w.heap.size = G := ⟨_, rfl⟩
 rw [hG0] at X1 x2 hs1
 have HX := hide (X1.below b2)
 have HZ := hide x2
 have HBK := hide (b1.trans (b2.mono b1.size))
 have HF := hide (hF.below HBK.out)
 have HGs : Hid (w.heap.size = G) := hG0
 clear hF b1 b2 X1 x2
 have lf := run_ldFa HX.out
 go_enter Tryz.func14, Tryz.ntmps14
 go_wp2_with fail
 clear hw1 hw2 hs1 hG0 lf
 refine (tCheck_any f _ HF.out).mono ?_
 rintro e w3 ⟨x, rfl, hx, b3⟩
 have HB3 := hide (HBK.out.trans (b3.mono HBK.out.size))
 have HX3 := hide (HX.out.below b3)
 have HZ3 := hide (HZ.out.below b3)
 have HF3 := hide (HF.out.below b3)
 clear b3
 rcases hx with ⟨rfl, h1⟩ | ⟨rfl, h1⟩
 rotate_left
 ·have t6 : (stP (.pointer (some ⟨G + 1, 0, none⟩)) (.agg #[.slice none 0 0, .slice none 0 0])).run Tryz.prog w3 = .ok () (w3.setRow (G + 1) (PC pv0)) := run_stP (p' := pv0) HZ3.out
  have HX0 : Hid (PBox (w3.setRow (G + 1) (PC pv0)) (G + 1) pv0) := setRow_heap _ _ _ _ _ _ HZ3.out
  have HE : Hid (PsA w (w3.setRow (G + 1) (PC pv0)) (.returned (.tuple #[PV pv0, .int .i64 1])) f) := ⟨pv0, 1, rfl, PSrc.zero _, ⟨fun ad h => (by cases h), fun ad h => (by cases h)⟩, below_setRow HB3.out (by rw [HGs.out]; omega), .inl ⟨h1, rfl, rfl⟩⟩
  clear h1
  go_wp2_with fail
  clear t6
  refine bodyPost_ret (res2Pn rfl rfl rfl HX0.out) rfl ?_
  exact HE.out
 have HFo := hide h1
 clear h1
 obtain ⟨c0, -⟩ := HX3.out.cs
 go_wp2_with fail
 clear c0
 refine (dots_any f.ao f.an f.ac f.es _ HF3.out.es).mono ?_
 rintro e w4 ⟨b4, ⟨hc, p, rfl, S4, n4, C4⟩ | ⟨hc, -⟩⟩
 rotate_left
 ·exact absurd ((chk_okN HF3.out.es.1).2 HFo.out.1) hc
 obtain ⟨g5, hg5⟩ : ∃ g, w4.heap.size = g := ⟨_, rfl⟩
 have b5 := below_new w4 (.cells #[.slice none 0 0, .slice none 0 0] 26)
 have x5 : PBox (w4.alloc (.cells #[.slice none 0 0, .slice none 0 0] 26)) w4.heap.size pv0 := pbox_new w4 pv0
 have z5 : (w4.alloc (.cells #[.slice none 0 0, .slice none 0 0] 26)).heap.size = w4.heap.size + 1 := by simp
 obtain ⟨w5, hw5⟩ : ∃ w5, w4.alloc (.cells #[.slice none 0 0, .slice none 0 0] 26) = w5 := ⟨_, rfl⟩
 rw [hw5] at b5 x5 z5
 rw [hg5] at x5 z5
 have s5 := run_stP (p' := p) x5
 have B6 : Below w4.heap.size w4 (w5.setRow g5 (PC p)) := below_setRow b5 (by omega)
 have X6 : PBox (w5.setRow g5 (PC p)) g5 p := setRow_heap _ _ _ _ _ _ x5
 obtain ⟨w6, hw6⟩ : ∃ w6, w5.setRow g5 (PC p) = w6 := ⟨_, rfl⟩
 rw [hw6] at s5 B6 X6
 have b46 := b4.trans (B6.mono b4.size)
 have HB6 := hide (HB3.out.trans (b46.mono HB3.out.size))
 have HX6 := hide (HX3.out.below b46)
 have HZ6 := hide (HZ3.out.below b46)
 have HF6 := hide (HF3.out.below b46)
 have HP6 := hide (S4.below B6)
 have HQ6 := hide X6
 have HC6 := hide C4
 have lp := run_ldP X6.at
 have lq := run_ldP HX6.out.past
 have hPR := prow2 w6 p f.p HP6.out HF6.out.p
 have b7 := below_new w6 (.cells #[.slice p.vo p.vn p.vc, .slice p.co p.cn p.cc, .slice f.p.vo f.p.vn f.p.vc, .slice f.p.co f.p.cn f.p.cc] 26)
 have lb := run_bsPs p f.p w6
 obtain ⟨g7, hg7⟩ : ∃ g7, w6.heap.size = g7 := ⟨_, rfl⟩
 obtain ⟨w7, hw7⟩ : ∃ w7, w6.alloc (.cells #[.slice p.vo p.vn p.vc, .slice p.co p.cn p.cc, .slice f.p.vo f.p.vn f.p.vc, .slice f.p.co f.p.cn f.p.cc] 26) = w7 := ⟨_, rfl⟩
 rw [hw7] at hPR b7 lb
 rw [hg7] at hPR lb
 have HPR := hide hPR
 have HB7 := hide (HB6.out.trans (b7.mono HB6.out.size))
 have HZ7 := hide (HZ6.out.below b7)
 clear hPR b7 hc S4 n4 C4 b4 b5 x5 B6 X6 b46 hw6
 go_wp2_with fail
 clear lp lq lb s5 hw5 hg5 hg7 hw7 z5
 refine (pastJoin_any (some ⟨g7, 0, none⟩) 2 2 [p, f.p] _ HPR.out (bsP2_wt (canon_iff.1 HC6.out.canon) HFo.out.2.1) (by decide)).mono ?_
 rintro e w8 ⟨q, rfl, S8, n8, b8, C8⟩
 have hz : G + 1 + 1 ≤ w7.heap.size := by have := HZ7.out.lt; omega
 obtain ⟨s1, e1, e2, e3, e4⟩ := past_end (w := w) (HZ7.out.below b8) S8 (n8.mono hz) (HB7.out.trans (b8.mono HB7.out.size)) (by rw [HGs.out]; omega)
 have HE1 := hide e1
 have HE : Hid (PsA w (w8.setRow (G + 1) (PC q)) (.returned (.tuple #[PV q, .int .i64 0])) f) := ⟨q, 0, rfl, e2, e3, e4, .inr ⟨HFo.out, rfl, canon_iff.1 C8.canon, fun r hr n => by
  rw [canon_mem C8 r hr n]
  show mem (runsAt p.P r ++ (runsAt f.p.P r ++ [])) n ↔ _
  rw [List.append_nil, mem_append, canon_mem HC6.out r hr n]
  exact Iff.rfl⟩⟩
 clear S8 n8 b8 C8 e1 e2 e3 e4 hz
 go_wp2_with fail
 clear s1
 refine bodyPost_ret (res2Pn rfl rfl rfl HE1.out) rfl ?_
 exact HE.out
end Go.Proofs.YtehcehhfdhiomaaGreat
namespace Go.Proofs.YtehcehhfdhiomaaGreat
open Go.RowKit Go.Maps Go.Sort
attribute [local go_sem ↓] ldP_eq stP_eq ldRe_eq stRe_eq
attribute [local go_sem] cells_ReV ReC_size zero_ReC
theorem nodup_len {α : Type} [DecidableEq α] : ∀ (l m : List α), l.Nodup → (∀ x ∈ l, x ∈ m) → l.length ≤ m.length
 | [], _, _, _ => Nat.zero_le _
 | x :: l, m, hn, hs => by
  have h1 := List.nodup_cons.1 hn
  have hx := hs x List.mem_cons_self
  have h2 := nodup_len l (m.erase x) h1.2 (fun y hy => (List.mem_erase_of_ne (fun e => h1.1 (by rw [← e]; exact hy))).2 (hs y (List.mem_cons_of_mem _ hy)))
  rw [List.length_erase_of_mem hx] at h2
  have := List.length_pos_of_mem hx
  simp only [List.length_cons]
  omega
theorem cb_self : ∀ a : List UInt8, Lib.compareBytes a a = 0
 | [] => by simp [Lib.compareBytes]
 | a :: x => by
  have h0 : ¬ a < a := UInt8.lt_irrefl a
  simpa [Lib.compareBytes, h0] using cb_self x
theorem fold_len {R F : List Rc} (h : FoldOf R F) : F.length ≤ R.length := by
 have h1 := nodup_len (F.map (fun x => x.s.data.toList)) (R.map (fun x => x.s.data.toList)) (by
  refine List.pairwise_map.2 (h.1.imp fun {a b} hab e => ?_)
  have e2 : a.s = b.s := by cases ha : a.s; cases hb : b.s; rw [ha, hb] at e; simpa using e
  rw [e2] at hab
  exact absurd hab (by unfold cmpS; rw [cb_self]; decide)) (fun x hx => by
  obtain ⟨f, hf, rfl⟩ := List.mem_map.1 hx
  obtain ⟨r, hr, e⟩ := (h.2.1 f hf).1
  exact List.mem_map.2 ⟨r, hr, by rw [e]⟩)
 simpa using h1
theorem clone_gives {w w' : World} {L : List K.En} {n : Nat} {ao : Option Addr} {c : Nat} (hn : L.length = n) (hs : ∀ e ∈ L, e.sku.size ≤ maxLen) (hb : n ≤ 3518437208883) (O : K.OwnE w.heap.size w.heap.size w w' ao c L) : K.ESrc w' ao n c L ∧ ∀ ad, ao = some ad → w.heap.size ≤ ad.block := by
 have h := O.src hs (by omega)
 rw [hn] at h
 exact h
set_option maxRecDepth 100000 in
set_option maxHeartbeats 3200000 in
theorem apply_any (ao bo : Option Addr) (n cap m cap' : Nat) (L : List K.En) (R : List Rc) (w : World) (hS : K.ESrc w ao n cap L) (hR : RcS w bo m cap' R) (hwt : ∀ s, wt (ofS R s) ≤ 8796093022207) (hnm : m * (n + 1) ≤ 8796093022207) :
  Calls Tryz.prog 33 #[.slice ao n cap, .slice bo m cap'] w fun x w' => ApA w w' x L R m := by
 have HS := hide hS
 have HR := hide hR
 have HW := hide hwt
 have HNM := hide hnm
 have HL : Hid (L.length = n ∧ n ≤ 3518437208883) := ⟨hS.1, hS.2.2.2.2⟩
 have hnb := HL.out.2
 have HM : Hid (R.length = m) := hR.len
 clear hS hR hwt hnm
 go_enter Tryz.func33, Tryz.ntmps33
 go_wp2_with fail
 refine (K.lcheck_any ao n cap L _ HS.out).mono ?_
 rintro x w1 ⟨rfl, b1⟩
 have HB1 := hide b1
 have HS1 := hide (HS.out.below b1)
 have HR1 := hide (HR.out.below b1)
 clear b1 HS HR
 rcases K.chk_cases L with hc | hc
 rotate_left
 ·have HE : Hid (ApA w w1 (.returned (.tuple #[.slice none 0 0, .int .i64 1])) L R m) := .inr ⟨fun h => (by rw [hc] at h; cases h.1), _, _, _, rfl, K.ESrc.none _, HB1.out, fun ad h => by cases h⟩
  rw [hc]
  clear hc
  go_wp2_with fail
  go_ret2
  exact HE.out
 ·rw [hc]
  have HC := hide hc
  clear hc
  go_wp2_with fail
  refine (fold_any bo m cap' R _ HR1.out HW.out).mono ?_
  rintro x w2 (⟨hO, ⟨qo, qn, qc⟩, F, rfl, S2, b2, -, hF⟩ | ⟨hO, rfl, b2⟩)
  rotate_left
  ·have HE : Hid (ApA w w2 (.returned (.tuple #[.slice none 0 0, .int .i64 1])) L R m) := .inr ⟨fun h => hO h.2, _, _, _, rfl, K.ESrc.none _, HB1.out.trans (b2.mono HB1.out.size), fun ad h => by cases h⟩
   clear hO b2
   go_wp2_with fail
   go_ret2
   exact HE.out
  ·rw [show HsV ⟨qo, qn, qc⟩ = Value.slice qo qn qc from rfl]
   replace S2 : RcS w2 qo qn qc F := S2
   have HO := hide hO
   have HB2 := hide (HB1.out.trans (b2.mono HB1.out.size))
   have HS2 := hide (HS1.out.below b2)
   have HF := hide hF
   have HFS := hide S2
   have HFl : Hid (F.length = qn) := S2.len
   have hqb := S2.big
   have HFm : Hid (qn ≤ m) := by show _ ≤ _; rw [← HFl.out, ← HM.out]; exact fold_len hF
   clear hO b2 HS1 HB1 HR1 hF S2
   by_cases hq0 : qn = 0
   ·have hqi : ((qn : Int) == 0) = true := by simp [hq0]
    have hF0 : F = [] := List.eq_nil_of_length_eq_zero (HFl.out.trans hq0)
    have HFr : Hid (L.filter (freeB R) = L) := by show _ = _; exact free_nil HC.out (hF0 ▸ HF.out)
    clear hF0
    cases ao with
    | none =>
     have h00 := HS2.out.2.1 rfl
     obtain ⟨rfl, rfl⟩ := h00
     go_wp2_with fail
     refine (K.clone_nil _).mono ?_
     rintro x w3 ⟨rfl, rfl⟩
     have HE : Hid (ApA w w3 (.returned (.tuple #[.slice none 0 0, .int .i64 0])) L R m) := .inl ⟨HC.out, HO.out, none, 0, 0, rfl, by rw [HFr.out]; exact HS2.out, HB2.out, fun ad h => by cases h⟩
     go_wp2_with fail
     go_ret2
     exact HE.out
    | some ad =>
     go_wp2_with fail
     refine (K.clone_any ad n cap L _ HS2.out).mono ?_
     rintro x w3 ⟨a3, c3, rfl, O3⟩
     have h3 := clone_gives HL.out.1 HS2.out.2.2.2.1 HL.out.2 O3
     have HE : Hid (ApA w w3 (.returned (.tuple #[.slice a3 n c3, .int .i64 0])) L R m) := .inl ⟨HC.out, HO.out, a3, n, c3, rfl, by rw [HFr.out]; exact h3.1, HB2.out.trans (O3.below.mono HB2.out.size), fun ad h => Nat.le_trans HB2.out.size (h3.2 ad h)⟩
     clear O3 h3
     go_wp2_with fail
     go_ret2
     exact HE.out
   ·have hqi : ((qn : Int) == 0) = false := by simp [hq0]
    have HSK : Hid (∀ e ∈ L, ¬ e.sku.size = 0) := fun e he => ce_sku (chk_ce HC.out e he)
    go_wp2_with fail
    refine (dotsBy_any ao n cap L _ HS2.out HSK.out).mono ?_
    rintro x w3 ⟨kk, rfl, hM⟩
    obtain ⟨K0, f, M3⟩ := hM
    have HM3 := hide M3
    have HB3 := hide (HB2.out.trans (M3.below.mono HB2.out.size))
    have HS3 := hide (HS2.out.below M3.below)
    have HF3 := hide (HFS.out.below M3.below)
    obtain ⟨b, Hb⟩ : ∃ b, Hid (w2.heap.size = b) := ⟨_, rfl⟩
    rw [Hb.out]
    clear M3 HS2 HFS HB2
    go_wp2_with fail
    go_loopw [10, 35] (fun v i wr => ∃ (k : Nat) (x : Hs), k ≤ qn ∧ v = .slice x.o x.n x.c ∧ i = .int .i64 (k : Int) ∧ Hid (∃ X : List Pv, OwnP w3.heap.size w3 wr x X ∧ (∀ p ∈ X, FarH x p) ∧ BX L (F.take k) X ∧ x.n = k)) (fun _ i _ => qn - (intOf i).toNat)
    case atStart => exact ⟨0, hs0, Nat.zero_le _, rfl, rfl, ⟨[], OwnP.nil w3, fun p h => (by cases h), BX.nil L, rfl⟩⟩
    case round =>
     obtain ⟨k, x, hk, rfl, rfl, HX⟩ := hrel
     rename World => wr
     by_cases hlt : k < qn
     ·have hlti : (k : Int) < (qn : Int) := by omega
      obtain ⟨X, O, hFar, hBX, hxn⟩ := HX.out
      obtain ⟨ad, hao, A0⟩ := (HF3.out.below O.below).at k hlt
      have hOk := (HF3.out.below O.below).okAt k hlt
      have HT := hide (take_snocF F k (by rw [HFl.out]; exact hlt))
      obtain ⟨r, Hr⟩ : ∃ r, Hid (F.getD k rc0 = r) := ⟨_, rfl⟩
      rw [Hr.out] at A0 hOk HT
      have hsk := hOk.2
      have hld := run_laRe A0
      obtain ⟨g7, hg7⟩ : ∃ g7, wr.heap.size = g7 := ⟨_, rfl⟩
      obtain ⟨w7, hst, X7, B7, S7⟩ := madeRe wr (mkR r) g7 hg7
      have O7 := (O.later B7).later (below_drew1 w7)
      have M7 := ((HM3.out.later O.below).later B7).later (below_drew1 w7)
      have l0 : (Instr.lookup 95 (.map (some b)) (.string r.s) false).run Tryz.prog w7.drew = .ok (.slice (f r.s).o (f r.s).n (f r.s).c) w7.drew := by
       have := M7.look keyS Tryz.underlying9 Tryz.underlying95 (zeroDs _) r.s hsk
       rwa [Hb.out] at this
      have hdl := M7.len r.s
      have hdb := dotsS_len L r.s
      have HD7 : Hid (RSrc w7.drew (f r.s).o (f r.s).n (f r.s).c (dotsS L r.s)) := by
       have h := M7.rows r.s
       have e : (HsV (f r.s)) = .slice (f r.s).o (dotsS L r.s).length (f r.s).c := by show Value.slice _ _ _ = _; rw [hdl]
       rw [e, hdl] at h
       have := (OwnD.src (B0 := w2.heap.size) ⟨h, M7.below, M7.hb.2.2, by omega⟩ (by have := HL.out; omega)).1
       show RSrc _ _ _ _ _
       rw [hdl]
       exact this
      have HSt : Hid (∀ W : World, W.heap[g7]? = w7.heap[g7]? → W.cell? ⟨g7, 0, none⟩ = some (.string r.s) ∧ (ldP (.pointer (some ⟨g7, 1, none⟩))).run Tryz.prog W = .ok (.agg #[.slice r.p.vo r.p.vn r.p.vc, .slice r.p.co r.p.cn r.p.cc]) W) := fun W h => by
       have X : ReBox W g7 (mkR r) := h.trans X7
       exact ⟨X.sk, run_ldP X.past⟩
      have Hg7 : Hid (g7 < w7.heap.size) := by show _ < _; omega
      have Hlt := hide hlt
      have HO7 := hide O7
      have HFa := hide hFar
      have HBX := hide hBX
      have Hxn : Hid (x.n = k ∧ k ≤ 2199023255552) := ⟨hxn, by omega⟩
      have HP7 : Hid (PSrc w7.drew r.p) := ((hOk.1.below B7).below (below_drew1 w7))
      have HGX : Hid (∀ j, (HsV x).ownBlock = some j → j < g7) := fun j hj => by have := (O.own.lt j hj).2; omega
      subst hao
      clear A0 X7 B7 S7 M7 O7 O hFar hBX hlt hk hOk hdl hdb hxn HX
      go_upto_region 14 with fail
      clear hst hld
      refine wp_region_held_drew (S := fun W => W.cell? ⟨g7, 0, none⟩ = some (.string r.s) ∧ (ldP (.pointer (some ⟨g7, 1, none⟩))).run Tryz.prog W = .ok (.agg #[.slice r.p.vo r.p.vn r.p.vc, .slice r.p.co r.p.cn r.p.cc]) W) (by kernel_rfl) (HSt.out _ rfl) (fun hHeld => ?_)
      refine wTk 0 ⟨some 39, .move (.tmp 10), 60, "bars.go:44", #[], none⟩ rfl ?_
      refine wTk 1 ⟨some 40, .move (.tmp 9), 95, "bars.go:44", #[], none⟩ rfl ?_
      refine wTk 2 ⟨some 41, .fieldAddr 76 (.tmp 12) 0, 0, "bars.go:44", #[], none⟩ rfl ?_
      refine wTk 3 ⟨some 42, .load 9 (.tmp 41), 9, "bars.go:44", #[⟨2, .data⟩], none⟩ rfl ?_
      refine wTk 6 ⟨some 45, .fieldAddr 76 (.tmp 12) 1, 0, "bars.go:44", #[], none⟩ rfl ?_
      refine wTk 7 ⟨some 46, .load 26 (.tmp 45), 26, "bars.go:44", #[⟨6, .data⟩], none⟩ rfl ?_
      refine wpAnyH_ready (rs := [4]) (by kernel_rfl) (by simp) (.cons rfl (fun K hK => ?_) .nil)
      go_simp
      refine hK.out _ _ (HSt.out _ rfl) (fun hHeld => ?_)
      clear hK K
      refine wpAnyH_ready (rs := [5]) (by kernel_rfl) (by simp) (.cons rfl (fun K hK => ?_) .nil)
      go_simp
      go_wp2_with fail
      refine (pastOfN_any (f r.s).o (f r.s).n (f r.s).c (dotsS L r.s) _ HD7.out).mono ?_
      rintro e w8 ⟨pd, rfl, Sd, -, b8, Cd⟩
      have HO8 := hide (HO7.out.later b8)
      have HP8 := hide (HP7.out.below b8)
      have z8 : w8.heap[g7]? = w7.heap[g7]? := b8.block g7 Hg7.out
      have HZ8 := hide z8
      have HG8 : Hid (g7 < w8.heap.size) := Nat.lt_of_lt_of_le Hg7.out b8.size
      have HSd := hide Sd
      have HCd := hide Cd
      refine hK.out _ _ (HSt.out _ z8) (fun hHeld => ?_)
      clear hK K
      clear b8 z8 Sd Cd HO7 HP7 l0
      refine wpAnyH_ready (rs := [8]) (by kernel_rfl) (by simp) (.cons rfl (fun K hK => ?_) .nil)
      go_simp
      go_wp2_with fail
      refine (pastMeet_any pd r.p _ HSd.out HP8.out).mono ?_
      rintro e w9 ⟨pm, rfl, Sm, Nm, b9, Cm⟩
      have HO9 := hide (HO8.out.later b9)
      have z9 : w9.heap[g7]? = w7.heap[g7]? := (b9.block g7 HG8.out).trans HZ8.out
      have HZ9 := hide z9
      have HG9 : Hid (g7 < w9.heap.size) := Nat.lt_of_lt_of_le HG8.out b9.size
      have HSm := hide Sm
      have HFm2 : Hid (FarH x pm) := fun j hj => PFar.new Nm (by have := HGX.out j hj; have := HG8.out; omega)
      have HBm : Hid (BX L (F.take (k + 1)) (X ++ [pm])) := by show BX _ _ _; rw [HT.out]; exact HBX.out.snoc HCd.out Cm
      refine hK.out _ _ (HSt.out _ z9) (fun hHeld => ?_)
      clear hK K
      clear b9 z9 Sm Nm Cm HO8 HP8
      obtain ⟨ga, ca, wa, haa, Oa, Fa, ka⟩ := HO9.out.app HFa.out pm HSm.out HFm2.out (by have := Hxn.out; omega)
      have HAA : Hid ((Builtin.append_ #[60, 60] 60 #[.slice x.o x.n x.c, .slice (some ⟨w9.heap.size, 0, none⟩) 1 1]).run Tryz.prog (w9.alloc (.cells #[.slice pm.vo pm.vn pm.vc, .slice pm.co pm.cn pm.cc] 26)) = .ok (.slice (some ⟨ga, 0, none⟩) (x.n + 1) ca) wa) := haa
      have zA : (w9.alloc (.cells #[.slice pm.vo pm.vn pm.vc, .slice pm.co pm.cn pm.cc] 26)).heap[g7]? = w7.heap[g7]? := (Below.heap_alloc w9 _ g7 HG9.out).trans HZ9.out
      have za : wa.heap[g7]? = w7.heap[g7]? := (ka g7 HG9.out (fun e => by have := HGX.out g7 e; omega)).trans HZ9.out
      have HOa : Hid (∃ X : List Pv, OwnP w3.heap.size w3 wa ⟨some ⟨ga, 0, none⟩, x.n + 1, ca⟩ X ∧ (∀ p ∈ X, FarH ⟨some ⟨ga, 0, none⟩, x.n + 1, ca⟩ p) ∧ BX L (F.take (k + 1)) X ∧ x.n + 1 = k + 1) := ⟨_, Oa, Fa, HBm.out, by rw [Hxn.out.1]⟩
      clear haa Oa Fa ka
      refine wpAnyH_ready (rs := [9]) (by kernel_rfl) (by simp) (.cons rfl (fun K hK => ?_) .nil)
      go_simp
      refine hK.out _ _ (HSt.out _ zA) (fun hHeld => ?_)
      clear hK K
      refine wpAnyH_ready (rs := [10]) (by kernel_rfl) (by simp) (.cons rfl (fun K hK => ?_) .nil)
      refine step_appM (by rfl) (.tmp 39) (.tmp 48) (by rfl) (by rfl) (by rfl) HAA.out ?_
      refine hK.out _ _ (HSt.out _ za) (fun hHeld => ?_)
      clear hK K
      refine wTk 11 ⟨some 10, .assign (.tmp 49), 60, "bars.go:44", #[⟨10, .data⟩, ⟨10, .chain⟩, ⟨0, .phase⟩, ⟨1, .phase⟩, ⟨2, .phase⟩, ⟨3, .phase⟩, ⟨4, .phase⟩, ⟨5, .phase⟩, ⟨6, .phase⟩, ⟨7, .phase⟩, ⟨8, .phase⟩, ⟨9, .phase⟩, ⟨10, .phase⟩], none⟩ rfl ?_
      refine wpAnyH_done (by kernel_rfl) ?_ _
      clear hHeld
      clear zA za
      go_wp2_with fail
      go_roundw
      case rel => exact ⟨k + 1, ⟨some ⟨ga, 0, none⟩, x.n + 1, ca⟩, Hlt.out, rfl, by simp, HOa⟩
      case measure => simp [intOf]; have := Hlt.out; omega
     ·have hlti : ¬ (k : Int) < (qn : Int) := by omega
      obtain ⟨X, O, -, hBX, hxn⟩ := HX.out
      have hT : F.take k = F := List.take_of_length_le (by have := HFl.out; omega)
      rw [hT] at hBX
      have HBX := hide hBX
      have HP : Hid (PRow wr x.o x.n X) := O.row
      have HWX : Hid (wt X ≤ 8796093022207) := by
       show _ ≤ _
       have h1 := hBX.2
       rw [HFl.out, HL.out.1] at h1
       have h2 := Nat.mul_le_mul_right (n + 1) HFm.out
       have h3 := HNM.out
       omega
      have hxq : x.n ≤ 8796093022207 := by omega
      have HBr := hide (HB3.out.trans (O.below.mono HB3.out.size))
      have HSr := hide (HS3.out.below O.below)
      clear O hBX hT hxn HX hk hlt
      go_wp2_with fail
      refine (pastJoin_any x.o x.n x.c X _ HP.out HWX.out hxq).mono ?_
      rintro e w8 ⟨pj, rfl, Sj, -, b8, Cj⟩
      have HB8 := hide (HBr.out.trans (b8.mono HBr.out.size))
      have HS8 := hide (HSr.out.below b8)
      have HSj := hide Sj
      have HCj := hide Cj
      clear b8 Sj Cj HBr HSr
      go_wp2_with fail
      refine (outside_any ao n cap L pj _ HS8.out HSj.out).mono ?_
      rintro e w9 (⟨-, -, a9, n9, c9, rfl, S9, b9, N9⟩ | ⟨hno, -⟩)
      rotate_left
      ·exact absurd ⟨HC.out, canon_iff.1 HCj.out.canon⟩ hno
      ·have HE : Hid (ApA w w9 (.returned (.tuple #[.slice a9 n9 c9, .int .i64 0])) L R m) := .inl ⟨HC.out, HO.out, a9, n9, c9, rfl, by rw [← free_of HC.out HF.out HBX.out HCj.out]; exact S9, HB8.out.trans (b9.mono HB8.out.size), fun ad h => Nat.le_trans HB8.out.size (N9 ad h)⟩
       clear S9 b9 N9
       go_wp2_with fail
       go_ret2
       exact HE.out
end Go.Proofs.YtehcehhfdhiomaaGreat
namespace Go.Proofs.YtehcehhfdhiomaaGreat
open Go.RowKit
attribute [local go_sem ↓] ldP_eq stP_eq ldFa_eq stFa_eq
attribute [local go_sem] cells_PV PC_size cells_FaV FaC_size
def liveL (f : Fc) : List K.En := (f.es.filter (pkB f.p.P false)).filter (freeB f.rs)
def LvA (w w' : World) (x : Ending) (f : Fc) : Prop := (FormF f ∧ K.GivesEE w w' x (liveL f) 0) ∨ (¬ FormF f ∧ K.GivesEE w w' x [] 1)
theorem chk_filter {L : List K.En} (h : K.chk L = 0) (p : K.En → Bool) : K.chk (L.filter p) = 0 :=
 K.chk_asc (List.Pairwise.filter p (K.chk_asc' h)) (fun e he => chk_ce h e (List.mem_filter.1 he).1)
theorem GivesEE.mono0 {w w0 w' : World} {x : Ending} {L : List K.En} {er : Int} (h : K.GivesEE w w' x L er) (hb : Below w0.heap.size w0 w) : K.GivesEE w0 w' x L er := by
 obtain ⟨ao, n, c, h1, h2, h3, h4⟩ := h
 exact ⟨ao, n, c, h1, h2, hb.trans (h3.mono hb.size), fun ad e => Nat.le_trans hb.size (h4 ad e)⟩
set_option maxRecDepth 100000 in
theorem tLive_any (f : Fc) (w : World) (hF : FcOk w f) (hwt : ∀ s, wt (ofS f.rs s) ≤ 8796093022207) (hnm : f.rn * (f.an + 1) ≤ 8796093022207) :
  Calls Tryz.prog 12 #[FaV (mkF f)] w fun e w' => LvA w w' e f := by
 have HX := hide (FaBox_new w (mkF f))
 have HBK := hide (below_new w (.cells (FaC (mkF f)) 29))
 have HS := hide (hF.below HBK.out)
 have HW := hide (And.intro hwt hnm)
 clear hF hwt hnm
 obtain ⟨wk, hwk⟩ : ∃ wk, w.alloc (.cells (FaC (mkF f)) 29) = wk := ⟨_, rfl⟩
 obtain ⟨G, hG⟩ : ∃ G, w.heap.size = G := ⟨_, rfl⟩
 rw [hwk] at HX HBK HS
 rw [hG] at HX
 obtain ⟨c0, c3⟩ := HX.out.cs
 have lp := run_ldP HX.out.past
 go_enter Tryz.func12, Tryz.ntmps12
 go_wp2_with fail
 clear hwk hG
 refine (outside_any f.ao f.an f.ac f.es f.p _ HS.out.es HS.out.p).mono ?_
 rintro e w1 h1
 rcases h1 with ⟨h1, h2, ao, n, c, rfl, S1, b1, n1⟩ | ⟨h1, ao, n, c, rfl, S1, b1, n1⟩
 rotate_left
 ·have HE : Hid (LvA w w1 (.returned (.tuple #[.slice none 0 0, .int .i64 1])) f) := .inr ⟨fun h => h1 ⟨(chk_okN HS.out.es.1).2 h.1, h.2.1⟩, none, 0, 0, rfl, esrc_nil _, HBK.out.trans (b1.mono HBK.out.size), fun ad e => (by cases e)⟩
  clear h1 S1 b1 n1 c0 c3 lp
  go_wp2_with fail
  go_ret2
  exact HE.out
 have HC : Hid (K.chk f.es = 0 ∧ InForm f.p.P) := ⟨h1, h2⟩
 have HB1 := hide (HBK.out.trans (b1.mono HBK.out.size))
 have HX1 := hide (HX.out.below b1)
 have HS1 := hide (HS.out.below b1)
 have HL1 := hide S1
 have hlen : (f.es.filter (pkB f.p.P false)).length = n := S1.1
 have hle : n ≤ f.an := by rw [← hlen, ← HS.out.es.1]; exact List.length_filter_le _ _
 have HM : Hid (f.rn * (n + 1) ≤ 8796093022207) := Nat.le_trans (Nat.mul_le_mul_left _ (by omega)) HW.out.2
 clear h1 h2 S1 b1 n1 c0 c3 lp hlen hle
 obtain ⟨-, c3⟩ := HX1.out.cs
 go_wp2_with fail
 clear c3
 refine (apply_any ao f.ro n c f.rn f.rc _ f.rs _ HL1.out HS1.out.rs HW.out.1 HM.out).mono ?_
 rintro e w2 h2
 rcases h2 with ⟨-, h2, h3⟩ | ⟨h2, h3⟩
 ·have HE : Hid (LvA w w2 e f) := .inl ⟨⟨(chk_okN HS.out.es.1).1 HC.out.1, HC.out.2, h2⟩, GivesEE.mono0 h3 HB1.out⟩
  obtain ⟨a2, n2, c2, rfl, -, -, -⟩ := h3
  clear h2
  go_wp2_with fail
  go_ret2
  exact HE.out
 ·have HE : Hid (LvA w w2 e f) := .inr ⟨fun h => h2 ⟨chk_filter HC.out.1 _, h.2.2⟩, GivesEE.mono0 h3 HB1.out⟩
  obtain ⟨a2, n2, c2, rfl, -, -, -⟩ := h3
  clear h2
  go_wp2_with fail
  go_ret2
  exact HE.out
end Go.Proofs.YtehcehhfdhiomaaGreat
