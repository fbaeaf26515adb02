/- TLe PVw LView TVf -/
import Derived.Test.YtalpnhfoaohhhaaGreatTk
import Derived.Test.YtalpnhfoaohhhaaGreatTu46
import Derived.Test.YtalpnhfoaohhhaaGreatTu38
import Derived.Test.YtalpnhfoaohhhaaGreatTu41
import Derived.Test.YtalpnhfoaohhhaaGreatTu00
import Derived.ProofKit
import Derived.OpenShut
import Derived.Lib.SmallJoins
import Derived.HandedShaped
import Derived.SizedLaws
import Derived.ChangeMaps5
import Derived.JoinedCond
import Derived.Test.YtalpnhfoaohhhaaGreatTu17
import Derived.Test.YtalpnhfoaohhhaaGreatTu35
namespace Go.Proofs.YtalpnhfoaohhhaaGreat
open Go.RowKit
def FcL (w w' : World) (e : Ending) (D : Fc → Prop) : Prop := ∃ h, e = .returned (FaV (mkF h)) ∧ FcOk w' h ∧ FcR h ∧ FcN w.heap.size h ∧ Below w.heap.size w w' ∧ D h
def LeOf (f g h : Fc) : Prop := h.es = f.es.filter (notIn g.es) ∧ (∃ C : Nat → List Rn, (∀ r, r < 16 → MinusOf (runsAt f.p.P r) (runsAt g.p.P r) (C r)) ∧ CanonOf C h.p.P) ∧ LrOf f.rs g.rs h.rs ∧ h.rn ≤ f.rn
def WiOf (f g : Fc) : Prop := (∀ x ∈ f.es, x ∈ g.es) ∧ (∀ r, r < 16 → ∀ n, mem (runsAt f.p.P r) n → mem (runsAt g.p.P r) n) ∧ ∀ y ∈ plR f.rs, y ∈ plR g.rs
theorem LeOf.e0 {w : World} {f g h : Fc} (H : LeOf f g h) (hw : FcOk w h) : h.an = 0 ↔ ∀ x ∈ f.es, x ∈ g.es := by
 rw [← hw.es.1, H.1, List.length_eq_zero_iff, List.filter_eq_nil_iff]
 exact ⟨fun q x hx => Classical.byContradiction fun hn => q x hx (notIn_iff.2 hn), fun q x hx hn => notIn_iff.1 hn (q x hx)⟩
theorem LeOf.r0 {w : World} {f g h : Fc} (H : LeOf f g h) (hw : FcOk w h) : h.rn = 0 ↔ ∀ y ∈ plR f.rs, y ∈ plR g.rs := by
 have hl : (plR h.rs).length = h.rn := by rw [← hw.rs.len]; simp [plR]
 rw [← hl, List.length_eq_zero_iff, List.eq_nil_iff_forall_not_mem]
 exact ⟨fun q y hy => Classical.byContradiction fun hn => q y ((H.2.2.1.2.2 y).2 ⟨hy, hn⟩), fun q y hy => ((H.2.2.1.2.2 y).1 hy).2 (q y ((H.2.2.1.2.2 y).1 hy).1)⟩
theorem LeOf.g0 {f g h : Fc} (H : LeOf f g h) : (∀ r, r < 16 → ∀ n, ¬ mem (runsAt h.p.P r) n) ↔ ∀ r, r < 16 → ∀ n, mem (runsAt f.p.P r) n → mem (runsAt g.p.P r) n := by
 obtain ⟨C, h1, h2⟩ := H.2.1
 constructor
 ·intro q r hr n hn
  exact Classical.byContradiction fun hg => q r hr n ((canon_mem h2 r hr n).2 (((h1 r hr).2 n).2 ⟨hn, hg⟩))
 ·intro q r hr n hn
  have := ((h1 r hr).2 n).1 ((canon_mem h2 r hr n).1 hn)
  exact this.2 (q r hr n this.1)
theorem fcl_give {w W : World} {g : Nat} {m0 : FacV} {f : Fc} (D : Fc → Prop) (hX : FaBox W g m0) (hF : FcOk W f) (hr : FcR f) (hn : FcN (g + 1) f) (hb : Below w.heap.size w W) (hg : w.heap.size ≤ g) (hD : D f) :
  FaBox (W.setRow g (FaC (mkF f))) g (mkF f) ∧ FcL w (W.setRow g (FaC (mkF f))) (.returned (FaV (mkF f))) D :=
 ⟨hX.setRow, f, rfl, hF.off2 hn (fun k hk => setRow_other _ _ _ _ (by omega)), hr, hn.mono (by omega), below_setRow hb hg, hD⟩
attribute [local go_sem ↓] ldP_eq stP_eq ldFa_eq stFa_eq bldF_eq
attribute [local go_sem] cells_PV PC_size cells_FaV FaC_size zero_FaZ run_bldF0 run_bldF12
set_option maxRecDepth 100000 in
set_option maxHeartbeats 3200000 in
theorem tless_any (f g : Fc) (w : World) (hF : FcOk w f) (hG : FcOk w g) (hf : FormF f) (hg : FormF g) (hn : f.rn ≤ 2199023255551) :
  Calls Tryz.prog 47 #[FaV (mkF f), FaV (mkF g)] w fun e w' => FcL w w' e (LeOf f g) := by
 obtain ⟨w2, hw2, HX2, HY2, HB2⟩ := box2F w f g
 have b3 := below_new w2 (.cells (FaC (mkF fz0)) 29)
 have X3 := FaBox_new w2 (mkF fz0)
 have hs2 : w2.heap.size = w.heap.size + 2 := by rw [← hw2]; simp
 obtain ⟨wk, hwk⟩ : ∃ wk, w2.alloc (.cells (FaC (mkF fz0)) 29) = wk := ⟨_, rfl⟩
 rw [hwk] at b3 X3
 rw [hs2] at X3
 obtain ⟨G, hG0⟩ : ∃ G, w.heap.size = G := ⟨_, rfl⟩
 rw [hG0] at X3 HX2 HY2
 have HX := hide (HX2.out.below b3)
 have HY := hide (HY2.out.below b3)
 have HZ := hide X3
 have HBK := hide (HB2.out.trans (b3.mono HB2.out.size))
 have HF := hide (hF.below HBK.out)
 have HG := hide (hG.below HBK.out)
 have HR : Hid (FormF f ∧ FormF g ∧ f.rn ≤ 2199023255551) := ⟨hf, hg, hn⟩
 have HGs : Hid (w.heap.size = G) := hG0
 have HCg := hide ((chk_okN hG.es.1).2 hg.1)
 clear hF hG hf hg hn b3 X3 HX2 HY2 HB2
 have HSt : Hid (∀ W : World, W.heap[G]? = wk.heap[G]? → W.heap[G + 1]? = wk.heap[G + 1]? → (W.cell? ⟨G, 0, none⟩ = some (.slice f.ao f.an f.ac) ∧ W.cell? ⟨G, 3, none⟩ = some (.slice f.ro f.rn f.rc) ∧ (ldP (.pointer (some ⟨G, 1, none⟩))).run Tryz.prog W = .ok (PV f.p) W) ∧ (W.cell? ⟨G + 1, 0, none⟩ = some (.slice g.ao g.an g.ac) ∧ W.cell? ⟨G + 1, 3, none⟩ = some (.slice g.ro g.rn g.rc) ∧ (ldP (.pointer (some ⟨G + 1, 1, none⟩))).run Tryz.prog W = .ok (PV g.p) W)) := fun W h1 h2 => by
  have X : FaBox W G (mkF f) := h1.trans HX.out
  have Y : FaBox W (G + 1) (mkF g) := h2.trans HY.out
  exact ⟨⟨X.cs.1, X.cs.2, run_ldP X.past⟩, Y.cs.1, Y.cs.2, run_ldP Y.past⟩
 go_enter Tryz.func47, Tryz.ntmps47
 go_upto_region 1 with fail
 clear hw2 hwk hs2 hG0
 refine wp_region_held_drew (S := fun v => (v.cell? ⟨G, 0, none⟩ = some (.slice f.ao f.an f.ac) ∧ v.cell? ⟨G, 3, none⟩ = some (.slice f.ro f.rn f.rc) ∧ (ldP (.pointer (some ⟨G, 1, none⟩))).run Tryz.prog v = .ok (PV f.p) v) ∧ (v.cell? ⟨G + 1, 0, none⟩ = some (.slice g.ao g.an g.ac) ∧ v.cell? ⟨G + 1, 3, none⟩ = some (.slice g.ro g.rn g.rc) ∧ (ldP (.pointer (some ⟨G + 1, 1, none⟩))).run Tryz.prog v = .ok (PV g.p) v)) (by kernel_rfl) (HSt.out _ rfl rfl) (fun hHeld => ?_)
 refine wTk 0 ⟨some 5, .fieldAddr 29 (.tmp 2) 0, 0, "order.go:52", #[], none⟩ rfl ?_
 refine wTk 1 ⟨some 6, .load 22 (.tmp 5), 22, "order.go:52", #[⟨0, .data⟩], none⟩ rfl ?_
 refine wTk 2 ⟨some 7, .fieldAddr 29 (.tmp 3) 0, 0, "order.go:52", #[], none⟩ rfl ?_
 refine wTk 3 ⟨some 8, .load 22 (.tmp 7), 22, "order.go:52", #[⟨2, .data⟩], none⟩ rfl ?_
 refine wTk 5 ⟨some 10, .fieldAddr 29 (.tmp 2) 1, 0, "order.go:52", #[], none⟩ rfl ?_
 refine wTk 6 ⟨some 11, .load 26 (.tmp 10), 26, "order.go:52", #[⟨5, .data⟩], none⟩ rfl ?_
 refine wTk 7 ⟨some 12, .fieldAddr 29 (.tmp 3) 1, 0, "order.go:52", #[], none⟩ rfl ?_
 refine wTk 8 ⟨some 13, .load 26 (.tmp 12), 26, "order.go:52", #[⟨7, .data⟩], none⟩ rfl ?_
 refine wTk 10 ⟨some 15, .fieldAddr 29 (.tmp 2) 2, 0, "order.go:52", #[], none⟩ rfl ?_
 refine wTk 11 ⟨some 16, .load 27 (.tmp 15), 27, "order.go:52", #[⟨10, .data⟩], none⟩ rfl ?_
 refine wTk 12 ⟨some 17, .fieldAddr 29 (.tmp 3) 2, 0, "order.go:52", #[], none⟩ rfl ?_
 refine wTk 13 ⟨some 18, .load 27 (.tmp 17), 27, "order.go:52", #[⟨12, .data⟩], none⟩ rfl ?_
 refine wpAnyH_ready (rs := [4]) (by kernel_rfl) (by simp) (.cons rfl (fun K hK => ?_) .nil)
 go_simp
 go_wp2_with fail
 have bd := below_drew1 wk
 refine (lessAdds_any f.ao g.ao f.an f.ac g.an g.ac f.es g.es _ (HF.out.es.below bd) (HG.out.es.below bd) HCg.out).mono ?_
 rintro x wa ⟨ao, n, c, rfl, S4, b4, n4⟩
 have ba := bd.trans (b4.mono bd.size)
 have HBa := hide (HBK.out.trans (ba.mono HBK.out.size))
 have HFa := hide (HF.out.below ba)
 have HGa := hide (HG.out.below ba)
 have HZa := hide (HZ.out.below ba)
 have HSa := hide (HSt.out _ (ba.block G HX.out.lt) (ba.block (G + 1) HY.out.lt))
 have HEa := hide S4
 have HNa : Hid (∀ ad, ao = some ad → G + 3 ≤ ad.block) := fun ad e => by
  have h1 := n4 ad e
  have h2 := bd.size
  have h3 := HZ.out.lt
  omega
 refine hK.out _ _ HSa.out (fun hHeld => ?_)
 clear hK K S4 b4 n4
 refine wpAnyH_ready (rs := [9]) (by kernel_rfl) (by simp) (.cons rfl (fun K hK => ?_) .nil)
 go_simp
 go_wp2_with fail
 refine (pastMinus_any f.p g.p _ HFa.out.p HGa.out.p).mono ?_
 rintro x wb ⟨p, rfl, S5, n5, b5, c5⟩
 have bb := ba.trans (b5.mono ba.size)
 have HBb := hide (HBK.out.trans (bb.mono HBK.out.size))
 have HFb := hide (HF.out.below bb)
 have HGb := hide (HG.out.below bb)
 have HZb := hide (HZ.out.below bb)
 have HSb := hide (HSt.out _ (bb.block G HX.out.lt) (bb.block (G + 1) HY.out.lt))
 have HEb := hide (HEa.out.below b5)
 have HPb := hide S5
 have HNb : Hid (PNew (G + 3) p) := n5.mono (by have := HZa.out.lt; omega)
 have HCb := hide c5
 refine hK.out _ _ HSb.out (fun hHeld => ?_)
 clear hK K S5 b5 n5 c5
 refine wpAnyH_ready (rs := [14]) (by kernel_rfl) (by simp) (.cons rfl (fun K hK => ?_) .nil)
 go_simp
 go_wp2_with fail
 refine (lessRecs_any f.ro g.ro f.rn f.rc g.rn g.rc f.rs g.rs _ HFb.out.rs HGb.out.rs HR.out.1.2.2 HR.out.2.1.2.2 HR.out.2.2).mono ?_
 rintro x wc ⟨h5, F5, rfl, G5, m5, U5⟩
 have b6 := G5.below
 have bc := bb.trans (b6.mono bb.size)
 have HBc := hide (HBK.out.trans (bc.mono HBK.out.size))
 have HZc := hide (HZ.out.below bc)
 have HSc := hide (HSt.out _ (bc.block G HX.out.lt) (bc.block (G + 1) HY.out.lt))
 have hz : G + 3 ≤ wb.heap.size := by have := HZb.out.lt; omega
 have HEc := hide (HEb.out.below b6)
 have HPc := hide (HPb.out.below b6)
 have HRc : Hid (RcT wc h5.o h5.n h5.c F5 ∧ (∀ ad, h5.o = some ad → G + 3 ≤ ad.block) ∧ (∀ r ∈ F5, PNew (G + 3) r.p)) := ⟨G5.row, fun ad e => Nat.le_trans hz (G5.new ad e), fun r hr => (G5.fresh r hr).mono hz⟩
 have HUc := hide (And.intro U5 m5)
 obtain ⟨ho, hn, hc⟩ := h5
 rw [show HsV ⟨ho, hn, hc⟩ = Value.slice ho hn hc from rfl]
 have HFc : Hid (FcOk wc ⟨ao, n, c, f.es.filter (notIn g.es), p, ho, hn, hc, F5⟩) := ⟨HEc.out, HPc.out, HRc.out.1.src⟩
 have HFn : Hid (FcN (G + 2 + 1) ⟨ao, n, c, f.es.filter (notIn g.es), p, ho, hn, hc, F5⟩) := ⟨HNa.out, HNb.out, HRc.out.2.1, HRc.out.2.2⟩
 have stz := run_stFa (m' := mkF ⟨ao, n, c, f.es.filter (notIn g.es), p, ho, hn, hc, F5⟩) HZc.out
 have HE := hide (fcl_give (w := w) (f := ⟨ao, n, c, f.es.filter (notIn g.es), p, ho, hn, hc, F5⟩) (LeOf f g) HZc.out HFc.out ⟨HRc.out.1.room, HRc.out.1.nil⟩ HFn.out HBc.out (by rw [HGs.out]; omega) ⟨rfl, HCb.out, HUc.out.1, HUc.out.2⟩)
 replace stz : (stFa (.pointer (some ⟨G + 2, 0, none⟩)) (.agg #[.slice ao n c, .slice p.vo p.vn p.vc, .slice p.co p.cn p.cc, .slice ho hn hc])).run Tryz.prog wc = .ok () (wc.setRow (G + 2) (FaC (mkF ⟨ao, n, c, f.es.filter (notIn g.es), p, ho, hn, hc, F5⟩))) := stz
 have HSz := hide (HSt.out (wc.setRow (G + 2) (FaC (mkF ⟨ao, n, c, f.es.filter (notIn g.es), p, ho, hn, hc, F5⟩))) ((setRow_other _ _ _ _ (by omega)).trans (bc.block G HX.out.lt)) ((setRow_other _ _ _ _ (by omega)).trans (bc.block (G + 1) HY.out.lt)))
 have lbf : ∀ W : World, (bldF #[(0, .slice ao n c), (1, PV p), (2, .slice ho hn hc)]).run Tryz.prog W = .ok (.agg #[.slice ao n c, .slice p.vo p.vn p.vc, .slice p.co p.cn p.cc, .slice ho hn hc]) W := fun W => run_bldF12 ao ho n c hn hc p W
 refine hK.out _ _ HSc.out (fun hHeld => ?_)
 clear hK K G5 m5 U5 b6 bc bb ba bd hz
 refine wTk 15 ⟨some 20, .build 29 #[(0, .tmp 9), (1, .tmp 14), (2, .tmp 19)], 29, "order.go:52", #[⟨4, .data⟩, ⟨9, .data⟩, ⟨14, .data⟩], none⟩ rfl ?_
 refine wpAnyH_ready (rs := [16]) (by kernel_rfl) (by simp) (.cons rfl (fun K hK => ?_) .nil)
 go_simp
 refine hK.out _ _ HSz.out (fun hHeld => ?_)
 clear hK K stz lbf
 refine wpAnyH_done (by kernel_rfl) ?_ _
 clear hHeld
 go_wp2_with fail
 refine bodyPost_ret (res1Fa rfl rfl HE.out.1) rfl ?_
 exact HE.out.2
set_option maxRecDepth 100000 in
theorem twithin_any (f g : Fc) (w : World) (hF : FcOk w f) (hG : FcOk w g) (hf : FormF f) (hg : FormF g) (hn : f.rn ≤ 2199023255551) :
  Calls Tryz.prog 42 #[FaV (mkF f), FaV (mkF g)] w fun e w' => GivesB w w' e (WiOf f g) := by
 obtain ⟨wk, hwk, HX, HY, HBK⟩ := box2F w f g
 have HF := hide (hF.below HBK.out)
 have HG := hide (hG.below HBK.out)
 have HR : Hid (FormF f ∧ FormF g ∧ f.rn ≤ 2199023255551) := ⟨hf, hg, hn⟩
 clear hF hG hf hg hn
 have lf := run_ldFa HX.out
 have lg := run_ldFa HY.out
 go_enter Tryz.func42, Tryz.ntmps42
 go_wp2_with fail
 clear hwk lf lg
 refine (tless_any f g _ HF.out HG.out HR.out.1 HR.out.2.1 HR.out.2.2).mono ?_
 rintro e w1 ⟨h, rfl, F1, R1, -, b1, L1⟩
 obtain ⟨g1, hg1⟩ : ∃ g1, w1.heap.size = g1 := ⟨_, rfl⟩
 obtain ⟨w2, hst, X2, B2, -⟩ := madeFa w1 (mkF h) g1 hg1
 replace hst : (stFa (.pointer (some ⟨g1, 0, none⟩)) (FaV (mkF h))).run Tryz.prog (w1.alloc (.cells (FaC (mkF fz0)) 29)) = .ok () w2 := hst
 have b12 := b1.trans (B2.mono b1.size)
 have HB2 := hide (HBK.out.trans (b12.mono HBK.out.size))
 have HX2 := hide X2
 have HL := hide L1
 have e0 := L1.e0 F1
 have r0 := L1.r0 F1
 have F2 := hide (F1.below B2)
 have HE0 := hide e0
 have HR0 := hide r0
 obtain ⟨c0, c3⟩ := X2.cs
 have lp := run_ldP X2.past
 clear e0 r0 F1 R1 b1 L1 X2 B2 b12
 by_cases h0 : h.an = 0
 rotate_left
 ·have hz : ((h.an : Int) == 0) = false := by simp [h0]
  have hz2 : decide ((h.an : Int) = 0) = false := by simp [h0]
  have HE : Hid (GivesB w w2 (.returned (.bool false)) (WiOf f g)) := ⟨false, rfl, ⟨fun h => (by cases h), fun q => absurd (HE0.out.2 q.1) h0⟩, HB2.out⟩
  go_wp2_with fail
  go_ret
  exact HE.out
 have hz : ((h.an : Int) == 0) = true := by simp [h0]
 have hz2 : decide ((h.an : Int) = 0) = true := by simp [h0]
 have HW1 := hide (HE0.out.1 h0)
 go_wp2_with fail
 clear hst hg1 hz hz2 h0 c0
 refine (pastEmpty_any h.p _ F2.out.p).mono ?_
 rintro e w3 ⟨b, rfl, hb, b3⟩
 have HB3 := hide (HB2.out.trans (b3.mono HB2.out.size))
 have hq := hb.trans HL.out.g0
 have c3 := (HX2.out.below b3).cs.2
 clear hb b3 lp
 cases b with
 | false =>
  have HE : Hid (GivesB w w3 (.returned (.bool false)) (WiOf f g)) := ⟨false, rfl, ⟨fun h => (by cases h), fun q => by have := hq.2 q.2.1; cases this⟩, HB3.out⟩
  clear hq
  go_wp2_with fail
  go_ret
  exact HE.out
 | true =>
  have HW2 := hide (hq.1 rfl)
  clear hq
  by_cases h0 : h.rn = 0
  ·have hz : ((h.rn : Int) == 0) = true := by simp [h0]
   have hz2 : decide ((h.rn : Int) = 0) = true := by simp [h0]
   have HE : Hid (GivesB w w3 (.returned (.bool true)) (WiOf f g)) := ⟨true, rfl, ⟨fun _ => ⟨HW1.out, HW2.out, HR0.out.1 h0⟩, fun _ => rfl⟩, HB3.out⟩
   go_wp2_with fail
   go_ret
   exact HE.out
  ·have hz : ((h.rn : Int) == 0) = false := by simp [h0]
   have hz2 : decide ((h.rn : Int) = 0) = false := by simp [h0]
   have HE : Hid (GivesB w w3 (.returned (.bool false)) (WiOf f g)) := ⟨false, rfl, ⟨fun h => (by cases h), fun q => absurd (HR0.out.2 q.2.2) h0⟩, HB3.out⟩
   go_wp2_with fail
   go_ret
   exact HE.out
def WtD (f g : Fc) (b : Bool) (er : Int) : Prop := (¬ (FormF f ∧ FormF g) ∧ b = false ∧ er = 1) ∨ (FormF f ∧ FormF g ∧ er = 0 ∧ (b = true ↔ WiOf f g))
set_option maxRecDepth 100000 in
theorem tWithin_any (f g : Fc) (w : World) (hF : FcOk w f) (hG : FcOk w g) (hn : f.rn ≤ 2199023255551) :
  Calls Tryz.prog 23 #[FaV (mkF f), FaV (mkF g)] w fun e w' => ∃ b er, e = .returned (.tuple #[.bool b, .int .i64 er]) ∧ WtD f g b er ∧ Below w.heap.size w w' := by
 obtain ⟨wk, hwk, HX, HY, HBK⟩ := box2F w f g
 have HF := hide (hF.below HBK.out)
 have HG := hide (hG.below HBK.out)
 have HN := hide hn
 clear hF hG hn
 have lf := run_ldFa HX.out
 have lg := run_ldFa HY.out
 go_enter Tryz.func23, Tryz.ntmps23
 go_wp2_with fail
 clear hwk lf lg
 refine (checkBoth_any f g _ HF.out HG.out).mono ?_
 rintro e w1 ⟨x, rfl, hx, b1⟩
 have HB1 := hide (HBK.out.trans (b1.mono HBK.out.size))
 have lf := run_ldFa (HX.out.below b1)
 have lg := run_ldFa (HY.out.below b1)
 have HF1 := hide (HF.out.below b1)
 have HG1 := hide (HG.out.below b1)
 clear b1
 rcases hx with ⟨rfl, h1, h2⟩ | ⟨rfl, h1⟩
 rotate_left
 ·have HE : Hid (∃ b er, Ending.returned (.tuple #[.bool false, .int .i64 1]) = .returned (.tuple #[.bool b, .int .i64 er]) ∧ WtD f g b er ∧ Below w.heap.size w w1) := ⟨false, 1, rfl, .inl ⟨h1, rfl, rfl⟩, HB1.out⟩
  clear h1 lf lg
  go_wp2_with fail
  go_ret2
  exact HE.out
 have HFo : Hid (FormF f ∧ FormF g) := ⟨h1, h2⟩
 clear h1 h2
 go_wp2_with fail
 clear lf lg
 refine (twithin_any f g _ HF1.out HG1.out HFo.out.1 HFo.out.2 HN.out).mono ?_
 rintro e w2 ⟨b, rfl, hb, b2⟩
 have HE : Hid (∃ c er, Ending.returned (.tuple #[.bool b, .int .i64 0]) = .returned (.tuple #[.bool c, .int .i64 er]) ∧ WtD f g c er ∧ Below w.heap.size w w2) := ⟨b, 0, rfl, .inr ⟨HFo.out.1, HFo.out.2, rfl, hb⟩, HB1.out.trans (b2.mono HB1.out.size)⟩
 clear hb b2
 go_wp2_with fail
 go_ret2
 exact HE.out
end Go.Proofs.YtalpnhfoaohhhaaGreat
namespace Go.Proofs.YtalpnhfoaohhhaaGreat
open Go.ChangeShapes Go.WideShapes Go.ChangeAt Go.RowKit Go.Joins

theorem own : ownKnob Tryz.prog.godebug = none := by kernel_rfl
theorem laidOut : laidOutB Tryz.prog = true := by kernel_rfl
theorem cellsS : Tryz.prog.cellsOf 99 = 3 := by kernel_rfl
theorem cellsI : Tryz.prog.cellsOf 3 = 1 := by kernel_rfl
theorem cellsP : Tryz.prog.cellsOf 26 = 2 := by kernel_rfl
theorem cellsV : Tryz.prog.cellsOf 23 = 1 := by kernel_rfl
theorem cellsC : Tryz.prog.cellsOf 24 = 1 := by kernel_rfl
theorem bulk_pos {H : Type} (d : DataW H) : 1 ≤ Rows.uptoBulk d := by
 cases d with
 | lit l => cases l <;> simp only [Rows.uptoBulk] <;> omega
 | _ => simp only [Rows.uptoBulk] <;> omega
theorem bulk_len {H : Type} : ∀ (l : List (DataW H)), l.length ≤ Rows.uptoBulkAll l
 | [] => by simp
 | d :: l => by have := bulk_len l; have := bulk_pos d; simp only [Rows.uptoBulkAll, List.length_cons]; omega
theorem list2 {α : Type} {l : List α} (h : l.length = 2) : ∃ a b, l = [a, b] := by
 match l, h with
 | [a, b], _ => exact ⟨a, b, rfl⟩
theorem list3 {α : Type} {l : List α} (h : l.length = 3) : ∃ a b c, l = [a, b, c] := by
 match l, h with
 | [a, b, c], _ => exact ⟨a, b, c, rfl⟩
theorem open_span {H : Type} {enc : TypeId × Value → H} {w : World} {base : Nat} {spare : Nat → Bool} {held : Bool} {fuel : Nat} {cs : List Value} {x : DataW H × List MemPlace}
  (h : DataW.trod enc Tryz.prog w base spare held fuel 99 cs = some x) : ∃ e : Sn, cs = (SC e).toList := by
 obtain ⟨xs, m, _, hx, hcl, hxl, hf⟩ := DataW.trod_struct Tryz.underlying99 h
 obtain ⟨v0, v1, v2, rfl⟩ := list3 (hcl.trans cellsS)
 obtain ⟨y0, y1, y2, rfl⟩ := list3 hxl
 have t0 := hf 0 _ rfl
 have t1 := hf 1 _ rfl
 have t2 := hf 2 _ rfl
 simp [cellsI] at t0 t1 t2
 obtain ⟨r, e0, -, _⟩ := DataW.trod_int Tryz.underlying3 t0
 obtain ⟨n, e1, -, _⟩ := DataW.trod_int Tryz.underlying3 t1
 obtain ⟨m', e2, -, _⟩ := DataW.trod_int Tryz.underlying3 t2
 simp only [List.cons.injEq, and_true] at e0 e1 e2
 subst e0 e1 e2
 exact ⟨⟨r, n, m'⟩, rfl⟩
theorem viewI {H : Type} {enc : TypeId × Value → H} {W : World} {fuel : Nat} {v : Value} {x : DataW H × List MemPlace}
  (h : DataW.trod enc Tryz.prog W 0 (fun _ => true) true fuel 23 [v] = some x) (hw : Rows.uptoBulk x.1 ≤ 1048576) : ∃ (ao : Option Addr) (n cap : Nat) (Z : List Int), v = .slice ao n cap ∧ V.Src W ao n cap Z ∧ n ≤ 1048576 := by
 rcases DataW.trod_slice Tryz.underlying23 h with h0 | ⟨a, len, cap, elems, rest, n, _, hcs, hx, hb, hl, hm, hlen, hel, hsp, hns⟩
 ·have e : v = .slice none 0 0 := by simpa using h0.1
  exact ⟨none, 0, 0, [], e, ⟨rfl, fun _ => ⟨rfl, rfl⟩, fun ad h => (by cases h)⟩, Nat.zero_le _⟩
 ·subst hx
  have e : v = .slice (some a) len cap := by simpa using hcs
  simp only [Rows.uptoBulk] at hw
  have h1 := bulk_len (elems.map (·.1))
  simp only [List.length_map] at h1
  have key : ∀ i, i < len → ∃ z : Int, W.cell? (a.add i) = some (.int .i64 z) := by
   intro i hi
   have he := hel i hi
   obtain ⟨y, hy⟩ : ∃ y, elems[i]? = some y := ⟨_, List.getElem?_eq_getElem (by omega)⟩
   rw [hy, cellsI, Option.bind_eq_some_iff] at he
   obtain ⟨cs', hcs, hy'⟩ := he
   obtain ⟨hl', -, hce⟩ := World.cells?_some hcs
   obtain ⟨z, rfl, -, _⟩ := DataW.trod_int Tryz.underlying3 hy'
   have g0 := hce 0 (by omega)
   rw [add_zero, Nat.mul_one] at g0
   exact ⟨z, g0⟩
  refine ⟨some a, len, cap, (List.range len).map fun i => if h : i < len then Classical.choose (key i h) else 0, e, ⟨by simp, fun h => (by cases h), fun ad h t ht => ?_⟩, by omega⟩
  obtain rfl := Option.some.inj h
  have : ((List.range len).map fun i => if h : i < len then Classical.choose (key i h) else 0).getD t 0 = Classical.choose (key t ht) := by simp [List.getD, ht]
  rw [this]
  exact Classical.choose_spec (key t ht)
theorem viewC {H : Type} {enc : TypeId × Value → H} {W : World} {fuel : Nat} {v : Value} {x : DataW H × List MemPlace}
  (h : DataW.trod enc Tryz.prog W 0 (fun _ => true) true fuel 24 [v] = some x) (hw : Rows.uptoBulk x.1 ≤ 1048576) : ∃ (ao : Option Addr) (n cap : Nat) (L : List Sn), v = .slice ao n cap ∧ SSrc W ao n cap L ∧ n ≤ 1048576 := by
 rcases DataW.trod_slice Tryz.underlying24 h with h0 | ⟨a, len, cap, elems, rest, n, _, hcs, hx, hb, hl, hm, hlen, hel, hsp, hns⟩
 ·have e : v = .slice none 0 0 := by simpa using h0.1
  exact ⟨none, 0, 0, [], e, SSrc.empty _, Nat.zero_le _⟩
 ·subst hx
  have e : v = .slice (some a) len cap := by simpa using hcs
  simp only [Rows.uptoBulk] at hw
  have h1 := bulk_len (elems.map (·.1))
  simp only [List.length_map] at h1
  have key : ∀ i, i < len → ∃ e : Sn, SnAt W (a.add (i * 3)) e := by
   intro i hi
   have he := hel i hi
   obtain ⟨y, hy⟩ : ∃ y, elems[i]? = some y := ⟨_, List.getElem?_eq_getElem (by omega)⟩
   rw [hy, cellsS, Option.bind_eq_some_iff] at he
   obtain ⟨cs', hcs, hy'⟩ := he
   obtain ⟨_, -, hce⟩ := World.cells?_some hcs
   obtain ⟨e, rfl⟩ := open_span hy'
   have g0 := hce 0 (by omega)
   rw [add_zero] at g0
   exact ⟨e, ⟨g0, hce 1 (by omega), hce 2 (by omega)⟩⟩
  refine ⟨some a, len, cap, (List.range len).map fun i => if h : i < len then Classical.choose (key i h) else sn0, e, ⟨by simp, fun h => (by cases h), fun ad h t ht => ?_, by omega, hl⟩, by omega⟩
  obtain rfl := Option.some.inj h
  have : ((List.range len).map fun i => if h : i < len then Classical.choose (key i h) else sn0).getD t sn0 = Classical.choose (key t ht) := by simp [List.getD, ht]
  rw [this]
  exact Classical.choose_spec (key t ht)
theorem viewP {H : Type} {enc : TypeId × Value → H} {W : World} {fuel : Nat} {cs : List Value} {x : DataW H × List MemPlace}
  (h : DataW.trod enc Tryz.prog W 0 (fun _ => true) true fuel 26 cs = some x) (hw : Rows.uptoBulk x.1 ≤ 1048576) : ∃ p : Pv, cs = [.slice p.vo p.vn p.vc, .slice p.co p.cn p.cc] ∧ PSrc W p ∧ p.P.cloud.length ≤ 1048576 := by
 obtain ⟨xs, m, _, hx, hcl, hxl, hf⟩ := DataW.trod_struct Tryz.underlying26 h
 obtain ⟨v0, v1, rfl⟩ := list2 (hcl.trans cellsP)
 obtain ⟨y0, y1, rfl⟩ := list2 hxl
 have t0 := hf 0 _ rfl
 have t1 := hf 1 _ rfl
 simp [cellsV, cellsC] at t0 t1
 subst hx
 simp only [Rows.uptoBulk, List.map_cons, List.map_nil, Rows.uptoBulkAll] at hw
 obtain ⟨a0, l0, c0, Z, rfl, S0, g0⟩ := viewI t0 (by omega)
 obtain ⟨a1, l1, c1, L, rfl, S1, g1⟩ := viewC t1 (by omega)
 exact ⟨⟨a0, l0, c0, a1, l1, c1, ⟨Z, L⟩⟩, rfl, ⟨S0, S1, by show l0 ≤ _; omega⟩, by show L.length ≤ _; rw [S1.len]; exact g1⟩
end Go.Proofs.YtalpnhfoaohhhaaGreat
namespace Go.Proofs.YtalpnhfoaohhhaaGreat.K
open Go.ChangeShapes Go.WideShapes Go.ChangeAt Go.RowKit Go.Joins

theorem cells28 : Tryz.prog.cellsOf 36 = 4 := by kernel_rfl
theorem cells26 : Tryz.prog.cellsOf 32 = 2 := by kernel_rfl
theorem cells3 : Tryz.prog.cellsOf 3 = 1 := by kernel_rfl
theorem cells9 : Tryz.prog.cellsOf 9 = 1 := by kernel_rfl
theorem list2 {α : Type} {l : List α} (h : l.length = 2) : ∃ a b, l = [a, b] := by
 match l, h with
 | [a, b], _ => exact ⟨a, b, rfl⟩
theorem list3 {α : Type} {l : List α} (h : l.length = 3) : ∃ a b c, l = [a, b, c] := by
 match l, h with
 | [a, b, c], _ => exact ⟨a, b, c, rfl⟩
theorem list4 {α : Type} {l : List α} (h : l.length = 4) : ∃ a b c d, l = [a, b, c, d] := by
 match l, h with
 | [a, b, c, d], _ => exact ⟨a, b, c, d, rfl⟩
theorem open_entry {H : Type} {enc : TypeId × Value → H} {w : World} {base : Nat} {spare : Nat → Bool} {held : Bool} {fuel : Nat} {cs : List Value} {x : DataW H × List MemPlace}
  (h : DataW.trod enc Tryz.prog w base spare held fuel 36 cs = some x) : ∃ e : En, cs = (EC e).toList ∧ e.sku.size ≤ maxLen := by
 obtain ⟨xs, m, _, hx, hcl, hxl, hf⟩ := DataW.trod_struct Tryz.underlying36 h
 obtain ⟨v0, v1, v2, v3, rfl⟩ := list4 (hcl.trans cells28)
 obtain ⟨y0, y1, y2, rfl⟩ := list3 hxl
 have t0 := hf 0 _ rfl
 have t1 := hf 1 _ rfl
 have t2 := hf 2 _ rfl
 simp [cells3, cells9, cells26] at t0 t1 t2
 obtain ⟨xs', m', _, hx', hcl', hxl', hf'⟩ := DataW.trod_struct Tryz.underlying32 t0
 obtain ⟨z0, z1, rfl⟩ := list2 hxl'
 have s0 := hf' 0 _ rfl
 have s1 := hf' 1 _ rfl
 simp [cells3] at s0 s1
 obtain ⟨r, e0, -, _⟩ := DataW.trod_int Tryz.underlying3 s0
 obtain ⟨n, e1, -, _⟩ := DataW.trod_int Tryz.underlying3 s1
 obtain ⟨s, e2, -, w2⟩ := DataW.trod_string Tryz.underlying9 t1
 obtain ⟨q, e3, -, _⟩ := DataW.trod_int Tryz.underlying3 t2
 simp only [List.cons.injEq, and_true] at e0 e1 e2 e3
 subst e0 e1 e2 e3
 exact ⟨⟨r, n, s, q⟩, rfl, w2⟩
end Go.Proofs.YtalpnhfoaohhhaaGreat.K
namespace Go.Proofs.YtalpnhfoaohhhaaGreat
open Go.ChangeShapes Go.WideShapes Go.ChangeAt Go.RowKit Go.Joins

def RSmT (L : List Rc) : Prop := L.length ≤ 209715 ∧ ∀ r ∈ L, r.p.P.cloud.length ≤ 1048576
structure FcU (w : World) (f : Fc) : Prop where
 ok : FcOk w f
 row : FcR f
 sm : RSmT f.rs
 an : f.an ≤ 1048576
theorem FcU.rn {w : World} {f : Fc} (h : FcU w f) : f.rn ≤ 209715 := by rw [← h.ok.rs.len]; exact h.sm.1
theorem cellsRe : Tryz.prog.cellsOf 62 = 3 := by kernel_rfl
theorem cellsSk : Tryz.prog.cellsOf 9 = 1 := by kernel_rfl
theorem cellsEs : Tryz.prog.cellsOf 22 = 1 := by kernel_rfl
theorem cellsRs : Tryz.prog.cellsOf 27 = 1 := by kernel_rfl
theorem cellsFa : Tryz.prog.cellsOf 29 = 4 := by kernel_rfl
theorem bulk_at {H : Type} : ∀ (l : List (DataW H)) (d : DataW H), d ∈ l → Rows.uptoBulk d ≤ Rows.uptoBulkAll l
 | e :: l, d, h => by
  simp only [Rows.uptoBulkAll]
  rcases List.mem_cons.1 h with rfl | h
  ·omega
  ·have := bulk_at l d h; omega
theorem bulk_five {H : Type} : ∀ (l : List (DataW H)), (∀ d ∈ l, 5 ≤ Rows.uptoBulk d) → 5 * l.length ≤ Rows.uptoBulkAll l
 | [], _ => by simp
 | d :: l, h => by
  have h1 := bulk_five l (fun e he => h e (List.mem_cons_of_mem _ he))
  have h2 := h d List.mem_cons_self
  simp only [Rows.uptoBulkAll, List.length_cons]; omega
theorem viewEu {H : Type} {enc : TypeId × Value → H} {W : World} {fuel : Nat} {v : Value} {x : DataW H × List MemPlace}
  (h : DataW.trod enc Tryz.prog W 0 (fun _ => true) true fuel 22 [v] = some x) (hw : Rows.uptoBulk x.1 ≤ 1048576) : ∃ (ao : Option Addr) (n cap : Nat) (L : List K.En), v = .slice ao n cap ∧ K.ESrc W ao n cap L ∧ n ≤ 1048576 := by
 rcases DataW.trod_slice Tryz.underlying22 h with h0 | ⟨a, len, cap, elems, rest, n, _, hcs, hx, hb, hl, hm, hlen, hel, hsp, hns⟩
 ·have e : v = .slice none 0 0 := by simpa using h0.1
  exact ⟨none, 0, 0, [], e, ⟨rfl, fun _ => ⟨rfl, rfl⟩, fun ad h => (by cases h), fun e he => (by cases he), Nat.zero_le _⟩, Nat.zero_le _⟩
 ·subst hx
  have e : v = .slice (some a) len cap := by simpa using hcs
  simp only [Rows.uptoBulk] at hw
  have h1 := bulk_len (elems.map (·.1))
  simp only [List.length_map] at h1
  have key : ∀ i, i < len → ∃ e : K.En, K.EnAt W (a.add (i * 4)) e ∧ e.sku.size ≤ maxLen := by
   intro i hi
   have he := hel i hi
   obtain ⟨y, hy⟩ : ∃ y, elems[i]? = some y := ⟨_, List.getElem?_eq_getElem (by omega)⟩
   rw [hy, K.cells28, Option.bind_eq_some_iff] at he
   obtain ⟨cs', hcs, hy'⟩ := he
   obtain ⟨_, -, hce⟩ := World.cells?_some hcs
   obtain ⟨e, rfl, hs⟩ := K.open_entry hy'
   have g0 := hce 0 (by omega)
   rw [add_zero] at g0
   exact ⟨e, ⟨g0, hce 1 (by omega), hce 2 (by omega), hce 3 (by omega)⟩, hs⟩
  refine ⟨some a, len, cap, (List.range len).map fun i => if h : i < len then Classical.choose (key i h) else K.en0, e, ⟨by simp, fun h => (by cases h), fun ad h t ht => ?_, fun e he => ?_, by omega⟩, by omega⟩
  ·obtain rfl := Option.some.inj h
   have : ((List.range len).map fun i => if h : i < len then Classical.choose (key i h) else K.en0).getD t K.en0 = Classical.choose (key t ht) := by simp [List.getD, ht]
   rw [this]
   exact (Classical.choose_spec (key t ht)).1
  ·simp only [List.mem_map, List.mem_range] at he
   obtain ⟨i, hi, rfl⟩ := he
   rw [dif_pos hi]
   exact (Classical.choose_spec (key i hi)).2
theorem past_bulk {H : Type} {enc : TypeId × Value → H} {W : World} {fuel : Nat} {cs : List Value} {x : DataW H × List MemPlace}
  (h : DataW.trod enc Tryz.prog W 0 (fun _ => true) true fuel 26 cs = some x) : 3 ≤ Rows.uptoBulk x.1 := by
 obtain ⟨xs, m, _, hx, hcl, hxl, hf⟩ := DataW.trod_struct Tryz.underlying26 h
 obtain ⟨y0, y1, rfl⟩ := list2 hxl
 subst hx
 have h0 := bulk_pos y0.1
 have h1 := bulk_pos y1.1
 simp only [Rows.uptoBulk, List.map_cons, List.map_nil, Rows.uptoBulkAll]
 omega
theorem open_recordU {H : Type} {enc : TypeId × Value → H} {W : World} {fuel : Nat} {cs : List Value} {x : DataW H × List MemPlace}
  (h : DataW.trod enc Tryz.prog W 0 (fun _ => true) true fuel 62 cs = some x) : 5 ≤ Rows.uptoBulk x.1 ∧ (Rows.uptoBulk x.1 ≤ 1048576 → ∃ r : Rc, cs = (ReC (mkR r)).toList ∧ RcOk W r ∧ r.p.P.cloud.length ≤ 1048576) := by
 obtain ⟨xs, m, _, hx, hcl, hxl, hf⟩ := DataW.trod_struct Tryz.underlying62 h
 obtain ⟨v0, v1, v2, rfl⟩ := list3 (hcl.trans cellsRe)
 obtain ⟨y0, y1, rfl⟩ := list2 hxl
 have t0 := hf 0 _ rfl
 have t1 := hf 1 _ rfl
 simp [cellsP, cellsSk] at t0 t1
 subst hx
 simp only [Rows.uptoBulk, List.map_cons, List.map_nil, Rows.uptoBulkAll]
 have b0 := bulk_pos y0.1
 have b1 := past_bulk t1
 refine ⟨by omega, fun hw => ?_⟩
 obtain ⟨s, e0, -, hs⟩ := DataW.trod_string Tryz.underlying9 t0
 obtain ⟨p, ep, Sp, hl⟩ := viewP t1 (by omega)
 simp only [List.cons.injEq, and_true] at e0 ep
 obtain ⟨rfl, rfl⟩ := ep
 subst e0
 exact ⟨⟨s, p⟩, rfl, ⟨Sp, hs⟩, hl⟩
theorem viewRT {H : Type} {enc : TypeId × Value → H} {W : World} {fuel : Nat} {v : Value} {x : DataW H × List MemPlace}
  (h : DataW.trod enc Tryz.prog W 0 (fun _ => true) true fuel 27 [v] = some x) (hw : Rows.uptoBulk x.1 ≤ 1048576) : ∃ (ao : Option Addr) (n cap : Nat) (L : List Rc), v = .slice ao n cap ∧ RcT W ao n cap L ∧ RSmT L := by
 rcases DataW.trod_slice Tryz.underlying27 h with h0 | ⟨a, len, cap, elems, rest, n, _, hcs, hx, hb, hl, hm, hlen, hel, hsp, hns⟩
 ·have e : v = .slice none 0 0 := by simpa using h0.1
  exact ⟨none, 0, 0, [], e, ⟨RcS.empty _, Nat.le_refl _, fun _ => rfl⟩, Nat.zero_le _, fun r hr => by cases hr⟩
 ·subst hx
  have e : v = .slice (some a) len cap := by simpa using hcs
  simp only [Rows.uptoBulk] at hw
  have op : ∀ i (hi : i < elems.length), i < len ∧ ∃ cs', (5 ≤ Rows.uptoBulk elems[i].1 ∧ (Rows.uptoBulk elems[i].1 ≤ 1048576 → ∃ r : Rc, cs' = (ReC (mkR r)).toList ∧ RcOk W r ∧ r.p.P.cloud.length ≤ 1048576)) ∧ (∀ j, j < 3 → W.cell? ((a.add (i * 3)).add j) = cs'[j]?) := by
   intro i hi
   have hi' : i < len := by omega
   have he := hel i hi'
   rw [List.getElem?_eq_getElem hi, cellsRe, Option.bind_eq_some_iff] at he
   obtain ⟨cs', hcs, hy'⟩ := he
   obtain ⟨_, -, hce⟩ := World.cells?_some hcs
   exact ⟨hi', cs', open_recordU hy', fun j hj => hce j hj⟩
  have h5 := bulk_five (elems.map (·.1)) (fun d hd => by
   obtain ⟨y, hy, rfl⟩ := List.mem_map.1 hd
   obtain ⟨i, hi, rfl⟩ := List.getElem_of_mem hy
   obtain ⟨-, _, h, -⟩ := op i hi
   exact h.1)
  simp only [List.length_map] at h5
  have key : ∀ i, i < len → ∃ r : Rc, ReAt W (a.add (i * 3)) (mkR r) ∧ RcOk W r ∧ r.p.P.cloud.length ≤ 1048576 := by
   intro i hi
   have hi' : i < elems.length := by omega
   obtain ⟨-, cs', h, hce⟩ := op i hi'
   obtain ⟨r, rfl, hr, hl2⟩ := h.2 (by have := bulk_at (elems.map (·.1)) elems[i].1 (List.mem_map_of_mem (f := (·.1)) (List.getElem_mem hi')); omega)
   have g0 := hce 0 (by omega)
   rw [add_zero] at g0
   exact ⟨r, ⟨g0, hce 1 (by omega), hce 2 (by omega)⟩, hr, hl2⟩
  refine ⟨some a, len, cap, (List.range len).map fun i => if h : i < len then Classical.choose (key i h) else rc0, e, ⟨⟨by simp, (fun h => by cases h), fun ad h t ht => ?_, fun r hr => ?_, by omega⟩, hl, fun h => by cases h⟩, by simp; omega, fun r hr => ?_⟩
  ·obtain rfl := Option.some.inj h
   have : ((List.range len).map fun i => if h : i < len then Classical.choose (key i h) else rc0).getD t rc0 = Classical.choose (key t ht) := by simp [List.getD, ht]
   rw [this]
   exact (Classical.choose_spec (key t ht)).1
  ·simp only [List.mem_map, List.mem_range] at hr
   obtain ⟨i, hi, rfl⟩ := hr
   rw [dif_pos hi]
   exact (Classical.choose_spec (key i hi)).2.1
  ·simp only [List.mem_map, List.mem_range] at hr
   obtain ⟨i, hi, rfl⟩ := hr
   rw [dif_pos hi]
   exact (Classical.choose_spec (key i hi)).2.2
theorem open_factsU {H : Type} {enc : TypeId × Value → H} {W : World} {fuel : Nat} {cs : List Value} {x : DataW H × List MemPlace}
  (h : DataW.trod enc Tryz.prog W 0 (fun _ => true) true fuel 29 cs = some x) (hw : Rows.uptoBulk x.1 ≤ 1048576) : ∃ f : Fc, cs = (FaC (mkF f)).toList ∧ FcU W f := by
 obtain ⟨xs, m, _, hx, hcl, hxl, hf⟩ := DataW.trod_struct Tryz.underlying29 h
 obtain ⟨v0, v1, v2, v3, rfl⟩ := K.list4 (hcl.trans cellsFa)
 obtain ⟨y0, y1, y2, rfl⟩ := list3 hxl
 have t0 := hf 0 _ rfl
 have t1 := hf 1 _ rfl
 have t2 := hf 2 _ rfl
 simp [cellsP, cellsEs, cellsRs] at t0 t1 t2
 subst hx
 simp only [Rows.uptoBulk, List.map_cons, List.map_nil, Rows.uptoBulkAll] at hw
 obtain ⟨ro, rn, rc, R, rfl, Sr, r1⟩ := viewRT t2 (by omega)
 obtain ⟨ao, an, ac, A, rfl, Sa, a1⟩ := viewEu t0 (by omega)
 obtain ⟨p, ep, Sp, -⟩ := viewP t1 (by omega)
 simp only [List.cons.injEq, and_true] at ep
 obtain ⟨rfl, rfl⟩ := ep
 exact ⟨⟨ao, an, ac, A, p, ro, rn, rc, R⟩, rfl, ⟨Sa, Sp, Sr.src⟩, ⟨Sr.room, Sr.nil⟩, r1, a1⟩
end Go.Proofs.YtalpnhfoaohhhaaGreat
