/- EJs EIq EHk EIw -/
import Derived.Test.YtmbkmpeongodbaaGreatTk
import Derived.Test.YtmbkmpeongodbaaGreatAj37
import Derived.Test.YtmbkmpeongodbaaGreatAj31
namespace Go.Proofs.YtmbkmpeongodbaaGreat
open Go.RowKit
attribute [local go_sem ↓] ldP_eq stP_eq ldFa_eq stFa_eq ldAc_eq stAc_eq ldLm_eq stLm_eq ldD_eq stD_eq ldRe_eq stRe_eq bldF_eq bldE_eq bldR_eq bsE_eq bsR_eq
attribute [local go_sem] zero_PC cells_PV PC_size cells_FaV FaC_size zero_FaC cells_AcV AcC_size cells_LmV LmC_size cells_RV RC_size zero_RC fold_RC cells_ReV ReC_size run_bldF0 run_bldEd run_bldRp run_bsE run_bsR
set_option maxRecDepth 100000 in
set_option maxHeartbeats 6400000 in
theorem refDec_1 (ao : Option Addr) (n c : Nat) (L : List K.En) (p : Pv) (r ln ct : Int) (s : ByteArray) (q : Int) (a : Pv) (w : World) (hS : K.ESrc w ao n c L) (hP : PSrc w p) (hA : PSrc w a) (hs : s.size ≤ maxLen) (hSn : SeenAll L p.P) (hR : RepOk r) (hLm : LimOk ln ct) (hk : AckOf 1 a.P s q 0) : Calls Tryz.prog 7 #[.slice ao n c, PV p, .int .i64 r, LmV ⟨ln, ct⟩, AcV (mkA 1 s q a)] w fun e w' => DeA w w' e (RuD L p.P r ln ct 1 s q a.P) := by
 obtain ⟨wk, hwk⟩ : ∃ wk, (((w.alloc (.cells (PC p) 26)).alloc (.cells (LmC ⟨ln, ct⟩) 28)).alloc (.cells (AcC (mkA 1 s q a)) 30)).alloc (.cells (FaC (mkF fc0)) 36) = wk := ⟨_, rfl⟩
 obtain ⟨X1, X2, X3, X4, hb, hS', hP', hA'⟩ := dec_pre ao n c L p ln ct 1 s q a w hS hP hA hwk
 obtain ⟨G, hG⟩ : ∃ G, w.heap.size = G := ⟨_, rfl⟩
 rw [hG] at X1 X2 X3 X4
 have HX := hide X1
 have HXl := hide X2
 have HXa := hide X3
 have HXf := hide X4
 have HBK := hide hb
 have HS := hide hS'
 have HP := hide hP'
 have HA := hide hA'
 have HG := hide hG
 have HSs := hide hs
 have HLn : Hid (L.length = n) := hS.1
 clear X1 X2 X3 X4 hb hS' hP' hA' hS hP hA hs
 have HOk := hide ((ok_chk HLn.out).1 hSn.1)
 have HC := hide hSn.1
 have HI := hide hSn.2.1
 have HSn := hide hSn
 clear hSn
 have HR := hide hR
 have HLm := hide hLm
 have HAk := hide hk
 have HGd := hide ((ack_zero hk).2.2.2.1 (by decide))
 have HQ := hide ((ack_zero hk).2.2.2.2 (by decide))
 clear hR hLm hk
 go_enter Tryz.func7, Tryz.ntmps7
 go_wp2_with fail
 clear hwk hG
 have HD0 := hide (below_drew1 wk)
 refine wp_region_held_drew (S := fun v => (ldP (.pointer (some ⟨G, 0, none⟩))).run Tryz.prog v = .ok (PV p) v) (by kernel_rfl) (run_ldP (HX.out.below HD0.out).at) (fun hHeld => ?_)
 refine wTk 0 ⟨some 17, .move (.tmp 0), 22, "ref.go:136", #[], none⟩ rfl ?_
 refine wpAnyH_ready (rs := [1]) (by kernel_rfl) (by simp) (.cons rfl (fun K hK => ?_) .nil)
 go_simp
 go_wp2_with fail
 refine (refEntries8_any ao n c L _ (HS.out.below HD0.out)).mono ?_
 rintro e w1 ⟨rfl, b1⟩
 rw [HOk.out]
 have HB1 := hide (HD0.out.trans (b1.mono HD0.out.size))
 refine hK.out _ _ (run_ldP (HX.out.below HB1.out).at) (fun hHeld => ?_)
 clear hK K b1
 refine wTk 2 ⟨some 19, .unOp .not 4 (.tmp 18), 4, "ref.go:136", #[⟨1, .data⟩], none⟩ rfl ?_
 refine wTk 3 ⟨some 20, .move (.tmp 19), 4, "ref.go:136", #[⟨2, .data⟩, ⟨1, .chain⟩], none⟩ rfl ?_
 refine wTk 4 ⟨some 21, .load 26 (.tmp 6), 26, "ref.go:136", #[⟨3, .guard⟩], some (3, false)⟩ rfl ?_
 refine wpAnyH_ready (rs := [5]) (by kernel_rfl) (by simp) (.cons rfl (fun K hK => ?_) .nil)
 go_simp
 go_wp2_with fail
 refine (refIsNorm_any p _ (HP.out.below HB1.out)).mono ?_
 rintro e w2 ⟨b, rfl, hb, b2⟩
 obtain rfl : b = true := by
  exact hb.out.2 HI.out
 have HB2 := hide (HB1.out.trans (b2.mono HB1.out.size))
 refine hK.out _ _ (run_ldP (HX.out.below HB2.out).at) (fun hHeld => ?_)
 clear hK K hb b2
 refine wTk 6 ⟨some 23, .unOp .not 4 (.tmp 22), 4, "ref.go:136", #[⟨5, .data⟩, ⟨3, .guard⟩], some (3, false)⟩ rfl ?_
 refine wTk 7 ⟨some 24, .pick (.tmp 20) (.const (.bool true)) (.tmp 23), 4, "ref.go:136", #[⟨3, .data⟩, ⟨6, .data⟩], none⟩ rfl ?_
 refine wTk 8 ⟨some 25, .move (.tmp 24), 4, "ref.go:136", #[⟨7, .data⟩, ⟨5, .chain⟩], none⟩ rfl ?_
 refine wTk 9 ⟨some 26, .move (.tmp 0), 22, "ref.go:136", #[⟨8, .guard⟩], some (8, false)⟩ rfl ?_
 refine wTk 11 ⟨some 28, .load 26 (.tmp 6), 26, "ref.go:136", #[⟨8, .guard⟩], some (8, false)⟩ rfl ?_
 refine wpAnyH_ready (rs := [10]) (by kernel_rfl) (by simp) (.cons rfl (fun K hK => ?_) .nil)
 go_simp
 go_wp2_with fail
 refine (refDots8_any ao n c L ⟨#[]⟩ (-1) _ (HS.out.below HB2.out)).mono ?_
 rw [ds_all]
 rintro e w3 ⟨p1, rfl, S3, n3, b3, C3⟩
 have HB3 := hide (HB2.out.trans (b3.mono HB2.out.size))
 have HS3 := hide S3
 have HC3 := hide C3
 refine hK.out _ _ (run_ldP (HX.out.below HB3.out).at) (fun hHeld => ?_)
 clear hK K b3 S3 n3 C3
 refine wpAnyH_ready (rs := [12]) (by kernel_rfl) (by simp) (.cons rfl (fun K hK => ?_) .nil)
 go_simp
 go_wp2_with fail
 refine (refWithin_any p1 p _ HS3.out (HP.out.below HB3.out)).mono ?_
 rintro e w4 ⟨b, rfl, hb, b4⟩
 obtain rfl : b = true := by
  exact hb.2 ((within_seen HC.out HC3.out).2 HSn.out.2.2)
 have HB4 := hide (HB3.out.trans (b4.mono HB3.out.size))
 refine hK.out _ _ (run_ldP (HX.out.below HB4.out).at) (fun hHeld => ?_)
 clear hK K hb b4 HC3 HS3
 refine wTk 13 ⟨some 30, .unOp .not 4 (.tmp 29), 4, "ref.go:136", #[⟨12, .data⟩, ⟨8, .guard⟩], some (8, false)⟩ rfl ?_
 refine wTk 14 ⟨some 31, .pick (.tmp 25) (.const (.bool true)) (.tmp 30), 4, "ref.go:136", #[⟨8, .data⟩, ⟨13, .data⟩], none⟩ rfl ?_
 refine wpAnyH_done (by kernel_rfl) ?_ _
 clear hHeld
 have hr1 : ¬ r < 0 := by have := HR.out.1; omega
 have hr2 : ¬ 16 ≤ r := by have := HR.out.2; omega
 have m1 := (HXl.out.below HB4.out).c0
 have m2 := (HXl.out.below HB4.out).c1
 dsimp only at m1 m2
 have hl1 : ¬ ln < 1 := by have := HLm.out.1; omega
 have hl2 : ¬ 1000 < ln := by have := HLm.out.2.1; omega
 have hl3 : ¬ ct < 1 := by have := HLm.out.2.2.1; omega
 have hl4 : ¬ 1000000000 < ct := by have := HLm.out.2.2.2; omega
 have la := run_ldAc (HXa.out.below HB4.out)
 go_wp2_with fail
 clear la m1 m2 hl1 hl2 hl3 hl4 hr1 hr2
 refine (refActCheck_any 1 s q a _ (HA.out.below HB4.out) HSs.out).mono ?_
 rintro e w5 ⟨z, rfl, hz, b5⟩
 obtain rfl : z = 0 := hz.unique HAk.out
 have HB5 := hide (HB4.out.trans (b5.mono HB4.out.size))
 clear hz b5
 have b6 := below_new w5 (.cells (FaC (mkF fc0)) 36)
 have X6 := FaBox_new w5 (mkF fc0)
 obtain ⟨w6, hw6⟩ : ∃ w6, w5.alloc (.cells (FaC (mkF fc0)) 36) = w6 := ⟨_, rfl⟩
 obtain ⟨g5, hg5⟩ : ∃ g5, w5.heap.size = g5 := ⟨_, rfl⟩
 rw [hw6] at b6 X6
 rw [hg5] at X6
 have HV := hide X6
 have HB6 := hide (HB5.out.trans (b6.mono HB5.out.size))
 have Hg5 : Hid (wk.heap.size ≤ g5 ∧ G + 3 < g5) := ⟨by have := HB5.out.size; omega, by have := (HXf.out.below HB5.out).lt; omega⟩
 clear b6 X6
 obtain ⟨k0, k1, k2⟩ := (HXa.out.below HB6.out).k
 have ll := run_ldLm (HXl.out.below HB6.out)
 have la := run_ldAc (HXa.out.below HB6.out)
 go_wp2_with fail
 clear hw6 hg5 ll la k0 k1 k2
 refine (refLimits_any ao n c L ln ct 1 s q a _ (HS.out.below HB6.out) HC.out HQ.out).mono ?_
 rintro e w7 ⟨z, rfl, hz, b7⟩
 have HB7 := hide (HB6.out.trans (b7.mono HB6.out.size))
 have HV7 := hide (HV.out.below b7)
 clear b7
 rcases hz with ⟨hf, rfl⟩ | ⟨-, hk2, -⟩ | ⟨hf, -, rfl⟩
 ·have HFu := hide hf
  clear hf
  have HXn := hide (HXf.out.below HB7.out)
  have tn : (stFa (.pointer (some ⟨G + 3, 0, none⟩)) (.agg (FaC (mkF fc0)))).run Tryz.prog w7 = .ok () (w7.setRow (G + 3) (FaC (mkF fc0))) := run_stFa (m' := mkF fc0) HXn.out
  have HE := hide (give_facts (w := w) (f := fc0) (er := 12) (RuD L p.P r ln ct 1 s q a.P) HXn.out (fc0_ok _) (fc0_new _) (HBK.out.trans (HB7.out.mono HBK.out.size)) (by have := HG.out; omega) (.inl ⟨rfl, .inl ⟨HFu.out, fc0_no, rfl⟩⟩))
  go_wp2_with fail
  refine bodyPost_ret (res2Fa rfl rfl rfl HE.out.1) rfl ?_
  exact HE.out.2
 ·exact absurd hk2 (by decide)
 ·skip
  have HFu := hide hf
  clear hf
  have lp := run_ldP (HX.out.below HB7.out).at
  have lc := (HXl.out.below HB7.out).c1
  dsimp only at lc
  go_wp2_with fail
  clear lp lc
  refine (refActNext_any p r ct _ (HP.out.below HB7.out)).mono ?_
  rintro e w8 ⟨d, x, rfl, hd, b8⟩
  have HD := hide hd
  obtain ⟨g9, hg9⟩ : ∃ g9, w8.heap.size = g9 := ⟨_, rfl⟩
  obtain ⟨w9, hst9, X9, B9, -⟩ := madeD w8 d g9 hg9
  have HB9 := hide (HB7.out.trans ((b8.trans (B9.mono b8.size)).mono HB7.out.size))
  have HV9 := hide ((HV7.out.below b8).below B9)
  have HXd := hide X9
  have Hg9 : Hid (g5 < g9) := by show g5 < g9; have := (HV7.out.below b8).lt; omega
  clear hd b8 B9 X9
  by_cases hx : x = 0
  rotate_left
  ·have hxb : (x != 0) = true := by simp [hx]
   have HX0 := hide hx
   clear hx
   have HXn := hide (HXf.out.below HB9.out)
   have tn : (stFa (.pointer (some ⟨G + 3, 0, none⟩)) (.agg (FaC (mkF fc0)))).run Tryz.prog w9 = .ok () (w9.setRow (G + 3) (FaC (mkF fc0))) := run_stFa (m' := mkF fc0) HXn.out
   have HE := hide (give_facts (w := w) (f := fc0) (er := x) (RuD L p.P r ln ct 1 s q a.P) HXn.out (fc0_ok _) (fc0_new _) (HBK.out.trans (HB9.out.mono HBK.out.size)) (by have := HG.out; omega) (.inl ⟨rfl, .inr ⟨HFu.out, ⟨d, x, HD.out, .inl ⟨HX0.out, fc0_no, rfl⟩⟩⟩⟩))
   go_wp2_with fail
   refine bodyPost_ret (res2Fa rfl rfl rfl HE.out.1) rfl ?_
   exact HE.out.2
  subst hx
  obtain ⟨k0, k1, k2⟩ := (HXa.out.below HB9.out).k
  go_wp2_with fail
  clear hst9 hg9 k0 k1 k2
  refine (refDots8_any ao n c L s (-1) _ (HS.out.below HB9.out)).mono ?_
  rw [ds_sku HGd.out]
  rintro e wd ⟨pg, rfl, Sd, nd, bd, Cd⟩
  have HBd := hide (HB9.out.trans (bd.mono HB9.out.size))
  obtain ⟨w10, hstp, Xp, chp⟩ := run_stPF pg (HV9.out.below bd)
  have HVp := hide Xp
  have hg5lt : g5 < w9.heap.size := HV9.out.lt
  have HSp := hide (psrc_off Sd (fun ad h => chp.oth _ (by have := nd.1 ad h; omega)) (fun ad h => chp.oth _ (by have := nd.2 ad h; omega)))
  have HNp : Hid (PNew (g5 + 1) pg) := nd.mono (by omega)
  have HCp := hide Cd
  have HBp := hide (chp.low wk.heap.size wk Hg5.out.1 HBd.out)
  have HXk1 : Hid (Box w10 g9 44 d) := (chp.oth g9 (by have := Hg9.out; omega)).trans (HXd.out.below bd)
  clear Sd nd bd Cd Xp chp hg5lt HBd
  have HXd2 : Hid (Box w10 g9 44 d) := HXk1
  obtain ⟨k0, k1, k2⟩ := (HXa.out.below HBp.out).k
  have HSq := HSp
  have hw : IntKind.i64.wrap q = q := by have := HQ.out; exact wrap_few (by omega) (by omega)
  have ld := run_ldD HXd2.out.at
  have hSk := K.lit_esrc w10 [⟨d.lo, d.hi, s, q⟩] #[.int .i64 d.lo, .int .i64 d.hi, .string s, .int .i64 (q)] rfl 46 1 rfl (by simp; exact HSs.out) (by decide)
  have b12 := below_new w10 (.cells #[.int .i64 d.lo, .int .i64 d.hi, .string s, .int .i64 (q)] 46)
  obtain ⟨g12, hg12⟩ : ∃ g12, w10.heap.size = g12 := ⟨_, rfl⟩
  obtain ⟨w12, hw12⟩ : ∃ w12, w10.alloc (.cells #[.int .i64 d.lo, .int .i64 d.hi, .string s, .int .i64 (q)] 46) = w12 := ⟨_, rfl⟩
  rw [hw12] at hSk b12
  rw [hg12] at hSk
  have HB12 := hide (HBp.out.trans (b12.mono HBp.out.size))
  have X12 := HVp.out.below b12
  have c12 : w12.cell? ⟨g5, 0, none⟩ = some (.slice none 0 0) := X12.c0
  have z12 := X12.fz 0
  have HVz : Hid (FaBox (w12.setCell ⟨g5, 0, none⟩ (.slice (some ⟨g12, 0, none⟩) 1 1)) g5 (mkF (fcG (some ⟨g12, 0, none⟩) 1 1 [⟨d.lo, d.hi, s, q⟩] pg))) := X12.set0 (f := fcG none 0 0 [] pg) (some ⟨g12, 0, none⟩) 1 1 [⟨d.lo, d.hi, s, q⟩]
  have ch12 := Ch.set w12 g5 0 (.slice (some ⟨g12, 0, none⟩) 1 1)
  have hl12 : g5 < w10.heap.size := HVp.out.lt
  have HSk := hide (hSk.kept (w2 := w12.setCell ⟨g5, 0, none⟩ (.slice (some ⟨g12, 0, none⟩) 1 1)) (fun ad h => ch12.oth _ (by cases h; show g12 ≠ g5; omega)))
  have HSpz := hide (psrc_off (HSq.out.below b12) (fun ad h => ch12.oth _ (by have := HNp.out.1 ad h; omega)) (fun ad h => ch12.oth _ (by have := HNp.out.2 ad h; omega)))
  have HBz := hide (ch12.low wk.heap.size wk Hg5.out.1 HB12.out)
  have HNz : Hid (FNew (g5 + 1) (fcG (some ⟨g12, 0, none⟩) 1 1 [⟨d.lo, d.hi, s, q⟩] pg)) := ⟨fun ad e => (by cases e; show g5 + 1 ≤ g12; omega), HNp.out, fun ad e => (by cases e), fun c hc => (by cases hc)⟩
  clear hSk b12 X12 ch12 hl12
  have lv := run_ldFa HVz.out
  have HXn := hide (HXf.out.below HBz.out)
  have tn := run_stFa (m' := mkF (fcG (some ⟨g12, 0, none⟩) 1 1 [⟨d.lo, d.hi, s, q⟩] pg)) HXn.out
  have HE := hide (give_facts (w := w) (f := fcG (some ⟨g12, 0, none⟩) 1 1 [⟨d.lo, d.hi, s, q⟩] pg) (er := 0) (RuD L p.P r ln ct 1 s q a.P) HXn.out ⟨HSk.out, HSpz.out, RcS.empty _⟩ (HNz.out.mono (by have := Hg5.out; omega)) (HBK.out.trans (HBz.out.mono HBK.out.size)) (by have := HG.out; omega) (.inl ⟨rfl, .inr ⟨HFu.out, ⟨d, 0, HD.out, .inr ⟨rfl, rfl, rfl, HCp.out, rfl⟩⟩⟩⟩))
  go_wp2_with fail
  refine bodyPost_ret (res2Fa rfl rfl rfl HE.out.1) rfl ?_
  exact HE.out.2
set_option maxRecDepth 100000 in
set_option maxHeartbeats 6400000 in
theorem refDec_2 (ao : Option Addr) (n c : Nat) (L : List K.En) (p : Pv) (r ln ct : Int) (s : ByteArray) (q : Int) (a : Pv) (w : World) (hS : K.ESrc w ao n c L) (hP : PSrc w p) (hA : PSrc w a) (hs : s.size ≤ maxLen) (hSn : SeenAll L p.P) (hR : RepOk r) (hLm : LimOk ln ct) (hk : AckOf 2 a.P s q 0) : Calls Tryz.prog 7 #[.slice ao n c, PV p, .int .i64 r, LmV ⟨ln, ct⟩, AcV (mkA 2 s q a)] w fun e w' => DeA w w' e (RuD L p.P r ln ct 2 s q a.P) := by
 obtain ⟨wk, hwk⟩ : ∃ wk, (((w.alloc (.cells (PC p) 26)).alloc (.cells (LmC ⟨ln, ct⟩) 28)).alloc (.cells (AcC (mkA 2 s q a)) 30)).alloc (.cells (FaC (mkF fc0)) 36) = wk := ⟨_, rfl⟩
 obtain ⟨X1, X2, X3, X4, hb, hS', hP', hA'⟩ := dec_pre ao n c L p ln ct 2 s q a w hS hP hA hwk
 obtain ⟨G, hG⟩ : ∃ G, w.heap.size = G := ⟨_, rfl⟩
 rw [hG] at X1 X2 X3 X4
 have HX := hide X1
 have HXl := hide X2
 have HXa := hide X3
 have HXf := hide X4
 have HBK := hide hb
 have HS := hide hS'
 have HP := hide hP'
 have HA := hide hA'
 have HG := hide hG
 have HSs := hide hs
 have HLn : Hid (L.length = n) := hS.1
 clear X1 X2 X3 X4 hb hS' hP' hA' hS hP hA hs
 have HOk := hide ((ok_chk HLn.out).1 hSn.1)
 have HC := hide hSn.1
 have HI := hide hSn.2.1
 have HSn := hide hSn
 clear hSn
 have HR := hide hR
 have HLm := hide hLm
 have HAk := hide hk
 have HGd := hide ((ack_zero hk).2.2.2.1 (by decide))
 have HQ := hide ((ack_zero hk).2.2.2.2 (by decide))
 clear hR hLm hk
 go_enter Tryz.func7, Tryz.ntmps7
 go_wp2_with fail
 clear hwk hG
 have HD0 := hide (below_drew1 wk)
 refine wp_region_held_drew (S := fun v => (ldP (.pointer (some ⟨G, 0, none⟩))).run Tryz.prog v = .ok (PV p) v) (by kernel_rfl) (run_ldP (HX.out.below HD0.out).at) (fun hHeld => ?_)
 refine wTk 0 ⟨some 17, .move (.tmp 0), 22, "ref.go:136", #[], none⟩ rfl ?_
 refine wpAnyH_ready (rs := [1]) (by kernel_rfl) (by simp) (.cons rfl (fun K hK => ?_) .nil)
 go_simp
 go_wp2_with fail
 refine (refEntries8_any ao n c L _ (HS.out.below HD0.out)).mono ?_
 rintro e w1 ⟨rfl, b1⟩
 rw [HOk.out]
 have HB1 := hide (HD0.out.trans (b1.mono HD0.out.size))
 refine hK.out _ _ (run_ldP (HX.out.below HB1.out).at) (fun hHeld => ?_)
 clear hK K b1
 refine wTk 2 ⟨some 19, .unOp .not 4 (.tmp 18), 4, "ref.go:136", #[⟨1, .data⟩], none⟩ rfl ?_
 refine wTk 3 ⟨some 20, .move (.tmp 19), 4, "ref.go:136", #[⟨2, .data⟩, ⟨1, .chain⟩], none⟩ rfl ?_
 refine wTk 4 ⟨some 21, .load 26 (.tmp 6), 26, "ref.go:136", #[⟨3, .guard⟩], some (3, false)⟩ rfl ?_
 refine wpAnyH_ready (rs := [5]) (by kernel_rfl) (by simp) (.cons rfl (fun K hK => ?_) .nil)
 go_simp
 go_wp2_with fail
 refine (refIsNorm_any p _ (HP.out.below HB1.out)).mono ?_
 rintro e w2 ⟨b, rfl, hb, b2⟩
 obtain rfl : b = true := by
  exact hb.out.2 HI.out
 have HB2 := hide (HB1.out.trans (b2.mono HB1.out.size))
 refine hK.out _ _ (run_ldP (HX.out.below HB2.out).at) (fun hHeld => ?_)
 clear hK K hb b2
 refine wTk 6 ⟨some 23, .unOp .not 4 (.tmp 22), 4, "ref.go:136", #[⟨5, .data⟩, ⟨3, .guard⟩], some (3, false)⟩ rfl ?_
 refine wTk 7 ⟨some 24, .pick (.tmp 20) (.const (.bool true)) (.tmp 23), 4, "ref.go:136", #[⟨3, .data⟩, ⟨6, .data⟩], none⟩ rfl ?_
 refine wTk 8 ⟨some 25, .move (.tmp 24), 4, "ref.go:136", #[⟨7, .data⟩, ⟨5, .chain⟩], none⟩ rfl ?_
 refine wTk 9 ⟨some 26, .move (.tmp 0), 22, "ref.go:136", #[⟨8, .guard⟩], some (8, false)⟩ rfl ?_
 refine wTk 11 ⟨some 28, .load 26 (.tmp 6), 26, "ref.go:136", #[⟨8, .guard⟩], some (8, false)⟩ rfl ?_
 refine wpAnyH_ready (rs := [10]) (by kernel_rfl) (by simp) (.cons rfl (fun K hK => ?_) .nil)
 go_simp
 go_wp2_with fail
 refine (refDots8_any ao n c L ⟨#[]⟩ (-1) _ (HS.out.below HB2.out)).mono ?_
 rw [ds_all]
 rintro e w3 ⟨p1, rfl, S3, n3, b3, C3⟩
 have HB3 := hide (HB2.out.trans (b3.mono HB2.out.size))
 have HS3 := hide S3
 have HC3 := hide C3
 refine hK.out _ _ (run_ldP (HX.out.below HB3.out).at) (fun hHeld => ?_)
 clear hK K b3 S3 n3 C3
 refine wpAnyH_ready (rs := [12]) (by kernel_rfl) (by simp) (.cons rfl (fun K hK => ?_) .nil)
 go_simp
 go_wp2_with fail
 refine (refWithin_any p1 p _ HS3.out (HP.out.below HB3.out)).mono ?_
 rintro e w4 ⟨b, rfl, hb, b4⟩
 obtain rfl : b = true := by
  exact hb.2 ((within_seen HC.out HC3.out).2 HSn.out.2.2)
 have HB4 := hide (HB3.out.trans (b4.mono HB3.out.size))
 refine hK.out _ _ (run_ldP (HX.out.below HB4.out).at) (fun hHeld => ?_)
 clear hK K hb b4 HC3 HS3
 refine wTk 13 ⟨some 30, .unOp .not 4 (.tmp 29), 4, "ref.go:136", #[⟨12, .data⟩, ⟨8, .guard⟩], some (8, false)⟩ rfl ?_
 refine wTk 14 ⟨some 31, .pick (.tmp 25) (.const (.bool true)) (.tmp 30), 4, "ref.go:136", #[⟨8, .data⟩, ⟨13, .data⟩], none⟩ rfl ?_
 refine wpAnyH_done (by kernel_rfl) ?_ _
 clear hHeld
 have hr1 : ¬ r < 0 := by have := HR.out.1; omega
 have hr2 : ¬ 16 ≤ r := by have := HR.out.2; omega
 have m1 := (HXl.out.below HB4.out).c0
 have m2 := (HXl.out.below HB4.out).c1
 dsimp only at m1 m2
 have hl1 : ¬ ln < 1 := by have := HLm.out.1; omega
 have hl2 : ¬ 1000 < ln := by have := HLm.out.2.1; omega
 have hl3 : ¬ ct < 1 := by have := HLm.out.2.2.1; omega
 have hl4 : ¬ 1000000000 < ct := by have := HLm.out.2.2.2; omega
 have la := run_ldAc (HXa.out.below HB4.out)
 go_wp2_with fail
 clear la m1 m2 hl1 hl2 hl3 hl4 hr1 hr2
 refine (refActCheck_any 2 s q a _ (HA.out.below HB4.out) HSs.out).mono ?_
 rintro e w5 ⟨z, rfl, hz, b5⟩
 obtain rfl : z = 0 := hz.unique HAk.out
 have HB5 := hide (HB4.out.trans (b5.mono HB4.out.size))
 clear hz b5
 have b6 := below_new w5 (.cells (FaC (mkF fc0)) 36)
 have X6 := FaBox_new w5 (mkF fc0)
 obtain ⟨w6, hw6⟩ : ∃ w6, w5.alloc (.cells (FaC (mkF fc0)) 36) = w6 := ⟨_, rfl⟩
 obtain ⟨g5, hg5⟩ : ∃ g5, w5.heap.size = g5 := ⟨_, rfl⟩
 rw [hw6] at b6 X6
 rw [hg5] at X6
 have HV := hide X6
 have HB6 := hide (HB5.out.trans (b6.mono HB5.out.size))
 have Hg5 : Hid (wk.heap.size ≤ g5 ∧ G + 3 < g5) := ⟨by have := HB5.out.size; omega, by have := (HXf.out.below HB5.out).lt; omega⟩
 clear b6 X6
 obtain ⟨k0, k1, k2⟩ := (HXa.out.below HB6.out).k
 have ll := run_ldLm (HXl.out.below HB6.out)
 have la := run_ldAc (HXa.out.below HB6.out)
 go_wp2_with fail
 clear hw6 hg5 ll la k0 k1 k2
 refine (refLimits_any ao n c L ln ct 2 s q a _ (HS.out.below HB6.out) HC.out HQ.out).mono ?_
 rintro e w7 ⟨z, rfl, hz, b7⟩
 have HB7 := hide (HB6.out.trans (b7.mono HB6.out.size))
 have HV7 := hide (HV.out.below b7)
 clear b7
 rcases hz with ⟨hf, rfl⟩ | ⟨hf, -, hov, rfl⟩ | ⟨hf, hov, rfl⟩
 ·have HFu := hide hf
  clear hf
  have HXn := hide (HXf.out.below HB7.out)
  have tn : (stFa (.pointer (some ⟨G + 3, 0, none⟩)) (.agg (FaC (mkF fc0)))).run Tryz.prog w7 = .ok () (w7.setRow (G + 3) (FaC (mkF fc0))) := run_stFa (m' := mkF fc0) HXn.out
  have HE := hide (give_facts (w := w) (f := fc0) (er := 12) (RuD L p.P r ln ct 2 s q a.P) HXn.out (fc0_ok _) (fc0_new _) (HBK.out.trans (HB7.out.mono HBK.out.size)) (by have := HG.out; omega) (.inr (.inl ⟨rfl, .inl ⟨HFu.out, fc0_no, rfl⟩⟩)))
  go_wp2_with fail
  refine bodyPost_ret (res2Fa rfl rfl rfl HE.out.1) rfl ?_
  exact HE.out.2
 ·have HFu := hide hf
  have HOv := hide hov
  clear hf hov
  have HXn := hide (HXf.out.below HB7.out)
  have tn : (stFa (.pointer (some ⟨G + 3, 0, none⟩)) (.agg (FaC (mkF fc0)))).run Tryz.prog w7 = .ok () (w7.setRow (G + 3) (FaC (mkF fc0))) := run_stFa (m' := mkF fc0) HXn.out
  have HE := hide (give_facts (w := w) (f := fc0) (er := 13) (RuD L p.P r ln ct 2 s q a.P) HXn.out (fc0_ok _) (fc0_new _) (HBK.out.trans (HB7.out.mono HBK.out.size)) (by have := HG.out; omega) (.inr (.inl ⟨rfl, .inr (.inl ⟨HFu.out, (by have := HOv.out; omega), fc0_no, rfl⟩)⟩)))
  go_wp2_with fail
  refine bodyPost_ret (res2Fa rfl rfl rfl HE.out.1) rfl ?_
  exact HE.out.2
 ·skip
  have HFu := hide hf
  have HOv : Hid (¬ 1000000 < K.ttl (flS L s) + q) := fun h => hov ⟨rfl, h⟩
  clear hov
  clear hf
  have lp := run_ldP (HX.out.below HB7.out).at
  have lc := (HXl.out.below HB7.out).c1
  dsimp only at lc
  go_wp2_with fail
  clear lp lc
  refine (refActNext_any p r ct _ (HP.out.below HB7.out)).mono ?_
  rintro e w8 ⟨d, x, rfl, hd, b8⟩
  have HD := hide hd
  obtain ⟨g9, hg9⟩ : ∃ g9, w8.heap.size = g9 := ⟨_, rfl⟩
  obtain ⟨w9, hst9, X9, B9, -⟩ := madeD w8 d g9 hg9
  have HB9 := hide (HB7.out.trans ((b8.trans (B9.mono b8.size)).mono HB7.out.size))
  have HV9 := hide ((HV7.out.below b8).below B9)
  have HXd := hide X9
  have Hg9 : Hid (g5 < g9) := by show g5 < g9; have := (HV7.out.below b8).lt; omega
  clear hd b8 B9 X9
  by_cases hx : x = 0
  rotate_left
  ·have hxb : (x != 0) = true := by simp [hx]
   have HX0 := hide hx
   clear hx
   have HXn := hide (HXf.out.below HB9.out)
   have tn : (stFa (.pointer (some ⟨G + 3, 0, none⟩)) (.agg (FaC (mkF fc0)))).run Tryz.prog w9 = .ok () (w9.setRow (G + 3) (FaC (mkF fc0))) := run_stFa (m' := mkF fc0) HXn.out
   have HE := hide (give_facts (w := w) (f := fc0) (er := x) (RuD L p.P r ln ct 2 s q a.P) HXn.out (fc0_ok _) (fc0_new _) (HBK.out.trans (HB9.out.mono HBK.out.size)) (by have := HG.out; omega) (.inr (.inl ⟨rfl, .inr (.inr ⟨HFu.out, (by have := HOv.out; omega), ⟨d, x, HD.out, .inl ⟨HX0.out, fc0_no, rfl⟩⟩⟩)⟩)))
   go_wp2_with fail
   refine bodyPost_ret (res2Fa rfl rfl rfl HE.out.1) rfl ?_
   exact HE.out.2
  subst hx
  obtain ⟨k0, k1, k2⟩ := (HXa.out.below HB9.out).k
  go_wp2_with fail
  clear hst9 hg9 k0 k1 k2
  refine (refDots8_any ao n c L s (-1) _ (HS.out.below HB9.out)).mono ?_
  rw [ds_sku HGd.out]
  rintro e wd ⟨pg, rfl, Sd, nd, bd, Cd⟩
  have HBd := hide (HB9.out.trans (bd.mono HB9.out.size))
  obtain ⟨w10, hstp, Xp, chp⟩ := run_stPF pg (HV9.out.below bd)
  have HVp := hide Xp
  have hg5lt : g5 < w9.heap.size := HV9.out.lt
  have HSp := hide (psrc_off Sd (fun ad h => chp.oth _ (by have := nd.1 ad h; omega)) (fun ad h => chp.oth _ (by have := nd.2 ad h; omega)))
  have HNp : Hid (PNew (g5 + 1) pg) := nd.mono (by omega)
  have HCp := hide Cd
  have HBp := hide (chp.low wk.heap.size wk Hg5.out.1 HBd.out)
  have HXk1 : Hid (Box w10 g9 44 d) := (chp.oth g9 (by have := Hg9.out; omega)).trans (HXd.out.below bd)
  clear Sd nd bd Cd Xp chp hg5lt HBd
  have HXd2 : Hid (Box w10 g9 44 d) := HXk1
  obtain ⟨k0, k1, k2⟩ := (HXa.out.below HBp.out).k
  go_wp2_with fail
  clear hstp
  refine (refSum8_any ao n c L s r _ (HS.out.below HBp.out) HC.out).mono ?_
  rw [sm_own HR.out]
  rintro e w11 ⟨rfl, b11⟩
  have HB11 := hide (HBp.out.trans (b11.mono HBp.out.size))
  have HV11 := hide (HVp.out.below b11)
  have HXd3 := hide (HXd2.out.below b11)
  clear b11 k0 k1 k2
  have HTo := hide (ttl_few (L := flO L r s) (filter_chkE HC.out))
  obtain ⟨U, HU⟩ : ∃ U, Hid (K.ttl (flO L r s) = U) := ⟨_, rfl⟩
  rw [HU.out]
  obtain ⟨k0, k1, k2⟩ := (HXa.out.below HB11.out).k
  go_wp2_with fail
  clear HSp HNp HCp HBp HVp k0 k1 k2
  refine (refDots8_any ao n c L s r _ (HS.out.below HB11.out)).mono ?_
  rw [ds_own HGd.out HR.out]
  rintro e wd ⟨pg, rfl, Sd, nd, bd, Cd⟩
  have HBd := hide (HB11.out.trans (bd.mono HB11.out.size))
  obtain ⟨w14, hstp, Xp, chp⟩ := run_stPF pg (HV11.out.below bd)
  have HVp := hide Xp
  have hg5lt : g5 < w11.heap.size := HV11.out.lt
  have HSp := hide (psrc_off Sd (fun ad h => chp.oth _ (by have := nd.1 ad h; omega)) (fun ad h => chp.oth _ (by have := nd.2 ad h; omega)))
  have HNp : Hid (PNew (g5 + 1) pg) := nd.mono (by omega)
  have HCp := hide Cd
  have HBp := hide (chp.low wk.heap.size wk Hg5.out.1 HBd.out)
  have HXk2 : Hid (Box w14 g9 44 d) := (chp.oth g9 (by have := Hg9.out; omega)).trans (HXd3.out.below bd)
  clear Sd nd bd Cd Xp chp hg5lt HBd
  have HXd4 : Hid (Box w14 g9 44 d) := HXk2
  obtain ⟨k0, k1, k2⟩ := (HXa.out.below HBp.out).k
  have HSq := HSp
  have hub := HTo.out
  have hqb := HQ.out
  rw [HU.out] at hub
  have hw : IntKind.i64.wrap (U + q) = q + U := by rw [Int.add_comm U q]; exact wrap_few (by omega) (by omega)
  clear hub hqb
  have ld := run_ldD HXd4.out.at
  have hSk := K.lit_esrc w14 [⟨d.lo, d.hi, s, q + U⟩] #[.int .i64 d.lo, .int .i64 d.hi, .string s, .int .i64 (q + U)] rfl 46 1 rfl (by simp; exact HSs.out) (by decide)
  have b12 := below_new w14 (.cells #[.int .i64 d.lo, .int .i64 d.hi, .string s, .int .i64 (q + U)] 46)
  obtain ⟨g12, hg12⟩ : ∃ g12, w14.heap.size = g12 := ⟨_, rfl⟩
  obtain ⟨w12, hw12⟩ : ∃ w12, w14.alloc (.cells #[.int .i64 d.lo, .int .i64 d.hi, .string s, .int .i64 (q + U)] 46) = w12 := ⟨_, rfl⟩
  rw [hw12] at hSk b12
  rw [hg12] at hSk
  have HB12 := hide (HBp.out.trans (b12.mono HBp.out.size))
  have X12 := HVp.out.below b12
  have c12 : w12.cell? ⟨g5, 0, none⟩ = some (.slice none 0 0) := X12.c0
  have z12 := X12.fz 0
  have HVz : Hid (FaBox (w12.setCell ⟨g5, 0, none⟩ (.slice (some ⟨g12, 0, none⟩) 1 1)) g5 (mkF (fcG (some ⟨g12, 0, none⟩) 1 1 [⟨d.lo, d.hi, s, q + U⟩] pg))) := X12.set0 (f := fcG none 0 0 [] pg) (some ⟨g12, 0, none⟩) 1 1 [⟨d.lo, d.hi, s, q + U⟩]
  have ch12 := Ch.set w12 g5 0 (.slice (some ⟨g12, 0, none⟩) 1 1)
  have hl12 : g5 < w14.heap.size := HVp.out.lt
  have HSk := hide (hSk.kept (w2 := w12.setCell ⟨g5, 0, none⟩ (.slice (some ⟨g12, 0, none⟩) 1 1)) (fun ad h => ch12.oth _ (by cases h; show g12 ≠ g5; omega)))
  have HSpz := hide (psrc_off (HSq.out.below b12) (fun ad h => ch12.oth _ (by have := HNp.out.1 ad h; omega)) (fun ad h => ch12.oth _ (by have := HNp.out.2 ad h; omega)))
  have HBz := hide (ch12.low wk.heap.size wk Hg5.out.1 HB12.out)
  have HNz : Hid (FNew (g5 + 1) (fcG (some ⟨g12, 0, none⟩) 1 1 [⟨d.lo, d.hi, s, q + U⟩] pg)) := ⟨fun ad e => (by cases e; show g5 + 1 ≤ g12; omega), HNp.out, fun ad e => (by cases e), fun c hc => (by cases hc)⟩
  clear hSk b12 X12 ch12 hl12
  have lv := run_ldFa HVz.out
  have HXn := hide (HXf.out.below HBz.out)
  have tn := run_stFa (m' := mkF (fcG (some ⟨g12, 0, none⟩) 1 1 [⟨d.lo, d.hi, s, q + U⟩] pg)) HXn.out
  have HE := hide (give_facts (w := w) (f := fcG (some ⟨g12, 0, none⟩) 1 1 [⟨d.lo, d.hi, s, q + U⟩] pg) (er := 0) (RuD L p.P r ln ct 2 s q a.P) HXn.out ⟨HSk.out, HSpz.out, RcS.empty _⟩ (HNz.out.mono (by have := Hg5.out; omega)) (HBK.out.trans (HBz.out.mono HBK.out.size)) (by have := HG.out; omega) (.inr (.inl ⟨rfl, .inr (.inr ⟨HFu.out, (by have := HOv.out; omega), ⟨d, 0, HD.out, .inr ⟨rfl, rfl, (by rw [HU.out]; rfl), HCp.out, rfl⟩⟩⟩)⟩)))
  go_wp2_with fail
  refine bodyPost_ret (res2Fa rfl rfl rfl HE.out.1) rfl ?_
  exact HE.out.2
end Go.Proofs.YtmbkmpeongodbaaGreat
namespace Go.Proofs.YtmbkmpeongodbaaGreat
open Go.RowKit
theorem re_ok {P : Pst} {r ct : Int} {O : List K.En} {s : ByteArray} {q : Int} {f : Fc} (h : ReD P r ct O s q f 0) : ∃ d, NxF P r ct d 0 ∧ f.es = [⟨d.lo, d.hi, s, q⟩] ∧ CanonOf (dotsG (O.map dotOf)) f.p.P ∧ f.rs = [] := by
 obtain ⟨d, x, hd, ⟨h1, -, h2⟩ | ⟨rfl, -, h1, h2, h3⟩⟩ := h
 ·exact absurd h2.symm h1
 ·exact ⟨d, hd, h1, h2, h3⟩
theorem zero_empty : EmptyP pv0.P := fun r hr n h => by
 have := (mem_runs pv0.P r hr n).1 h
 rcases this with ⟨h1, -, h2 | ⟨c, hc, -⟩⟩
 ·have : (pv0.P.vec.getD r 0) = 0 := by simp [pv0]
  omega
 ·cases hc
theorem zero_form : InForm pv0.P := ⟨by decide, trivial⟩
end Go.Proofs.YtmbkmpeongodbaaGreat
namespace Go.Proofs.YtmbkmpeongodbaaGreat
open Go.RowKit
theorem zero_Fa0 : (#[.slice none 0 0, .slice none 0 0, .slice none 0 0, .slice none 0 0] : Array Value) = FaC fa0 := rfl
def bldLm (a : Array (Nat × Value)) : Sem Value := Instr.build 28 a
theorem bldLm_eq (a : Array (Nat × Value)) : Instr.build 28 a = bldLm a := rfl
theorem run_bldLm (a b : Int) (w : World) : (bldLm #[(0, .int .i64 a), (1, .int .i64 b)]).run Tryz.prog w = .ok (.agg (LmC ⟨a, b⟩)) w := by kernel_rfl
def bldA (a : Array (Nat × Value)) : Sem Value := Instr.build 30 a
theorem bldA_eq (a : Array (Nat × Value)) : Instr.build 30 a = bldA a := rfl
theorem run_bldA3 (k q : Int) (s : ByteArray) (w : World) : (bldA #[(0, .int .i64 k), (1, .string s), (2, .int .i64 q)]).run Tryz.prog w = .ok (.agg (AcC (mkA k s q pv0))) w := by kernel_rfl
def knS : ByteArray := ⟨#[65]⟩
def knL : List K.En := [⟨0, 1, knS, 5⟩, ⟨1, 2, knS, 7⟩]
def knP : Pst := ⟨[3, 3], []⟩
theorem knL_chk : K.chk knL = 0 := by decide +kernel
theorem knP_form : InForm knP := ⟨by decide, trivial⟩
theorem kn_seen : SeenAll knL knP := ⟨knL_chk, knP_form, by decide +kernel⟩
theorem kn_good : K.good knS.data.toList = true := by decide +kernel
theorem kn_ack : AckOf 1 pv0.P knS 9 0 := by
 obtain ⟨b, hb⟩ := BIf.ex (InForm pv0.P)
 refine ⟨b, hb, ?_⟩
 rw [kn_good]
 unfold ackF
 simp
theorem kn_last : LastOf knP 0 3 := by
 refine Or.inl ⟨by decide, Or.inr ?_⟩
 have h : ∀ n, mem (runsAt knP (0 : Int).toNat) n ↔ _ := fun n => mem_runs knP 0 (by decide) n
 refine ⟨(h 3).2 ⟨by decide, by decide, Or.inl (by decide)⟩, fun n hn => ?_⟩
 rcases (h n).1 hn with ⟨_, _, h3 | ⟨c, hc, _⟩⟩
 ·exact h3
 ·cases hc
theorem kn_next : NxF knP 0 4 ⟨0, 4⟩ 0 := Or.inr ⟨knP_form, Or.inr ⟨by decide, 3, kn_last, Or.inr ⟨by decide, rfl, rfl⟩⟩⟩
theorem kn_of : flS knL knS = knL := by decide +kernel
theorem kn_full : ¬ FullF knL (flS knL knS) 2 := by
 rintro ⟨h, -⟩
 rw [kn_of] at h
 cases h
theorem kn_dec {f : Fc} {er : Int} (h : DeD knL knP 0 2 4 1 knS 9 pv0.P f er) : er = 0 ∧ f.es = [⟨0, 4, knS, 9⟩] := by
 rcases h with ⟨h, -⟩ | ⟨-, ⟨h, -⟩ | ⟨-, ⟨h, -⟩ | ⟨-, ⟨h, h0, -⟩ | ⟨-, h⟩⟩⟩⟩
 ·exact absurd kn_seen h
 ·exact absurd ⟨by decide, by decide⟩ h
 ·exact absurd ⟨by decide, by decide, by decide, by decide⟩ h
 ·exact absurd (h.unique kn_ack) h0
 rcases h with ⟨-, h⟩ | ⟨h, -⟩ | ⟨h, -⟩ | ⟨h, -⟩ | ⟨h, -⟩ | ⟨h, -⟩
 ·rcases h with ⟨h, -⟩ | ⟨-, d, x, hd, h⟩
  ·exact absurd h kn_full
  obtain ⟨rfl, rfl⟩ := hd.unique kn_next
  rcases h with ⟨h, -⟩ | ⟨-, h1, h2, -⟩
  ·exact absurd rfl h
  ·exact ⟨h1, h2⟩
 all_goals exact absurd h (by decide)
theorem kn_past (w : World) (g : Nat) (hg : w.heap.size = g) : PSrc (w.alloc (.cells #[.int .i64 3, .int .i64 3] 3)) ⟨some ⟨g, 0, none⟩, 2, 2, none, 0, 0, knP⟩ :=
 ⟨vsrc_lit w 3 _ [3, 3] rfl g 2 hg rfl, SSrc.empty _, (show (2 : Nat) ≤ 17592186044415 by decide)⟩
attribute [local go_sem ↓] ldP_eq stP_eq ldFa_eq stFa_eq bldE_eq bldD_eq bldP_eq bldLm_eq bldA_eq K.ld28_eq K.st28_eq
attribute [local go_sem] cells_PV PC_size cells_FaV FaC_size zero_Fa0 run_bldE run_bldD run_bldP1 run_bldLm run_bldA3 cells_agg
set_option maxRecDepth 100000 in
set_option maxHeartbeats 3200000 in
theorem known_any (w : World) : Calls Tryz.prog 6 #[] w fun e w' => e = .returned (.bool true) ∧ Below w.heap.size w w' := by
 obtain ⟨g1, hg1⟩ : ∃ g1, w.heap.size = g1 := ⟨_, rfl⟩
 have b1 := below_new w (.cells #[.int .i64 0, .int .i64 1, .string ⟨#[65]⟩, .int .i64 5, .int .i64 1, .int .i64 2, .string ⟨#[65]⟩, .int .i64 7] 46)
 have s1 := K.lit_esrc w knL #[.int .i64 0, .int .i64 1, .string ⟨#[65]⟩, .int .i64 5, .int .i64 1, .int .i64 2, .string ⟨#[65]⟩, .int .i64 7] rfl 46 2 rfl (by decide) (by decide)
 obtain ⟨w1, hw1⟩ : ∃ w1, w.alloc (.cells #[.int .i64 0, .int .i64 1, .string ⟨#[65]⟩, .int .i64 5, .int .i64 1, .int .i64 2, .string ⟨#[65]⟩, .int .i64 7] 46) = w1 := ⟨_, rfl⟩
 rw [hw1] at b1 s1
 rw [hg1] at s1
 obtain ⟨g2, hg2⟩ : ∃ g2, w1.heap.size = g2 := ⟨_, rfl⟩
 have b2 := below_new w1 (.cells #[.int .i64 3, .int .i64 3] 3)
 have s2 := kn_past w1 g2 hg2
 obtain ⟨w2, hw2⟩ : ∃ w2, w1.alloc (.cells #[.int .i64 3, .int .i64 3] 3) = w2 := ⟨_, rfl⟩
 rw [hw2] at b2 s2
 have HB2 := hide (b1.trans (b2.mono b1.size))
 have HS1 := hide (s1.below b2)
 have HS2 := hide s2
 clear b1 s1 b2 s2
 go_enter Tryz.func6, Tryz.ntmps6
 go_wp2_with fail
 clear hw1 hw2 hg1 hg2
 refine (decide_any (some ⟨g1, 0, none⟩) 2 2 knL ⟨some ⟨g2, 0, none⟩, 2, 2, none, 0, 0, knP⟩ 0 2 4 1 knS 9 pv0 w2 HS1.out HS2.out (PSrc.zero _) (by decide) ⟨by decide, by decide⟩).mono ?_
 rintro e w3 ⟨f, er, rfl, F3, -, b3, D3⟩
 obtain ⟨rfl, hes⟩ := kn_dec D3
 obtain ⟨g4, hg4⟩ : ∃ g4, w3.heap.size = g4 := ⟨_, rfl⟩
 obtain ⟨w4, hst, X4, B4, -⟩ := madeFa w3 (mkF f) g4 hg4
 have HB4 := hide (HB2.out.trans ((b3.trans (B4.mono b3.size)).mono HB2.out.size))
 have hE := F3.es.below B4
 rw [hes] at hE
 have hn : f.an = 1 := hE.1.symm
 obtain ⟨ad, hao, A0⟩ := hE.at 0 (by rw [hn]; decide)
 rw [Nat.zero_mul, K.add_zero] at A0
 have hsp := World.cell?_spot A0.c0
 obtain ⟨bb, oo, sp⟩ := ad
 have hsp2 : sp = none := hsp
 subst hsp2
 have c3 : w4.cell? ⟨bb, oo + 3, none⟩ = some (.int .i64 9) := by have h := A0.c3; rw [Addr.add_lit] at h; exact h
 have c1 : w4.cell? ⟨bb, oo + 1, none⟩ = some (.int .i64 4) := by have h := A0.c1; rw [Addr.add_lit] at h; exact h
 have c0 := X4.cs.1
 rw [hao, hn] at c0
 clear D3 hes F3 b3 X4 B4 hE hn A0 hsp HS1 HS2
 go_wp2_with fail
 go_ret
 exact ⟨rfl, HB4.out⟩
end Go.Proofs.YtmbkmpeongodbaaGreat
namespace Go.Proofs.YtmbkmpeongodbaaGreat
open Go.RowKit
structure Wsh where
 ao : Option Addr
 n : Nat
 c : Nat
 L : List K.En
 p : Pv
 r : Int
 ln : Int
 ct : Int
 k : Int
 s : ByteArray
 q : Int
 a : Pv
def mkW (x : Wsh) : WisV := ⟨x.ao, x.n, x.c, x.p.vo, x.p.vn, x.p.vc, x.p.co, x.p.cn, x.p.cc, x.r, x.ln, x.ct, x.k, x.s, x.q, x.a.vo, x.a.vn, x.a.vc, x.a.co, x.a.cn, x.a.cc⟩
structure WshOk (w : World) (x : Wsh) : Prop where
 live : K.ESrc w x.ao x.n x.c x.L
 p : PSrc w x.p
 a : PSrc w x.a
 s : x.s.size ≤ maxLen
 k : i64ok x.k
theorem WshOk.below {w w' : World} {x : Wsh} (h : WshOk w x) (hb : Below w.heap.size w w') : WshOk w' x := ⟨h.live.below hb, h.p.below hb, h.a.below hb, h.s, h.k⟩
theorem WiBox.live {w : World} {g : Nat} {x : Wsh} (h : WiBox w g (mkW x)) : w.cell? ⟨g, 0, none⟩ = some (.slice x.ao x.n x.c) := h.c0
theorem WiBox.rep {w : World} {g : Nat} {x : Wsh} (h : WiBox w g (mkW x)) : w.cell? ⟨g, 3, none⟩ = some (.int .i64 x.r) := h.c3
theorem WiBox.past {w : World} {g : Nat} {x : Wsh} (h : WiBox w g (mkW x)) : PAt w ⟨g, 1, none⟩ x.p := ⟨h.c1, h.c2⟩
theorem WiBox.lim {w : World} {g : Nat} {x : Wsh} (h : WiBox w g (mkW x)) : LmAt w ⟨g, 4, none⟩ ⟨x.ln, x.ct⟩ := ⟨h.c4, h.c5⟩
theorem WiBox.act {w : World} {g : Nat} {x : Wsh} (h : WiBox w g (mkW x)) : AcAt w ⟨g, 6, none⟩ (mkA x.k x.s x.q x.a) := ⟨h.c6, h.c7, h.c8, h.c9, h.c10⟩
theorem dec_ok {L : List K.En} {P A : Pst} {r ln ct k : Int} {s : ByteArray} {q : Int} {f : Fc} (h : DeD L P r ln ct k s q A f 0) : SeenAll L P ∧ RepOk r ∧ LimOk ln ct ∧ AckOf k A s q 0 ∧ RuD L P r ln ct k s q A f 0 := by
 rcases h with ⟨-, -, h⟩ | ⟨h1, ⟨-, -, h⟩ | ⟨h2, ⟨-, -, h⟩ | ⟨h3, ⟨-, h, -⟩ | ⟨h4, h5⟩⟩⟩⟩
 ·exact absurd h (by decide)
 ·exact absurd h (by decide)
 ·exact absurd h (by decide)
 ·exact absurd rfl h
 ·exact ⟨h1, h2, h3, h4, h5⟩
end Go.Proofs.YtmbkmpeongodbaaGreat

