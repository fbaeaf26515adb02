/- EJr -/
import Derived.Test.YtmbkmpeongodbaaGreatTk
import Derived.Test.YtmbkmpeongodbaaGreatAj37
namespace Go.Proofs.YtmbkmpeongodbaaGreat
open Go.RowKit
attribute [local go_sem ↓] ldP_eq stP_eq ldFa_eq stFa_eq ldAc_eq stAc_eq ldLm_eq stLm_eq ldD_eq stD_eq ldRe_eq stRe_eq bldF_eq bldE_eq bldR_eq bsE_eq bsR_eq
attribute [local go_sem] zero_PC cells_PV PC_size cells_FaV FaC_size zero_FaC cells_AcV AcC_size cells_LmV LmC_size cells_RV RC_size zero_RC fold_RC cells_ReV ReC_size run_bldF0 run_bldEd run_bldRp run_bsE run_bsR
set_option maxRecDepth 100000 in
set_option maxHeartbeats 6400000 in
theorem refDec_3 (ao : Option Addr) (n c : Nat) (L : List K.En) (p : Pv) (r ln ct : Int) (s : ByteArray) (q : Int) (a : Pv) (w : World) (hS : K.ESrc w ao n c L) (hP : PSrc w p) (hA : PSrc w a) (hs : s.size ≤ maxLen) (hSn : SeenAll L p.P) (hR : RepOk r) (hLm : LimOk ln ct) (hk : AckOf 3 a.P s q 0) : Calls Tryz.prog 7 #[.slice ao n c, PV p, .int .i64 r, LmV ⟨ln, ct⟩, AcV (mkA 3 s q a)] w fun e w' => DeA w w' e (RuD L p.P r ln ct 3 s q a.P) := by
 obtain ⟨wk, hwk⟩ : ∃ wk, (((w.alloc (.cells (PC p) 26)).alloc (.cells (LmC ⟨ln, ct⟩) 28)).alloc (.cells (AcC (mkA 3 s q a)) 30)).alloc (.cells (FaC (mkF fc0)) 36) = wk := ⟨_, rfl⟩
 obtain ⟨X1, X2, X3, X4, hb, hS', hP', hA'⟩ := dec_pre ao n c L p ln ct 3 s q a w hS hP hA hwk
 obtain ⟨G, hG⟩ : ∃ G, w.heap.size = G := ⟨_, rfl⟩
 rw [hG] at X1 X2 X3 X4
 have HX := hide X1
 have HXl := hide X2
 have HXa := hide X3
 have HXf := hide X4
 have HBK := hide hb
 have HS := hide hS'
 have HP := hide hP'
 have HA := hide hA'
 have HG := hide hG
 have HSs := hide hs
 have HLn : Hid (L.length = n) := hS.1
 clear X1 X2 X3 X4 hb hS' hP' hA' hS hP hA hs
 have HOk := hide ((ok_chk HLn.out).1 hSn.1)
 have HC := hide hSn.1
 have HI := hide hSn.2.1
 have HSn := hide hSn
 clear hSn
 have HR := hide hR
 have HLm := hide hLm
 have HAk := hide hk
 have HGd := hide ((ack_zero hk).2.2.2.1 (by decide))
 clear hR hLm hk
 go_enter Tryz.func7, Tryz.ntmps7
 go_wp2_with fail
 clear hwk hG
 have HD0 := hide (below_drew1 wk)
 refine wp_region_held_drew (S := fun v => (ldP (.pointer (some ⟨G, 0, none⟩))).run Tryz.prog v = .ok (PV p) v) (by kernel_rfl) (run_ldP (HX.out.below HD0.out).at) (fun hHeld => ?_)
 refine wTk 0 ⟨some 17, .move (.tmp 0), 22, "ref.go:136", #[], none⟩ rfl ?_
 refine wpAnyH_ready (rs := [1]) (by kernel_rfl) (by simp) (.cons rfl (fun K hK => ?_) .nil)
 go_simp
 go_wp2_with fail
 refine (refEntries8_any ao n c L _ (HS.out.below HD0.out)).mono ?_
 rintro e w1 ⟨rfl, b1⟩
 rw [HOk.out]
 have HB1 := hide (HD0.out.trans (b1.mono HD0.out.size))
 refine hK.out _ _ (run_ldP (HX.out.below HB1.out).at) (fun hHeld => ?_)
 clear hK K b1
 refine wTk 2 ⟨some 19, .unOp .not 4 (.tmp 18), 4, "ref.go:136", #[⟨1, .data⟩], none⟩ rfl ?_
 refine wTk 3 ⟨some 20, .move (.tmp 19), 4, "ref.go:136", #[⟨2, .data⟩, ⟨1, .chain⟩], none⟩ rfl ?_
 refine wTk 4 ⟨some 21, .load 26 (.tmp 6), 26, "ref.go:136", #[⟨3, .guard⟩], some (3, false)⟩ rfl ?_
 refine wpAnyH_ready (rs := [5]) (by kernel_rfl) (by simp) (.cons rfl (fun K hK => ?_) .nil)
 go_simp
 go_wp2_with fail
 refine (refIsNorm_any p _ (HP.out.below HB1.out)).mono ?_
 rintro e w2 ⟨b, rfl, hb, b2⟩
 obtain rfl : b = true := by
  exact hb.out.2 HI.out
 have HB2 := hide (HB1.out.trans (b2.mono HB1.out.size))
 refine hK.out _ _ (run_ldP (HX.out.below HB2.out).at) (fun hHeld => ?_)
 clear hK K hb b2
 refine wTk 6 ⟨some 23, .unOp .not 4 (.tmp 22), 4, "ref.go:136", #[⟨5, .data⟩, ⟨3, .guard⟩], some (3, false)⟩ rfl ?_
 refine wTk 7 ⟨some 24, .pick (.tmp 20) (.const (.bool true)) (.tmp 23), 4, "ref.go:136", #[⟨3, .data⟩, ⟨6, .data⟩], none⟩ rfl ?_
 refine wTk 8 ⟨some 25, .move (.tmp 24), 4, "ref.go:136", #[⟨7, .data⟩, ⟨5, .chain⟩], none⟩ rfl ?_
 refine wTk 9 ⟨some 26, .move (.tmp 0), 22, "ref.go:136", #[⟨8, .guard⟩], some (8, false)⟩ rfl ?_
 refine wTk 11 ⟨some 28, .load 26 (.tmp 6), 26, "ref.go:136", #[⟨8, .guard⟩], some (8, false)⟩ rfl ?_
 refine wpAnyH_ready (rs := [10]) (by kernel_rfl) (by simp) (.cons rfl (fun K hK => ?_) .nil)
 go_simp
 go_wp2_with fail
 refine (refDots8_any ao n c L ⟨#[]⟩ (-1) _ (HS.out.below HB2.out)).mono ?_
 rw [ds_all]
 rintro e w3 ⟨p1, rfl, S3, n3, b3, C3⟩
 have HB3 := hide (HB2.out.trans (b3.mono HB2.out.size))
 have HS3 := hide S3
 have HC3 := hide C3
 refine hK.out _ _ (run_ldP (HX.out.below HB3.out).at) (fun hHeld => ?_)
 clear hK K b3 S3 n3 C3
 refine wpAnyH_ready (rs := [12]) (by kernel_rfl) (by simp) (.cons rfl (fun K hK => ?_) .nil)
 go_simp
 go_wp2_with fail
 refine (refWithin_any p1 p _ HS3.out (HP.out.below HB3.out)).mono ?_
 rintro e w4 ⟨b, rfl, hb, b4⟩
 obtain rfl : b = true := by
  exact hb.2 ((within_seen HC.out HC3.out).2 HSn.out.2.2)
 have HB4 := hide (HB3.out.trans (b4.mono HB3.out.size))
 refine hK.out _ _ (run_ldP (HX.out.below HB4.out).at) (fun hHeld => ?_)
 clear hK K hb b4 HC3 HS3
 refine wTk 13 ⟨some 30, .unOp .not 4 (.tmp 29), 4, "ref.go:136", #[⟨12, .data⟩, ⟨8, .guard⟩], some (8, false)⟩ rfl ?_
 refine wTk 14 ⟨some 31, .pick (.tmp 25) (.const (.bool true)) (.tmp 30), 4, "ref.go:136", #[⟨8, .data⟩, ⟨13, .data⟩], none⟩ rfl ?_
 refine wpAnyH_done (by kernel_rfl) ?_ _
 clear hHeld
 have hr1 : ¬ r < 0 := by have := HR.out.1; omega
 have hr2 : ¬ 16 ≤ r := by have := HR.out.2; omega
 have m1 := (HXl.out.below HB4.out).c0
 have m2 := (HXl.out.below HB4.out).c1
 dsimp only at m1 m2
 have hl1 : ¬ ln < 1 := by have := HLm.out.1; omega
 have hl2 : ¬ 1000 < ln := by have := HLm.out.2.1; omega
 have hl3 : ¬ ct < 1 := by have := HLm.out.2.2.1; omega
 have hl4 : ¬ 1000000000 < ct := by have := HLm.out.2.2.2; omega
 have la := run_ldAc (HXa.out.below HB4.out)
 go_wp2_with fail
 clear la m1 m2 hl1 hl2 hl3 hl4 hr1 hr2
 refine (refActCheck_any 3 s q a _ (HA.out.below HB4.out) HSs.out).mono ?_
 rintro e w5 ⟨z, rfl, hz, b5⟩
 obtain rfl : z = 0 := hz.unique HAk.out
 have HB5 := hide (HB4.out.trans (b5.mono HB4.out.size))
 clear hz b5
 have b6 := below_new w5 (.cells (FaC (mkF fc0)) 36)
 have X6 := FaBox_new w5 (mkF fc0)
 obtain ⟨w6, hw6⟩ : ∃ w6, w5.alloc (.cells (FaC (mkF fc0)) 36) = w6 := ⟨_, rfl⟩
 obtain ⟨g5, hg5⟩ : ∃ g5, w5.heap.size = g5 := ⟨_, rfl⟩
 rw [hw6] at b6 X6
 rw [hg5] at X6
 have HV := hide X6
 have HB6 := hide (HB5.out.trans (b6.mono HB5.out.size))
 have Hg5 : Hid (wk.heap.size ≤ g5 ∧ G + 3 < g5) := ⟨by have := HB5.out.size; omega, by have := (HXf.out.below HB5.out).lt; omega⟩
 clear b6 X6
 obtain ⟨k0, k1, k2⟩ := (HXa.out.below HB6.out).k
 go_wp2_with fail
 clear hw6 hg5 k0 k1 k2
 refine (refDots8_any ao n c L s (-1) _ (HS.out.below HB6.out)).mono ?_
 rw [ds_sku HGd.out]
 rintro e wd ⟨pg, rfl, Sd, nd, bd, Cd⟩
 have HBd := hide (HB6.out.trans (bd.mono HB6.out.size))
 obtain ⟨w7, hstp, Xp, chp⟩ := run_stPF pg (HV.out.below bd)
 have HVp := hide Xp
 have hg5lt : g5 < w6.heap.size := HV.out.lt
 have HSp := hide (psrc_off Sd (fun ad h => chp.oth _ (by have := nd.1 ad h; omega)) (fun ad h => chp.oth _ (by have := nd.2 ad h; omega)))
 have HNp : Hid (PNew (g5 + 1) pg) := nd.mono (by omega)
 have HCp := hide Cd
 have HBp := hide (chp.low wk.heap.size wk Hg5.out.1 HBd.out)
 clear Sd nd bd Cd Xp chp hg5lt HBd
 have lg := run_ldP (p := pg) (FaBox.past (f := fcG none 0 0 [] pg) HVp.out)
 have HEm := hide (gone_empty HC.out (fun x hx => (flS_mem.1 hx).1) HCp.out)
 go_wp2_with fail
 clear lg hstp
 refine (refEmpty_any pg _ HSp.out).mono ?_
 rintro e w8 ⟨b, rfl, hb, b8⟩
 have HBe := hide (HBp.out.trans (b8.mono HBp.out.size))
 cases b with
 | true =>
  have HN : Hid (flS L s = []) := HEm.out.1 (hb.1 rfl)
  clear hb
  have HXn := hide (HXf.out.below HBe.out)
  have tn : (stFa (.pointer (some ⟨G + 3, 0, none⟩)) (.agg (FaC (mkF fc0)))).run Tryz.prog w8 = .ok () (w8.setRow (G + 3) (FaC (mkF fc0))) := run_stFa (m' := mkF fc0) HXn.out
  have HE := hide (give_facts (w := w) (f := fc0) (er := 11) (RuD L p.P r ln ct 3 s q a.P) HXn.out (fc0_ok _) (fc0_new _) (HBK.out.trans (HBe.out.mono HBK.out.size)) (by have := HG.out; omega) (.inr (.inr (.inl ⟨rfl, .inl ⟨HN.out, fc0_no, rfl⟩⟩))))
  go_wp2_with fail
  refine bodyPost_ret (res2Fa rfl rfl rfl HE.out.1) rfl ?_
  exact HE.out.2
 | false =>
  have HN : Hid (flS L s ≠ []) := fun h => by have := hb.2 (HEm.out.2 h); cases this
  have HVz : Hid (FaBox w8 g5 (mkF (fcG none 0 0 [] pg))) := HVp.out.below b8
  have HSp8 := hide (HSp.out.below b8)
  clear hb b8
  have lv := run_ldFa HVz.out
  have HXn := hide (HXf.out.below HBe.out)
  have tn := run_stFa (m' := mkF (fcG none 0 0 [] pg)) HXn.out
  have HE := hide (give_facts (w := w) (f := fcG none 0 0 [] pg) (er := 0) (RuD L p.P r ln ct 3 s q a.P) HXn.out ⟨esrc_none _, HSp8.out, RcS.empty _⟩ ⟨fun ad e => (by cases e), HNp.out.mono (by have := Hg5.out; omega), fun ad e => (by cases e), fun c hc => (by cases hc)⟩ (HBK.out.trans (HBe.out.mono HBK.out.size)) (by have := HG.out; omega) (.inr (.inr (.inl ⟨rfl, .inr ⟨HN.out, rfl, rfl, HCp.out, rfl⟩⟩))))
  go_wp2_with fail
  refine bodyPost_ret (res2Fa rfl rfl rfl HE.out.1) rfl ?_
  exact HE.out.2
set_option maxRecDepth 100000 in
set_option maxHeartbeats 6400000 in
theorem refDec_4 (ao : Option Addr) (n c : Nat) (L : List K.En) (p : Pv) (r ln ct : Int) (s : ByteArray) (q : Int) (a : Pv) (w : World) (hS : K.ESrc w ao n c L) (hP : PSrc w p) (hA : PSrc w a) (hs : s.size ≤ maxLen) (hSn : SeenAll L p.P) (hR : RepOk r) (hLm : LimOk ln ct) (hk : AckOf 4 a.P s q 0) : Calls Tryz.prog 7 #[.slice ao n c, PV p, .int .i64 r, LmV ⟨ln, ct⟩, AcV (mkA 4 s q a)] w fun e w' => DeA w w' e (RuD L p.P r ln ct 4 s q a.P) := by
 obtain ⟨wk, hwk⟩ : ∃ wk, (((w.alloc (.cells (PC p) 26)).alloc (.cells (LmC ⟨ln, ct⟩) 28)).alloc (.cells (AcC (mkA 4 s q a)) 30)).alloc (.cells (FaC (mkF fc0)) 36) = wk := ⟨_, rfl⟩
 obtain ⟨X1, X2, X3, X4, hb, hS', hP', hA'⟩ := dec_pre ao n c L p ln ct 4 s q a w hS hP hA hwk
 obtain ⟨G, hG⟩ : ∃ G, w.heap.size = G := ⟨_, rfl⟩
 rw [hG] at X1 X2 X3 X4
 have HX := hide X1
 have HXl := hide X2
 have HXa := hide X3
 have HXf := hide X4
 have HBK := hide hb
 have HS := hide hS'
 have HP := hide hP'
 have HA := hide hA'
 have HG := hide hG
 have HSs := hide hs
 have HLn : Hid (L.length = n) := hS.1
 clear X1 X2 X3 X4 hb hS' hP' hA' hS hP hA hs
 have HOk := hide ((ok_chk HLn.out).1 hSn.1)
 have HC := hide hSn.1
 have HI := hide hSn.2.1
 have HSn := hide hSn
 clear hSn
 have HR := hide hR
 have HLm := hide hLm
 have HAk := hide hk
 have HGd := hide ((ack_zero hk).2.2.2.1 (by decide))
 clear hR hLm hk
 go_enter Tryz.func7, Tryz.ntmps7
 go_wp2_with fail
 clear hwk hG
 have HD0 := hide (below_drew1 wk)
 refine wp_region_held_drew (S := fun v => (ldP (.pointer (some ⟨G, 0, none⟩))).run Tryz.prog v = .ok (PV p) v) (by kernel_rfl) (run_ldP (HX.out.below HD0.out).at) (fun hHeld => ?_)
 refine wTk 0 ⟨some 17, .move (.tmp 0), 22, "ref.go:136", #[], none⟩ rfl ?_
 refine wpAnyH_ready (rs := [1]) (by kernel_rfl) (by simp) (.cons rfl (fun K hK => ?_) .nil)
 go_simp
 go_wp2_with fail
 refine (refEntries8_any ao n c L _ (HS.out.below HD0.out)).mono ?_
 rintro e w1 ⟨rfl, b1⟩
 rw [HOk.out]
 have HB1 := hide (HD0.out.trans (b1.mono HD0.out.size))
 refine hK.out _ _ (run_ldP (HX.out.below HB1.out).at) (fun hHeld => ?_)
 clear hK K b1
 refine wTk 2 ⟨some 19, .unOp .not 4 (.tmp 18), 4, "ref.go:136", #[⟨1, .data⟩], none⟩ rfl ?_
 refine wTk 3 ⟨some 20, .move (.tmp 19), 4, "ref.go:136", #[⟨2, .data⟩, ⟨1, .chain⟩], none⟩ rfl ?_
 refine wTk 4 ⟨some 21, .load 26 (.tmp 6), 26, "ref.go:136", #[⟨3, .guard⟩], some (3, false)⟩ rfl ?_
 refine wpAnyH_ready (rs := [5]) (by kernel_rfl) (by simp) (.cons rfl (fun K hK => ?_) .nil)
 go_simp
 go_wp2_with fail
 refine (refIsNorm_any p _ (HP.out.below HB1.out)).mono ?_
 rintro e w2 ⟨b, rfl, hb, b2⟩
 obtain rfl : b = true := by
  exact hb.out.2 HI.out
 have HB2 := hide (HB1.out.trans (b2.mono HB1.out.size))
 refine hK.out _ _ (run_ldP (HX.out.below HB2.out).at) (fun hHeld => ?_)
 clear hK K hb b2
 refine wTk 6 ⟨some 23, .unOp .not 4 (.tmp 22), 4, "ref.go:136", #[⟨5, .data⟩, ⟨3, .guard⟩], some (3, false)⟩ rfl ?_
 refine wTk 7 ⟨some 24, .pick (.tmp 20) (.const (.bool true)) (.tmp 23), 4, "ref.go:136", #[⟨3, .data⟩, ⟨6, .data⟩], none⟩ rfl ?_
 refine wTk 8 ⟨some 25, .move (.tmp 24), 4, "ref.go:136", #[⟨7, .data⟩, ⟨5, .chain⟩], none⟩ rfl ?_
 refine wTk 9 ⟨some 26, .move (.tmp 0), 22, "ref.go:136", #[⟨8, .guard⟩], some (8, false)⟩ rfl ?_
 refine wTk 11 ⟨some 28, .load 26 (.tmp 6), 26, "ref.go:136", #[⟨8, .guard⟩], some (8, false)⟩ rfl ?_
 refine wpAnyH_ready (rs := [10]) (by kernel_rfl) (by simp) (.cons rfl (fun K hK => ?_) .nil)
 go_simp
 go_wp2_with fail
 refine (refDots8_any ao n c L ⟨#[]⟩ (-1) _ (HS.out.below HB2.out)).mono ?_
 rw [ds_all]
 rintro e w3 ⟨p1, rfl, S3, n3, b3, C3⟩
 have HB3 := hide (HB2.out.trans (b3.mono HB2.out.size))
 have HS3 := hide S3
 have HC3 := hide C3
 refine hK.out _ _ (run_ldP (HX.out.below HB3.out).at) (fun hHeld => ?_)
 clear hK K b3 S3 n3 C3
 refine wpAnyH_ready (rs := [12]) (by kernel_rfl) (by simp) (.cons rfl (fun K hK => ?_) .nil)
 go_simp
 go_wp2_with fail
 refine (refWithin_any p1 p _ HS3.out (HP.out.below HB3.out)).mono ?_
 rintro e w4 ⟨b, rfl, hb, b4⟩
 obtain rfl : b = true := by
  exact hb.2 ((within_seen HC.out HC3.out).2 HSn.out.2.2)
 have HB4 := hide (HB3.out.trans (b4.mono HB3.out.size))
 refine hK.out _ _ (run_ldP (HX.out.below HB4.out).at) (fun hHeld => ?_)
 clear hK K hb b4 HC3 HS3
 refine wTk 13 ⟨some 30, .unOp .not 4 (.tmp 29), 4, "ref.go:136", #[⟨12, .data⟩, ⟨8, .guard⟩], some (8, false)⟩ rfl ?_
 refine wTk 14 ⟨some 31, .pick (.tmp 25) (.const (.bool true)) (.tmp 30), 4, "ref.go:136", #[⟨8, .data⟩, ⟨13, .data⟩], none⟩ rfl ?_
 refine wpAnyH_done (by kernel_rfl) ?_ _
 clear hHeld
 have hr1 : ¬ r < 0 := by have := HR.out.1; omega
 have hr2 : ¬ 16 ≤ r := by have := HR.out.2; omega
 have m1 := (HXl.out.below HB4.out).c0
 have m2 := (HXl.out.below HB4.out).c1
 dsimp only at m1 m2
 have hl1 : ¬ ln < 1 := by have := HLm.out.1; omega
 have hl2 : ¬ 1000 < ln := by have := HLm.out.2.1; omega
 have hl3 : ¬ ct < 1 := by have := HLm.out.2.2.1; omega
 have hl4 : ¬ 1000000000 < ct := by have := HLm.out.2.2.2; omega
 have la := run_ldAc (HXa.out.below HB4.out)
 go_wp2_with fail
 clear la m1 m2 hl1 hl2 hl3 hl4 hr1 hr2
 refine (refActCheck_any 4 s q a _ (HA.out.below HB4.out) HSs.out).mono ?_
 rintro e w5 ⟨z, rfl, hz, b5⟩
 obtain rfl : z = 0 := hz.unique HAk.out
 have HB5 := hide (HB4.out.trans (b5.mono HB4.out.size))
 clear hz b5
 have b6 := below_new w5 (.cells (FaC (mkF fc0)) 36)
 have X6 := FaBox_new w5 (mkF fc0)
 obtain ⟨w6, hw6⟩ : ∃ w6, w5.alloc (.cells (FaC (mkF fc0)) 36) = w6 := ⟨_, rfl⟩
 obtain ⟨g5, hg5⟩ : ∃ g5, w5.heap.size = g5 := ⟨_, rfl⟩
 rw [hw6] at b6 X6
 rw [hg5] at X6
 have HV := hide X6
 have HB6 := hide (HB5.out.trans (b6.mono HB5.out.size))
 have Hg5 : Hid (wk.heap.size ≤ g5 ∧ G + 3 < g5) := ⟨by have := HB5.out.size; omega, by have := (HXf.out.below HB5.out).lt; omega⟩
 clear b6 X6
 obtain ⟨k0, k1, k2⟩ := (HXa.out.below HB6.out).k
 have lpa := run_ldP (HXa.out.below HB6.out).past
 go_wp2_with fail
 clear hw6 hg5 lpa k0 k1 k2
 refine (refEmpty_any a _ (HA.out.below HB6.out)).mono ?_
 rintro e w7 ⟨b, rfl, hb, b7⟩
 have HB7 := hide (HB6.out.trans (b7.mono HB6.out.size))
 have HV7 := hide (HV.out.below b7)
 cases b with
 | true =>
  have HEm : Hid (EmptyP a.P) := hb.1 rfl
  have HVz := HV7
  clear hb b7
  have lv := run_ldFa HVz.out
  have HXn := hide (HXf.out.below HB7.out)
  have tn := run_stFa (m' := mkF (fc0)) HXn.out
  have HE := hide (give_facts (w := w) (f := fc0) (er := 0) (RuD L p.P r ln ct 4 s q a.P) HXn.out (fc0_ok _) (fc0_new _) (HBK.out.trans (HB7.out.mono HBK.out.size)) (by have := HG.out; omega) (.inr (.inr (.inr (.inl ⟨rfl, ⟨rfl, .inl ⟨HEm.out, fc0_no⟩⟩⟩)))))
  go_wp2_with fail
  refine bodyPost_ret (res2Fa rfl rfl rfl HE.out.1) rfl ?_
  exact HE.out.2
 | false =>
  have HEm : Hid (¬ EmptyP a.P) := fun h => by have := hb.2 h; cases this
  clear hb b7
  go_wp2_with fail
  have HD7 := hide (HB7.out.trans ((below_drew1 w7).mono HB7.out.size))
  have HVd := hide (HV7.out.below (below_drew1 w7))
  refine wp_region_held_drew (S := fun v => v.cell? ⟨G + 2, 1, none⟩ = some (.string s) ∧ (ldP (.pointer (some ⟨G + 2, 3, none⟩))).run Tryz.prog v = .ok (PV a) v) (by kernel_rfl) (⟨(HXa.out.below HD7.out).k.2.1, run_ldP (HXa.out.below HD7.out).past⟩) (fun hHeld => ?_)
  refine wTk 0 ⟨some 144, .fieldAddr 30 (.tmp 9) 1, 0, "ref.go:176", #[], none⟩ rfl ?_
  refine wTk 1 ⟨some 145, .load 9 (.tmp 144), 9, "ref.go:176", #[⟨0, .data⟩], none⟩ rfl ?_
  refine wTk 2 ⟨some 146, .fieldAddr 30 (.tmp 9) 3, 0, "ref.go:176", #[], none⟩ rfl ?_
  refine wTk 3 ⟨some 147, .load 26 (.tmp 146), 26, "ref.go:176", #[⟨2, .data⟩], none⟩ rfl ?_
  refine wpAnyH_ready (rs := [4]) (by kernel_rfl) (by simp) (.cons rfl (fun K hK => ?_) .nil)
  go_simp
  go_wp2_with fail
  refine (refNorm_any a _ (HA.out.below HD7.out)).mono ?_
  rintro e w8 ⟨pn, rfl, S8, n8, b8, C8⟩
  have HB8 := hide (HD7.out.trans (b8.mono HD7.out.size))
  have hok : RcOk w8 ⟨s, pn⟩ := ⟨S8, HSs.out⟩
  obtain ⟨g9, hg9⟩ : ∃ g9, w8.heap.size = g9 := ⟨_, rfl⟩
  have hSk := rcs_lit w8 65 (ReC (mkR ⟨s, pn⟩)) [⟨s, pn⟩] rfl g9 1 hg9 rfl (by decide) (by intro r hr; simp at hr; rw [hr]; exact hok)
  have b9 := below_new w8 (.cells (ReC (mkR ⟨s, pn⟩)) 65)
  obtain ⟨w9, hw9⟩ : ∃ w9, w8.alloc (.cells (ReC (mkR ⟨s, pn⟩)) 65) = w9 := ⟨_, rfl⟩
  rw [hw9] at hSk b9
  have HB9 := hide (HB8.out.trans (b9.mono HB8.out.size))
  have X9 := (HVd.out.below b8).below b9
  have c9 : w9.cell? ⟨g5, 3, none⟩ = some (.slice none 0 0) := X9.c3
  have z9 := X9.fz 3
  have HV9 := hide (X9.set3 (f := fc0) (some ⟨g9, 0, none⟩) 1 1 [⟨s, pn⟩])
  have ch9 := Ch.set w9 g5 3 (.slice (some ⟨g9, 0, none⟩) 1 1)
  have hl7 : g5 < w8.heap.size := (HVd.out.below b8).lt
  have hl8 : g5 < w7.drew.heap.size := HVd.out.lt
  have HSk := hide (rcs_off hSk (fun ad h => ch9.oth _ (by cases h; show g9 ≠ g5; omega)) (fun r hr => by simp at hr; rw [hr]; exact ⟨psrc_off (hok.1.below b9) (fun ad h => ch9.oth _ (by have := n8.1 ad h; omega)) (fun ad h => ch9.oth _ (by have := n8.2 ad h; omega)), hok.2⟩))
  have HNr : Hid (FNew (g5 + 1) (fcR (some ⟨g9, 0, none⟩) 1 1 [⟨s, pn⟩])) := ⟨fun ad e => (by cases e), pnew_zero _, fun ad e => (by cases e; show g5 + 1 ≤ g9; omega), fun c hc => by simp [fcR] at hc; rw [hc]; exact n8.mono (by omega)⟩
  have HCn := hide C8
  have HBz := hide (ch9.low wk.heap.size wk Hg5.out.1 HB9.out)
  have bldr := run_bldRp s pn
  refine hK.out _ _ ⟨(HXa.out.below HB8.out).k.2.1, run_ldP (HXa.out.below HB8.out).past⟩ (fun hHeld => ?_)
  clear hK K
  refine wTk 5 ⟨some 149, .build 65 #[(0, .tmp 145), (1, .tmp 148)], 65, "ref.go:176", #[⟨1, .data⟩, ⟨4, .data⟩], none⟩ rfl ?_
  have bsr := run_bsR ⟨s, pn⟩ w8
  rw [hw9, hg9] at bsr
  refine wpAnyH_ready (rs := [6]) (by kernel_rfl) (by simp) (.cons rfl (fun K hK => ?_) .nil)
  go_simp
  refine hK.out _ _ ⟨(HXa.out.below HB9.out).k.2.1, run_ldP (HXa.out.below HB9.out).past⟩ (fun hHeld => ?_)
  clear hK K
  refine wTk 7 ⟨some 151, .fieldAddr 36 (.tmp 13) 2, 0, "ref.go:176", #[⟨0, .phase⟩, ⟨1, .phase⟩, ⟨2, .phase⟩, ⟨3, .phase⟩, ⟨4, .phase⟩, ⟨5, .phase⟩, ⟨6, .phase⟩], none⟩ rfl ?_
  refine wpAnyH_ready (rs := [8]) (by kernel_rfl) (by simp) (.cons rfl (fun K hK => ?_) .nil)
  go_simp
  refine hK.out _ _ ?_ (fun hHeld => ?_)
  ·have hbz := HBz
   exact ⟨(HXa.out.below hbz.out).k.2.1, run_ldP (HXa.out.below hbz.out).past⟩
  clear hK K
  refine wpAnyH_done (by kernel_rfl) ?_ _
  clear hHeld
  clear S8 n8 b8 C8 hok hSk b9 X9 ch9 hl7 hl8 bldr bsr
  have HVz : Hid (FaBox (w9.setCell ⟨g5, 3, none⟩ (.slice (some ⟨g9, 0, none⟩) 1 1)) g5 (mkF (fcR (some ⟨g9, 0, none⟩) 1 1 [⟨s, pn⟩]))) := HV9
  have lv := run_ldFa HVz.out
  have HXn := hide (HXf.out.below HBz.out)
  have tn := run_stFa (m' := mkF (fcR (some ⟨g9, 0, none⟩) 1 1 [⟨s, pn⟩])) HXn.out
  have HE := hide (give_facts (w := w) (f := fcR (some ⟨g9, 0, none⟩) 1 1 [⟨s, pn⟩]) (er := 0) (RuD L p.P r ln ct 4 s q a.P) HXn.out ⟨esrc_none _, PSrc.zero _, HSk.out⟩ (HNr.out.mono (by have := Hg5.out; omega)) (HBK.out.trans (HBz.out.mono HBK.out.size)) (by have := HG.out; omega) (.inr (.inr (.inr (.inl ⟨rfl, ⟨rfl, .inr ⟨HEm.out, rfl, rfl, ⟨s, pn⟩, rfl, rfl, HCn.out⟩⟩⟩)))))
  go_wp2_with fail
  refine bodyPost_ret (res2Fa rfl rfl rfl HE.out.1) rfl ?_
  exact HE.out.2
set_option maxRecDepth 100000 in
set_option maxHeartbeats 6400000 in
theorem refDec_5 (ao : Option Addr) (n c : Nat) (L : List K.En) (p : Pv) (r ln ct : Int) (s : ByteArray) (q : Int) (a : Pv) (w : World) (hS : K.ESrc w ao n c L) (hP : PSrc w p) (hA : PSrc w a) (hs : s.size ≤ maxLen) (hSn : SeenAll L p.P) (hR : RepOk r) (hLm : LimOk ln ct) (hk : AckOf 5 a.P s q 0) : Calls Tryz.prog 7 #[.slice ao n c, PV p, .int .i64 r, LmV ⟨ln, ct⟩, AcV (mkA 5 s q a)] w fun e w' => DeA w w' e (RuD L p.P r ln ct 5 s q a.P) := by
 obtain ⟨wk, hwk⟩ : ∃ wk, (((w.alloc (.cells (PC p) 26)).alloc (.cells (LmC ⟨ln, ct⟩) 28)).alloc (.cells (AcC (mkA 5 s q a)) 30)).alloc (.cells (FaC (mkF fc0)) 36) = wk := ⟨_, rfl⟩
 obtain ⟨X1, X2, X3, X4, hb, hS', hP', hA'⟩ := dec_pre ao n c L p ln ct 5 s q a w hS hP hA hwk
 obtain ⟨G, hG⟩ : ∃ G, w.heap.size = G := ⟨_, rfl⟩
 rw [hG] at X1 X2 X3 X4
 have HX := hide X1
 have HXl := hide X2
 have HXa := hide X3
 have HXf := hide X4
 have HBK := hide hb
 have HS := hide hS'
 have HP := hide hP'
 have HA := hide hA'
 have HG := hide hG
 have HSs := hide hs
 have HLn : Hid (L.length = n) := hS.1
 clear X1 X2 X3 X4 hb hS' hP' hA' hS hP hA hs
 have HOk := hide ((ok_chk HLn.out).1 hSn.1)
 have HC := hide hSn.1
 have HI := hide hSn.2.1
 have HSn := hide hSn
 clear hSn
 have HR := hide hR
 have HLm := hide hLm
 have HAk := hide hk
 clear hR hLm hk
 go_enter Tryz.func7, Tryz.ntmps7
 go_wp2_with fail
 clear hwk hG
 have HD0 := hide (below_drew1 wk)
 refine wp_region_held_drew (S := fun v => (ldP (.pointer (some ⟨G, 0, none⟩))).run Tryz.prog v = .ok (PV p) v) (by kernel_rfl) (run_ldP (HX.out.below HD0.out).at) (fun hHeld => ?_)
 refine wTk 0 ⟨some 17, .move (.tmp 0), 22, "ref.go:136", #[], none⟩ rfl ?_
 refine wpAnyH_ready (rs := [1]) (by kernel_rfl) (by simp) (.cons rfl (fun K hK => ?_) .nil)
 go_simp
 go_wp2_with fail
 refine (refEntries8_any ao n c L _ (HS.out.below HD0.out)).mono ?_
 rintro e w1 ⟨rfl, b1⟩
 rw [HOk.out]
 have HB1 := hide (HD0.out.trans (b1.mono HD0.out.size))
 refine hK.out _ _ (run_ldP (HX.out.below HB1.out).at) (fun hHeld => ?_)
 clear hK K b1
 refine wTk 2 ⟨some 19, .unOp .not 4 (.tmp 18), 4, "ref.go:136", #[⟨1, .data⟩], none⟩ rfl ?_
 refine wTk 3 ⟨some 20, .move (.tmp 19), 4, "ref.go:136", #[⟨2, .data⟩, ⟨1, .chain⟩], none⟩ rfl ?_
 refine wTk 4 ⟨some 21, .load 26 (.tmp 6), 26, "ref.go:136", #[⟨3, .guard⟩], some (3, false)⟩ rfl ?_
 refine wpAnyH_ready (rs := [5]) (by kernel_rfl) (by simp) (.cons rfl (fun K hK => ?_) .nil)
 go_simp
 go_wp2_with fail
 refine (refIsNorm_any p _ (HP.out.below HB1.out)).mono ?_
 rintro e w2 ⟨b, rfl, hb, b2⟩
 obtain rfl : b = true := by
  exact hb.out.2 HI.out
 have HB2 := hide (HB1.out.trans (b2.mono HB1.out.size))
 refine hK.out _ _ (run_ldP (HX.out.below HB2.out).at) (fun hHeld => ?_)
 clear hK K hb b2
 refine wTk 6 ⟨some 23, .unOp .not 4 (.tmp 22), 4, "ref.go:136", #[⟨5, .data⟩, ⟨3, .guard⟩], some (3, false)⟩ rfl ?_
 refine wTk 7 ⟨some 24, .pick (.tmp 20) (.const (.bool true)) (.tmp 23), 4, "ref.go:136", #[⟨3, .data⟩, ⟨6, .data⟩], none⟩ rfl ?_
 refine wTk 8 ⟨some 25, .move (.tmp 24), 4, "ref.go:136", #[⟨7, .data⟩, ⟨5, .chain⟩], none⟩ rfl ?_
 refine wTk 9 ⟨some 26, .move (.tmp 0), 22, "ref.go:136", #[⟨8, .guard⟩], some (8, false)⟩ rfl ?_
 refine wTk 11 ⟨some 28, .load 26 (.tmp 6), 26, "ref.go:136", #[⟨8, .guard⟩], some (8, false)⟩ rfl ?_
 refine wpAnyH_ready (rs := [10]) (by kernel_rfl) (by simp) (.cons rfl (fun K hK => ?_) .nil)
 go_simp
 go_wp2_with fail
 refine (refDots8_any ao n c L ⟨#[]⟩ (-1) _ (HS.out.below HB2.out)).mono ?_
 rw [ds_all]
 rintro e w3 ⟨p1, rfl, S3, n3, b3, C3⟩
 have HB3 := hide (HB2.out.trans (b3.mono HB2.out.size))
 have HS3 := hide S3
 have HC3 := hide C3
 refine hK.out _ _ (run_ldP (HX.out.below HB3.out).at) (fun hHeld => ?_)
 clear hK K b3 S3 n3 C3
 refine wpAnyH_ready (rs := [12]) (by kernel_rfl) (by simp) (.cons rfl (fun K hK => ?_) .nil)
 go_simp
 go_wp2_with fail
 refine (refWithin_any p1 p _ HS3.out (HP.out.below HB3.out)).mono ?_
 rintro e w4 ⟨b, rfl, hb, b4⟩
 obtain rfl : b = true := by
  exact hb.2 ((within_seen HC.out HC3.out).2 HSn.out.2.2)
 have HB4 := hide (HB3.out.trans (b4.mono HB3.out.size))
 refine hK.out _ _ (run_ldP (HX.out.below HB4.out).at) (fun hHeld => ?_)
 clear hK K hb b4 HC3 HS3
 refine wTk 13 ⟨some 30, .unOp .not 4 (.tmp 29), 4, "ref.go:136", #[⟨12, .data⟩, ⟨8, .guard⟩], some (8, false)⟩ rfl ?_
 refine wTk 14 ⟨some 31, .pick (.tmp 25) (.const (.bool true)) (.tmp 30), 4, "ref.go:136", #[⟨8, .data⟩, ⟨13, .data⟩], none⟩ rfl ?_
 refine wpAnyH_done (by kernel_rfl) ?_ _
 clear hHeld
 have hr1 : ¬ r < 0 := by have := HR.out.1; omega
 have hr2 : ¬ 16 ≤ r := by have := HR.out.2; omega
 have m1 := (HXl.out.below HB4.out).c0
 have m2 := (HXl.out.below HB4.out).c1
 dsimp only at m1 m2
 have hl1 : ¬ ln < 1 := by have := HLm.out.1; omega
 have hl2 : ¬ 1000 < ln := by have := HLm.out.2.1; omega
 have hl3 : ¬ ct < 1 := by have := HLm.out.2.2.1; omega
 have hl4 : ¬ 1000000000 < ct := by have := HLm.out.2.2.2; omega
 have la := run_ldAc (HXa.out.below HB4.out)
 go_wp2_with fail
 clear la m1 m2 hl1 hl2 hl3 hl4 hr1 hr2
 refine (refActCheck_any 5 s q a _ (HA.out.below HB4.out) HSs.out).mono ?_
 rintro e w5 ⟨z, rfl, hz, b5⟩
 obtain rfl : z = 0 := hz.unique HAk.out
 have HB5 := hide (HB4.out.trans (b5.mono HB4.out.size))
 clear hz b5
 have b6 := below_new w5 (.cells (FaC (mkF fc0)) 36)
 have X6 := FaBox_new w5 (mkF fc0)
 obtain ⟨w6, hw6⟩ : ∃ w6, w5.alloc (.cells (FaC (mkF fc0)) 36) = w6 := ⟨_, rfl⟩
 obtain ⟨g5, hg5⟩ : ∃ g5, w5.heap.size = g5 := ⟨_, rfl⟩
 rw [hw6] at b6 X6
 rw [hg5] at X6
 have HV := hide X6
 have HB6 := hide (HB5.out.trans (b6.mono HB5.out.size))
 have Hg5 : Hid (wk.heap.size ≤ g5 ∧ G + 3 < g5) := ⟨by have := HB5.out.size; omega, by have := (HXf.out.below HB5.out).lt; omega⟩
 clear b6 X6
 obtain ⟨k0, k1, k2⟩ := (HXa.out.below HB6.out).k
 go_wp2_with fail
 clear hw6 hg5 k0 k1 k2
 refine (refDots8_any ao n c L ⟨#[]⟩ (-1) _ (HS.out.below HB6.out)).mono ?_
 rw [ds_all]
 rintro e wd ⟨pg, rfl, Sd, nd, bd, Cd⟩
 have HBd := hide (HB6.out.trans (bd.mono HB6.out.size))
 obtain ⟨w7, hstp, Xp, chp⟩ := run_stPF pg (HV.out.below bd)
 have HVp := hide Xp
 have hg5lt : g5 < w6.heap.size := HV.out.lt
 have HSp := hide (psrc_off Sd (fun ad h => chp.oth _ (by have := nd.1 ad h; omega)) (fun ad h => chp.oth _ (by have := nd.2 ad h; omega)))
 have HNp : Hid (PNew (g5 + 1) pg) := nd.mono (by omega)
 have HCp := hide Cd
 have HBp := hide (chp.low wk.heap.size wk Hg5.out.1 HBd.out)
 clear Sd nd bd Cd Xp chp hg5lt HBd
 have HVz : Hid (FaBox w7 g5 (mkF (fcG none 0 0 [] pg))) := HVp
 have lv := run_ldFa HVz.out
 have HXn := hide (HXf.out.below HBp.out)
 have tn := run_stFa (m' := mkF (fcG none 0 0 [] pg)) HXn.out
 have HE := hide (give_facts (w := w) (f := fcG none 0 0 [] pg) (er := 0) (RuD L p.P r ln ct 5 s q a.P) HXn.out ⟨esrc_none _, HSp.out, RcS.empty _⟩ ⟨fun ad e => (by cases e), HNp.out.mono (by have := Hg5.out; omega), fun ad e => (by cases e), fun c hc => (by cases hc)⟩ (HBK.out.trans (HBp.out.mono HBK.out.size)) (by have := HG.out; omega) (.inr (.inr (.inr (.inr (.inl ⟨rfl, ⟨rfl, rfl, HCp.out, rfl⟩⟩))))))
 go_wp2_with fail
 refine bodyPost_ret (res2Fa rfl rfl rfl HE.out.1) rfl ?_
 exact HE.out.2
set_option maxRecDepth 100000 in
set_option maxHeartbeats 6400000 in
theorem refDec_6 (ao : Option Addr) (n c : Nat) (L : List K.En) (p : Pv) (r ln ct : Int) (s : ByteArray) (q : Int) (a : Pv) (w : World) (hS : K.ESrc w ao n c L) (hP : PSrc w p) (hA : PSrc w a) (hs : s.size ≤ maxLen) (hSn : SeenAll L p.P) (hR : RepOk r) (hLm : LimOk ln ct) (hk : AckOf 6 a.P s q 0) : Calls Tryz.prog 7 #[.slice ao n c, PV p, .int .i64 r, LmV ⟨ln, ct⟩, AcV (mkA 6 s q a)] w fun e w' => DeA w w' e (RuD L p.P r ln ct 6 s q a.P) := by
 obtain ⟨wk, hwk⟩ : ∃ wk, (((w.alloc (.cells (PC p) 26)).alloc (.cells (LmC ⟨ln, ct⟩) 28)).alloc (.cells (AcC (mkA 6 s q a)) 30)).alloc (.cells (FaC (mkF fc0)) 36) = wk := ⟨_, rfl⟩
 obtain ⟨X1, X2, X3, X4, hb, hS', hP', hA'⟩ := dec_pre ao n c L p ln ct 6 s q a w hS hP hA hwk
 obtain ⟨G, hG⟩ : ∃ G, w.heap.size = G := ⟨_, rfl⟩
 rw [hG] at X1 X2 X3 X4
 have HX := hide X1
 have HXl := hide X2
 have HXa := hide X3
 have HXf := hide X4
 have HBK := hide hb
 have HS := hide hS'
 have HP := hide hP'
 have HA := hide hA'
 have HG := hide hG
 have HSs := hide hs
 have HLn : Hid (L.length = n) := hS.1
 clear X1 X2 X3 X4 hb hS' hP' hA' hS hP hA hs
 have HOk := hide ((ok_chk HLn.out).1 hSn.1)
 have HC := hide hSn.1
 have HI := hide hSn.2.1
 have HSn := hide hSn
 clear hSn
 have HR := hide hR
 have HLm := hide hLm
 have HAk := hide hk
 clear hR hLm hk
 go_enter Tryz.func7, Tryz.ntmps7
 go_wp2_with fail
 clear hwk hG
 have HD0 := hide (below_drew1 wk)
 refine wp_region_held_drew (S := fun v => (ldP (.pointer (some ⟨G, 0, none⟩))).run Tryz.prog v = .ok (PV p) v) (by kernel_rfl) (run_ldP (HX.out.below HD0.out).at) (fun hHeld => ?_)
 refine wTk 0 ⟨some 17, .move (.tmp 0), 22, "ref.go:136", #[], none⟩ rfl ?_
 refine wpAnyH_ready (rs := [1]) (by kernel_rfl) (by simp) (.cons rfl (fun K hK => ?_) .nil)
 go_simp
 go_wp2_with fail
 refine (refEntries8_any ao n c L _ (HS.out.below HD0.out)).mono ?_
 rintro e w1 ⟨rfl, b1⟩
 rw [HOk.out]
 have HB1 := hide (HD0.out.trans (b1.mono HD0.out.size))
 refine hK.out _ _ (run_ldP (HX.out.below HB1.out).at) (fun hHeld => ?_)
 clear hK K b1
 refine wTk 2 ⟨some 19, .unOp .not 4 (.tmp 18), 4, "ref.go:136", #[⟨1, .data⟩], none⟩ rfl ?_
 refine wTk 3 ⟨some 20, .move (.tmp 19), 4, "ref.go:136", #[⟨2, .data⟩, ⟨1, .chain⟩], none⟩ rfl ?_
 refine wTk 4 ⟨some 21, .load 26 (.tmp 6), 26, "ref.go:136", #[⟨3, .guard⟩], some (3, false)⟩ rfl ?_
 refine wpAnyH_ready (rs := [5]) (by kernel_rfl) (by simp) (.cons rfl (fun K hK => ?_) .nil)
 go_simp
 go_wp2_with fail
 refine (refIsNorm_any p _ (HP.out.below HB1.out)).mono ?_
 rintro e w2 ⟨b, rfl, hb, b2⟩
 obtain rfl : b = true := by
  exact hb.out.2 HI.out
 have HB2 := hide (HB1.out.trans (b2.mono HB1.out.size))
 refine hK.out _ _ (run_ldP (HX.out.below HB2.out).at) (fun hHeld => ?_)
 clear hK K hb b2
 refine wTk 6 ⟨some 23, .unOp .not 4 (.tmp 22), 4, "ref.go:136", #[⟨5, .data⟩, ⟨3, .guard⟩], some (3, false)⟩ rfl ?_
 refine wTk 7 ⟨some 24, .pick (.tmp 20) (.const (.bool true)) (.tmp 23), 4, "ref.go:136", #[⟨3, .data⟩, ⟨6, .data⟩], none⟩ rfl ?_
 refine wTk 8 ⟨some 25, .move (.tmp 24), 4, "ref.go:136", #[⟨7, .data⟩, ⟨5, .chain⟩], none⟩ rfl ?_
 refine wTk 9 ⟨some 26, .move (.tmp 0), 22, "ref.go:136", #[⟨8, .guard⟩], some (8, false)⟩ rfl ?_
 refine wTk 11 ⟨some 28, .load 26 (.tmp 6), 26, "ref.go:136", #[⟨8, .guard⟩], some (8, false)⟩ rfl ?_
 refine wpAnyH_ready (rs := [10]) (by kernel_rfl) (by simp) (.cons rfl (fun K hK => ?_) .nil)
 go_simp
 go_wp2_with fail
 refine (refDots8_any ao n c L ⟨#[]⟩ (-1) _ (HS.out.below HB2.out)).mono ?_
 rw [ds_all]
 rintro e w3 ⟨p1, rfl, S3, n3, b3, C3⟩
 have HB3 := hide (HB2.out.trans (b3.mono HB2.out.size))
 have HS3 := hide S3
 have HC3 := hide C3
 refine hK.out _ _ (run_ldP (HX.out.below HB3.out).at) (fun hHeld => ?_)
 clear hK K b3 S3 n3 C3
 refine wpAnyH_ready (rs := [12]) (by kernel_rfl) (by simp) (.cons rfl (fun K hK => ?_) .nil)
 go_simp
 go_wp2_with fail
 refine (refWithin_any p1 p _ HS3.out (HP.out.below HB3.out)).mono ?_
 rintro e w4 ⟨b, rfl, hb, b4⟩
 obtain rfl : b = true := by
  exact hb.2 ((within_seen HC.out HC3.out).2 HSn.out.2.2)
 have HB4 := hide (HB3.out.trans (b4.mono HB3.out.size))
 refine hK.out _ _ (run_ldP (HX.out.below HB4.out).at) (fun hHeld => ?_)
 clear hK K hb b4 HC3 HS3
 refine wTk 13 ⟨some 30, .unOp .not 4 (.tmp 29), 4, "ref.go:136", #[⟨12, .data⟩, ⟨8, .guard⟩], some (8, false)⟩ rfl ?_
 refine wTk 14 ⟨some 31, .pick (.tmp 25) (.const (.bool true)) (.tmp 30), 4, "ref.go:136", #[⟨8, .data⟩, ⟨13, .data⟩], none⟩ rfl ?_
 refine wpAnyH_done (by kernel_rfl) ?_ _
 clear hHeld
 have hr1 : ¬ r < 0 := by have := HR.out.1; omega
 have hr2 : ¬ 16 ≤ r := by have := HR.out.2; omega
 have m1 := (HXl.out.below HB4.out).c0
 have m2 := (HXl.out.below HB4.out).c1
 dsimp only at m1 m2
 have hl1 : ¬ ln < 1 := by have := HLm.out.1; omega
 have hl2 : ¬ 1000 < ln := by have := HLm.out.2.1; omega
 have hl3 : ¬ ct < 1 := by have := HLm.out.2.2.1; omega
 have hl4 : ¬ 1000000000 < ct := by have := HLm.out.2.2.2; omega
 have la := run_ldAc (HXa.out.below HB4.out)
 go_wp2_with fail
 clear la m1 m2 hl1 hl2 hl3 hl4 hr1 hr2
 refine (refActCheck_any 6 s q a _ (HA.out.below HB4.out) HSs.out).mono ?_
 rintro e w5 ⟨z, rfl, hz, b5⟩
 obtain rfl : z = 0 := hz.unique HAk.out
 have HB5 := hide (HB4.out.trans (b5.mono HB4.out.size))
 clear hz b5
 have b6 := below_new w5 (.cells (FaC (mkF fc0)) 36)
 have X6 := FaBox_new w5 (mkF fc0)
 obtain ⟨w6, hw6⟩ : ∃ w6, w5.alloc (.cells (FaC (mkF fc0)) 36) = w6 := ⟨_, rfl⟩
 obtain ⟨g5, hg5⟩ : ∃ g5, w5.heap.size = g5 := ⟨_, rfl⟩
 rw [hw6] at b6 X6
 rw [hg5] at X6
 have HV := hide X6
 have HB6 := hide (HB5.out.trans (b6.mono HB5.out.size))
 have Hg5 : Hid (wk.heap.size ≤ g5 ∧ G + 3 < g5) := ⟨by have := HB5.out.size; omega, by have := (HXf.out.below HB5.out).lt; omega⟩
 clear b6 X6
 obtain ⟨k0, k1, k2⟩ := (HXa.out.below HB6.out).k
 have lpa := run_ldP (HXa.out.below HB6.out).past
 go_wp2_with fail
 clear hw6 hg5 lpa k0 k1 k2
 refine (refEmpty_any a _ (HA.out.below HB6.out)).mono ?_
 rintro e w7 ⟨b, rfl, hb, b7⟩
 have HB7 := hide (HB6.out.trans (b7.mono HB6.out.size))
 have HV7 := hide (HV.out.below b7)
 cases b with
 | true =>
  have HEm : Hid (EmptyP a.P) := hb.1 rfl
  have HVz := HV7
  clear hb b7
  have lv := run_ldFa HVz.out
  have HXn := hide (HXf.out.below HB7.out)
  have tn := run_stFa (m' := mkF (fc0)) HXn.out
  have HE := hide (give_facts (w := w) (f := fc0) (er := 0) (RuD L p.P r ln ct 6 s q a.P) HXn.out (fc0_ok _) (fc0_new _) (HBK.out.trans (HB7.out.mono HBK.out.size)) (by have := HG.out; omega) (.inr (.inr (.inr (.inr (.inr ⟨rfl, ⟨rfl, .inl ⟨HEm.out, fc0_no⟩⟩⟩))))))
  go_wp2_with fail
  refine bodyPost_ret (res2Fa rfl rfl rfl HE.out.1) rfl ?_
  exact HE.out.2
 | false =>
  have HEm : Hid (¬ EmptyP a.P) := fun h => by have := hb.2 h; cases this
  clear hb b7
  have lpa := run_ldP (HXa.out.below HB7.out).past
  go_wp2_with fail
  clear lpa
  refine (refNorm_any a _ (HA.out.below HB7.out)).mono ?_
  rintro e w8 ⟨pn, rfl, S8, n8, b8, C8⟩
  have HB8 := hide (HB7.out.trans (b8.mono HB7.out.size))
  have hok : RcOk w8 ⟨⟨#[]⟩, pn⟩ := ⟨S8, (show (0 : Nat) ≤ maxLen from Nat.zero_le _)⟩
  obtain ⟨g9, hg9⟩ : ∃ g9, w8.heap.size = g9 := ⟨_, rfl⟩
  have hSk := rcs_lit w8 65 (ReC (mkR ⟨⟨#[]⟩, pn⟩)) [⟨⟨#[]⟩, pn⟩] rfl g9 1 hg9 rfl (by decide) (by intro r hr; simp at hr; rw [hr]; exact hok)
  have b9 := below_new w8 (.cells (ReC (mkR ⟨⟨#[]⟩, pn⟩)) 65)
  obtain ⟨w9, hw9⟩ : ∃ w9, w8.alloc (.cells (ReC (mkR ⟨⟨#[]⟩, pn⟩)) 65) = w9 := ⟨_, rfl⟩
  rw [hw9] at hSk b9
  have HB9 := hide (HB8.out.trans (b9.mono HB8.out.size))
  have X9 := (HV7.out.below b8).below b9
  have c9 : w9.cell? ⟨g5, 3, none⟩ = some (.slice none 0 0) := X9.c3
  have z9 := X9.fz 3
  have HV9 := hide (X9.set3 (f := fc0) (some ⟨g9, 0, none⟩) 1 1 [⟨⟨#[]⟩, pn⟩])
  have ch9 := Ch.set w9 g5 3 (.slice (some ⟨g9, 0, none⟩) 1 1)
  have hl7 : g5 < w8.heap.size := (HV7.out.below b8).lt
  have hl8 : g5 < w7.heap.size := HV7.out.lt
  have HSk := hide (rcs_off hSk (fun ad h => ch9.oth _ (by cases h; show g9 ≠ g5; omega)) (fun r hr => by simp at hr; rw [hr]; exact ⟨psrc_off (hok.1.below b9) (fun ad h => ch9.oth _ (by have := n8.1 ad h; omega)) (fun ad h => ch9.oth _ (by have := n8.2 ad h; omega)), hok.2⟩))
  have HNr : Hid (FNew (g5 + 1) (fcR (some ⟨g9, 0, none⟩) 1 1 [⟨⟨#[]⟩, pn⟩])) := ⟨fun ad e => (by cases e), pnew_zero _, fun ad e => (by cases e; show g5 + 1 ≤ g9; omega), fun c hc => by simp [fcR] at hc; rw [hc]; exact n8.mono (by omega)⟩
  have HCn := hide C8
  have HBz := hide (ch9.low wk.heap.size wk Hg5.out.1 HB9.out)
  clear S8 n8 b8 C8 hok hSk b9 X9 ch9 hl7 hl8
  have HVz : Hid (FaBox (w9.setCell ⟨g5, 3, none⟩ (.slice (some ⟨g9, 0, none⟩) 1 1)) g5 (mkF (fcR (some ⟨g9, 0, none⟩) 1 1 [⟨⟨#[]⟩, pn⟩]))) := HV9
  have lv := run_ldFa HVz.out
  have HXn := hide (HXf.out.below HBz.out)
  have tn := run_stFa (m' := mkF (fcR (some ⟨g9, 0, none⟩) 1 1 [⟨⟨#[]⟩, pn⟩])) HXn.out
  have HE := hide (give_facts (w := w) (f := fcR (some ⟨g9, 0, none⟩) 1 1 [⟨⟨#[]⟩, pn⟩]) (er := 0) (RuD L p.P r ln ct 6 s q a.P) HXn.out ⟨esrc_none _, PSrc.zero _, HSk.out⟩ (HNr.out.mono (by have := Hg5.out; omega)) (HBK.out.trans (HBz.out.mono HBK.out.size)) (by have := HG.out; omega) (.inr (.inr (.inr (.inr (.inr ⟨rfl, ⟨rfl, .inr ⟨HEm.out, rfl, rfl, ⟨⟨#[]⟩, pn⟩, rfl, rfl, HCn.out⟩⟩⟩))))))
  go_wp2_with fail
  refine bodyPost_ret (res2Fa rfl rfl rfl HE.out.1) rfl ?_
  exact HE.out.2
end Go.Proofs.YtmbkmpeongodbaaGreat

