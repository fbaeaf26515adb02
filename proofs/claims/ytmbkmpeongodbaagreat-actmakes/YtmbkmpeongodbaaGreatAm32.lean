/- GCk -/
import Derived.Test.YtmbkmpeongodbaaGreatTk
import Derived.Test.YtmbkmpeongodbaaGreatAm28
namespace Go.Proofs.YtmbkmpeongodbaaGreat
open Go.RowKit
attribute [local go_sem ↓] ldP_eq stP_eq ldAc_eq stAc_eq
attribute [local go_sem] cells_PV PC_size cells_AcV AcC_size
set_option maxRecDepth 100000 in
set_option maxHeartbeats 1600000 in
theorem actCheck_no (k : Int) (s : ByteArray) (q : Int) (p : Pv) (w : World) (hS : PSrc w p) (hk : i64ok k) (hb : k < 1 ∨ 6 < k) : Calls Tryz.prog 33 #[AcV (mkA k s q p)] w fun e w' => GivA w w' e k p.P s q := by
 have HA : Hid (AckOf k p.P s q 7) := by obtain ⟨b, hb'⟩ := BIf.ex (InForm p.P); exact ⟨b, hb', by unfold ackF; rw [if_pos hb]⟩
 have HM := hide (ruleM_no hb)
 have HK := hide hk
 have HX := hide (AcBox_new w (mkA k s q p))
 have HBK := hide (below_new w (.cells (AcC (mkA k s q p)) 30))
 have HS := hide (hS.below HBK.out)
 have hn := nil_nil
 have hn2 := func_nil
 clear hS hk hb
 obtain ⟨wk, hwk⟩ : ∃ wk, w.alloc (.cells (AcC (mkA k s q p)) 30) = wk := ⟨_, rfl⟩
 obtain ⟨G, hG⟩ : ∃ G, w.heap.size = G := ⟨_, rfl⟩
 rw [hwk] at HX HBK HS
 rw [hG] at HX
 go_enter Tryz.func33, Tryz.ntmps33
 go_wp2_with fail
 clear hwk
 refine wp_region_held_drew (S := fun v => v.cell? ⟨G, 0, none⟩ = some (.int .i64 k)) (by kernel_rfl) ((HX.out.below (below_drew1 wk)).k.1) (fun hHeld => ?_)
 refine wTk 1 ⟨some 5, .fieldAddr 30 (.tmp 1) 0, 0, "act.go:14", #[], none⟩ rfl ?_
 refine wTk 2 ⟨some 6, .load 3 (.tmp 5), 3, "act.go:14", #[⟨1, .data⟩], none⟩ rfl ?_
 refine wpAnyH_ready (rs := [0]) (by kernel_rfl) (by simp) (.cons rfl (fun K hK => ?_) .nil)
 go_simp
 go_wp2_with fail
 refine (rules_any _).mono ?_
 rintro e w2 ⟨rfl, hM, b2⟩
 have HB2 := hide ((HBK.out.trans ((below_drew1 wk).mono HBK.out.size)).trans (b2.mono HBK.out.size))
 have HX2 := hide ((HX.out.below (below_drew1 wk)).below b2)
 have HS2 := hide ((HS.out.below (below_drew1 wk)).below b2)
 have hl : (Instr.lookup 80 (.map (some wk.heap.size)) (.int .i64 k) false).run Tryz.prog w2 = .ok (.nilFunc) w2 := by have h := hM.look (x := k) HK.out; rw [HM.out] at h; exact h
 refine hK.out _ _ HX2.out.k.1 (fun hHeld => ?_)
 clear hK K hM b2
 refine wpAnyH_ready (rs := [3]) (by kernel_rfl) (by simp) (.cons rfl (fun K hK => ?_) .nil)
 go_simp
 refine hK.out _ _ HX2.out.k.1 (fun hHeld => ?_)
 clear hK K hl
 refine wpAnyH_ready (rs := [4]) (by kernel_rfl) (by simp) (.cons rfl (fun K hK => ?_) .nil)
 go_simp
 refine hK.out _ _ HX2.out.k.1 (fun hHeld => ?_)
 clear hK K
 refine wTk 5 ⟨some 3, .assign (.tmp 8), 4, "act.go:14", #[⟨4, .data⟩, ⟨0, .chain⟩], none⟩ rfl ?_
 refine wpAnyH_done (by kernel_rfl) ?_ _
 clear hHeld
 have hG2 := hG
 go_wp2_with fail
 go_ret
 exact ⟨_, rfl, HA.out, HB2.out⟩
set_option maxRecDepth 100000 in
set_option maxHeartbeats 1600000 in
theorem actCheck_1 (s : ByteArray) (q : Int) (p : Pv) (w : World) (hS : PSrc w p) (hs : s.size ≤ maxLen) : Calls Tryz.prog 33 #[AcV (mkA 1 s q p)] w fun e w' => GivA w w' e 1 p.P s q := by
 have hk : i64ok 1 := ⟨by decide, by decide⟩
 have HSz := hide hs
 have HK := hide hk
 have HX := hide (AcBox_new w (mkA 1 s q p))
 have HBK := hide (below_new w (.cells (AcC (mkA 1 s q p)) 30))
 have HS := hide (hS.below HBK.out)
 have hn := nil_nil
 have hn2 := func_nil
 clear hS hk hs
 obtain ⟨wk, hwk⟩ : ∃ wk, w.alloc (.cells (AcC (mkA 1 s q p)) 30) = wk := ⟨_, rfl⟩
 obtain ⟨G, hG⟩ : ∃ G, w.heap.size = G := ⟨_, rfl⟩
 rw [hwk] at HX HBK HS
 rw [hG] at HX
 go_enter Tryz.func33, Tryz.ntmps33
 go_wp2_with fail
 clear hwk
 refine wp_region_held_drew (S := fun v => v.cell? ⟨G, 0, none⟩ = some (.int .i64 1)) (by kernel_rfl) ((HX.out.below (below_drew1 wk)).k.1) (fun hHeld => ?_)
 refine wTk 1 ⟨some 5, .fieldAddr 30 (.tmp 1) 0, 0, "act.go:14", #[], none⟩ rfl ?_
 refine wTk 2 ⟨some 6, .load 3 (.tmp 5), 3, "act.go:14", #[⟨1, .data⟩], none⟩ rfl ?_
 refine wpAnyH_ready (rs := [0]) (by kernel_rfl) (by simp) (.cons rfl (fun K hK => ?_) .nil)
 go_simp
 go_wp2_with fail
 refine (rules_any _).mono ?_
 rintro e w2 ⟨rfl, hM, b2⟩
 have HB2 := hide ((HBK.out.trans ((below_drew1 wk).mono HBK.out.size)).trans (b2.mono HBK.out.size))
 have HX2 := hide ((HX.out.below (below_drew1 wk)).below b2)
 have HS2 := hide ((HS.out.below (below_drew1 wk)).below b2)
 have hl : (Instr.lookup 80 (.map (some wk.heap.size)) (.int .i64 1) false).run Tryz.prog w2 = .ok (.func (.func 71) #[] #[]) w2 := by have h := hM.look (x := 1) HK.out; rw [show ruleM 1 = some 71 from rfl] at h; exact h
 refine hK.out _ _ HX2.out.k.1 (fun hHeld => ?_)
 clear hK K hM b2
 refine wpAnyH_ready (rs := [3]) (by kernel_rfl) (by simp) (.cons rfl (fun K hK => ?_) .nil)
 go_simp
 refine hK.out _ _ HX2.out.k.1 (fun hHeld => ?_)
 clear hK K hl
 refine wpAnyH_ready (rs := [4]) (by kernel_rfl) (by simp) (.cons rfl (fun K hK => ?_) .nil)
 go_simp
 refine hK.out _ _ HX2.out.k.1 (fun hHeld => ?_)
 clear hK K
 refine wTk 5 ⟨some 3, .assign (.tmp 8), 4, "act.go:14", #[⟨4, .data⟩, ⟨0, .chain⟩], none⟩ rfl ?_
 refine wpAnyH_done (by kernel_rfl) ?_ _
 clear hHeld
 obtain ⟨c00, c10, c20⟩ := HX2.out.k
 have lp0 := run_ldP HX2.out.past
 go_wp2_with fail
 refine (usesPast_any 1 _).mono ?_
 rintro e w' ⟨rfl, rfl⟩
 rw [show (((1 : Int) == 4) || ((1 : Int) == 6)) = false from by decide]
 clear c00 c10 c20 lp0
 obtain ⟨b, hb⟩ := BIf.ex (InForm p.P)
 have HBf := hide hb
 clear hb
 obtain ⟨c01, c11, c21⟩ := HX2.out.k
 have lp1 := run_ldP HX2.out.past
 go_wp2_with fail
 refine (usesSku_any 1 _).mono ?_
 rintro e w' ⟨rfl, rfl⟩
 rw [show (((1 : Int) != 5) && ((1 : Int) != 6)) = true from by decide]
 go_wp2_with fail
 refine (K.good_any s _ HSz.out).mono ?_
 rintro e w' ⟨rfl, rfl⟩
 clear c01 c11 c21 lp1
 cases hg : K.good s.data.toList with
 | false =>
  have HA : Hid (AckOf 1 p.P s q 5) := ⟨b, HBf.out, by unfold ackF; simp [hg]⟩
  go_wp2_with fail
  go_ret
  exact ⟨_, rfl, HA.out, HB2.out⟩
 | true =>
  have HG := hide hg
  clear hg
  obtain ⟨c02, c12, c22⟩ := HX2.out.k
  have lp2 := run_ldP HX2.out.past
  go_wp2_with fail
  refine (usesQty_any 1 _).mono ?_
  rintro e w' ⟨rfl, rfl⟩
  rw [show (((1 : Int) == 1) || ((1 : Int) == 2)) = true from by decide]
  by_cases h1 : q < 1
  ·have HA : Hid (AckOf 1 p.P s q 6) := ⟨b, HBf.out, by unfold ackF; simp [h1, HG.out]⟩
   go_wp2_with fail
   go_ret
   exact ⟨_, rfl, HA.out, HB2.out⟩
  ·by_cases h2 : (1000000 : Int) < q
   ·have HA : Hid (AckOf 1 p.P s q 6) := ⟨b, HBf.out, by unfold ackF; simp [h2, HG.out]⟩
    go_wp2_with fail
    go_ret
    exact ⟨_, rfl, HA.out, HB2.out⟩
   ·have HA : Hid (AckOf 1 p.P s q 0) := ⟨b, HBf.out, by unfold ackF; simp [h1, h2, HG.out]⟩
    go_wp2_with fail
    go_ret
    exact ⟨_, rfl, HA.out, HB2.out⟩
set_option maxRecDepth 100000 in
set_option maxHeartbeats 1600000 in
theorem actCheck_2 (s : ByteArray) (q : Int) (p : Pv) (w : World) (hS : PSrc w p) (hs : s.size ≤ maxLen) : Calls Tryz.prog 33 #[AcV (mkA 2 s q p)] w fun e w' => GivA w w' e 2 p.P s q := by
 have hk : i64ok 2 := ⟨by decide, by decide⟩
 have HSz := hide hs
 have HK := hide hk
 have HX := hide (AcBox_new w (mkA 2 s q p))
 have HBK := hide (below_new w (.cells (AcC (mkA 2 s q p)) 30))
 have HS := hide (hS.below HBK.out)
 have hn := nil_nil
 have hn2 := func_nil
 clear hS hk hs
 obtain ⟨wk, hwk⟩ : ∃ wk, w.alloc (.cells (AcC (mkA 2 s q p)) 30) = wk := ⟨_, rfl⟩
 obtain ⟨G, hG⟩ : ∃ G, w.heap.size = G := ⟨_, rfl⟩
 rw [hwk] at HX HBK HS
 rw [hG] at HX
 go_enter Tryz.func33, Tryz.ntmps33
 go_wp2_with fail
 clear hwk
 refine wp_region_held_drew (S := fun v => v.cell? ⟨G, 0, none⟩ = some (.int .i64 2)) (by kernel_rfl) ((HX.out.below (below_drew1 wk)).k.1) (fun hHeld => ?_)
 refine wTk 1 ⟨some 5, .fieldAddr 30 (.tmp 1) 0, 0, "act.go:14", #[], none⟩ rfl ?_
 refine wTk 2 ⟨some 6, .load 3 (.tmp 5), 3, "act.go:14", #[⟨1, .data⟩], none⟩ rfl ?_
 refine wpAnyH_ready (rs := [0]) (by kernel_rfl) (by simp) (.cons rfl (fun K hK => ?_) .nil)
 go_simp
 go_wp2_with fail
 refine (rules_any _).mono ?_
 rintro e w2 ⟨rfl, hM, b2⟩
 have HB2 := hide ((HBK.out.trans ((below_drew1 wk).mono HBK.out.size)).trans (b2.mono HBK.out.size))
 have HX2 := hide ((HX.out.below (below_drew1 wk)).below b2)
 have HS2 := hide ((HS.out.below (below_drew1 wk)).below b2)
 have hl : (Instr.lookup 80 (.map (some wk.heap.size)) (.int .i64 2) false).run Tryz.prog w2 = .ok (.func (.func 72) #[] #[]) w2 := by have h := hM.look (x := 2) HK.out; rw [show ruleM 2 = some 72 from rfl] at h; exact h
 refine hK.out _ _ HX2.out.k.1 (fun hHeld => ?_)
 clear hK K hM b2
 refine wpAnyH_ready (rs := [3]) (by kernel_rfl) (by simp) (.cons rfl (fun K hK => ?_) .nil)
 go_simp
 refine hK.out _ _ HX2.out.k.1 (fun hHeld => ?_)
 clear hK K hl
 refine wpAnyH_ready (rs := [4]) (by kernel_rfl) (by simp) (.cons rfl (fun K hK => ?_) .nil)
 go_simp
 refine hK.out _ _ HX2.out.k.1 (fun hHeld => ?_)
 clear hK K
 refine wTk 5 ⟨some 3, .assign (.tmp 8), 4, "act.go:14", #[⟨4, .data⟩, ⟨0, .chain⟩], none⟩ rfl ?_
 refine wpAnyH_done (by kernel_rfl) ?_ _
 clear hHeld
 obtain ⟨c00, c10, c20⟩ := HX2.out.k
 have lp0 := run_ldP HX2.out.past
 go_wp2_with fail
 refine (usesPast_any 2 _).mono ?_
 rintro e w' ⟨rfl, rfl⟩
 rw [show (((2 : Int) == 4) || ((2 : Int) == 6)) = false from by decide]
 clear c00 c10 c20 lp0
 obtain ⟨b, hb⟩ := BIf.ex (InForm p.P)
 have HBf := hide hb
 clear hb
 obtain ⟨c01, c11, c21⟩ := HX2.out.k
 have lp1 := run_ldP HX2.out.past
 go_wp2_with fail
 refine (usesSku_any 2 _).mono ?_
 rintro e w' ⟨rfl, rfl⟩
 rw [show (((2 : Int) != 5) && ((2 : Int) != 6)) = true from by decide]
 go_wp2_with fail
 refine (K.good_any s _ HSz.out).mono ?_
 rintro e w' ⟨rfl, rfl⟩
 clear c01 c11 c21 lp1
 cases hg : K.good s.data.toList with
 | false =>
  have HA : Hid (AckOf 2 p.P s q 5) := ⟨b, HBf.out, by unfold ackF; simp [hg]⟩
  go_wp2_with fail
  go_ret
  exact ⟨_, rfl, HA.out, HB2.out⟩
 | true =>
  have HG := hide hg
  clear hg
  obtain ⟨c02, c12, c22⟩ := HX2.out.k
  have lp2 := run_ldP HX2.out.past
  go_wp2_with fail
  refine (usesQty_any 2 _).mono ?_
  rintro e w' ⟨rfl, rfl⟩
  rw [show (((2 : Int) == 1) || ((2 : Int) == 2)) = true from by decide]
  by_cases h1 : q < 1
  ·have HA : Hid (AckOf 2 p.P s q 6) := ⟨b, HBf.out, by unfold ackF; simp [h1, HG.out]⟩
   go_wp2_with fail
   go_ret
   exact ⟨_, rfl, HA.out, HB2.out⟩
  ·by_cases h2 : (1000000 : Int) < q
   ·have HA : Hid (AckOf 2 p.P s q 6) := ⟨b, HBf.out, by unfold ackF; simp [h2, HG.out]⟩
    go_wp2_with fail
    go_ret
    exact ⟨_, rfl, HA.out, HB2.out⟩
   ·have HA : Hid (AckOf 2 p.P s q 0) := ⟨b, HBf.out, by unfold ackF; simp [h1, h2, HG.out]⟩
    go_wp2_with fail
    go_ret
    exact ⟨_, rfl, HA.out, HB2.out⟩
set_option maxRecDepth 100000 in
set_option maxHeartbeats 1600000 in
theorem actCheck_3 (s : ByteArray) (q : Int) (p : Pv) (w : World) (hS : PSrc w p) (hs : s.size ≤ maxLen) : Calls Tryz.prog 33 #[AcV (mkA 3 s q p)] w fun e w' => GivA w w' e 3 p.P s q := by
 have hk : i64ok 3 := ⟨by decide, by decide⟩
 have HSz := hide hs
 have HK := hide hk
 have HX := hide (AcBox_new w (mkA 3 s q p))
 have HBK := hide (below_new w (.cells (AcC (mkA 3 s q p)) 30))
 have HS := hide (hS.below HBK.out)
 have hn := nil_nil
 have hn2 := func_nil
 clear hS hk hs
 obtain ⟨wk, hwk⟩ : ∃ wk, w.alloc (.cells (AcC (mkA 3 s q p)) 30) = wk := ⟨_, rfl⟩
 obtain ⟨G, hG⟩ : ∃ G, w.heap.size = G := ⟨_, rfl⟩
 rw [hwk] at HX HBK HS
 rw [hG] at HX
 go_enter Tryz.func33, Tryz.ntmps33
 go_wp2_with fail
 clear hwk
 refine wp_region_held_drew (S := fun v => v.cell? ⟨G, 0, none⟩ = some (.int .i64 3)) (by kernel_rfl) ((HX.out.below (below_drew1 wk)).k.1) (fun hHeld => ?_)
 refine wTk 1 ⟨some 5, .fieldAddr 30 (.tmp 1) 0, 0, "act.go:14", #[], none⟩ rfl ?_
 refine wTk 2 ⟨some 6, .load 3 (.tmp 5), 3, "act.go:14", #[⟨1, .data⟩], none⟩ rfl ?_
 refine wpAnyH_ready (rs := [0]) (by kernel_rfl) (by simp) (.cons rfl (fun K hK => ?_) .nil)
 go_simp
 go_wp2_with fail
 refine (rules_any _).mono ?_
 rintro e w2 ⟨rfl, hM, b2⟩
 have HB2 := hide ((HBK.out.trans ((below_drew1 wk).mono HBK.out.size)).trans (b2.mono HBK.out.size))
 have HX2 := hide ((HX.out.below (below_drew1 wk)).below b2)
 have HS2 := hide ((HS.out.below (below_drew1 wk)).below b2)
 have hl : (Instr.lookup 80 (.map (some wk.heap.size)) (.int .i64 3) false).run Tryz.prog w2 = .ok (.func (.func 73) #[] #[]) w2 := by have h := hM.look (x := 3) HK.out; rw [show ruleM 3 = some 73 from rfl] at h; exact h
 refine hK.out _ _ HX2.out.k.1 (fun hHeld => ?_)
 clear hK K hM b2
 refine wpAnyH_ready (rs := [3]) (by kernel_rfl) (by simp) (.cons rfl (fun K hK => ?_) .nil)
 go_simp
 refine hK.out _ _ HX2.out.k.1 (fun hHeld => ?_)
 clear hK K hl
 refine wpAnyH_ready (rs := [4]) (by kernel_rfl) (by simp) (.cons rfl (fun K hK => ?_) .nil)
 go_simp
 refine hK.out _ _ HX2.out.k.1 (fun hHeld => ?_)
 clear hK K
 refine wTk 5 ⟨some 3, .assign (.tmp 8), 4, "act.go:14", #[⟨4, .data⟩, ⟨0, .chain⟩], none⟩ rfl ?_
 refine wpAnyH_done (by kernel_rfl) ?_ _
 clear hHeld
 obtain ⟨c00, c10, c20⟩ := HX2.out.k
 have lp0 := run_ldP HX2.out.past
 go_wp2_with fail
 refine (usesPast_any 3 _).mono ?_
 rintro e w' ⟨rfl, rfl⟩
 rw [show (((3 : Int) == 4) || ((3 : Int) == 6)) = false from by decide]
 clear c00 c10 c20 lp0
 obtain ⟨b, hb⟩ := BIf.ex (InForm p.P)
 have HBf := hide hb
 clear hb
 obtain ⟨c01, c11, c21⟩ := HX2.out.k
 have lp1 := run_ldP HX2.out.past
 go_wp2_with fail
 refine (usesSku_any 3 _).mono ?_
 rintro e w' ⟨rfl, rfl⟩
 rw [show (((3 : Int) != 5) && ((3 : Int) != 6)) = true from by decide]
 go_wp2_with fail
 refine (K.good_any s _ HSz.out).mono ?_
 rintro e w' ⟨rfl, rfl⟩
 clear c01 c11 c21 lp1
 cases hg : K.good s.data.toList with
 | false =>
  have HA : Hid (AckOf 3 p.P s q 5) := ⟨b, HBf.out, by unfold ackF; simp [hg]⟩
  go_wp2_with fail
  go_ret
  exact ⟨_, rfl, HA.out, HB2.out⟩
 | true =>
  have HG := hide hg
  clear hg
  obtain ⟨c02, c12, c22⟩ := HX2.out.k
  have lp2 := run_ldP HX2.out.past
  go_wp2_with fail
  refine (usesQty_any 3 _).mono ?_
  rintro e w' ⟨rfl, rfl⟩
  rw [show (((3 : Int) == 1) || ((3 : Int) == 2)) = false from by decide]
  have HA : Hid (AckOf 3 p.P s q 0) := ⟨b, HBf.out, by unfold ackF; simp [HG.out]⟩
  go_wp2_with fail
  go_ret
  exact ⟨_, rfl, HA.out, HB2.out⟩
set_option maxRecDepth 100000 in
set_option maxHeartbeats 1600000 in
theorem actCheck_4 (s : ByteArray) (q : Int) (p : Pv) (w : World) (hS : PSrc w p) (hs : s.size ≤ maxLen) : Calls Tryz.prog 33 #[AcV (mkA 4 s q p)] w fun e w' => GivA w w' e 4 p.P s q := by
 have hk : i64ok 4 := ⟨by decide, by decide⟩
 have HSz := hide hs
 have HK := hide hk
 have HX := hide (AcBox_new w (mkA 4 s q p))
 have HBK := hide (below_new w (.cells (AcC (mkA 4 s q p)) 30))
 have HS := hide (hS.below HBK.out)
 have hn := nil_nil
 have hn2 := func_nil
 clear hS hk hs
 obtain ⟨wk, hwk⟩ : ∃ wk, w.alloc (.cells (AcC (mkA 4 s q p)) 30) = wk := ⟨_, rfl⟩
 obtain ⟨G, hG⟩ : ∃ G, w.heap.size = G := ⟨_, rfl⟩
 rw [hwk] at HX HBK HS
 rw [hG] at HX
 go_enter Tryz.func33, Tryz.ntmps33
 go_wp2_with fail
 clear hwk
 refine wp_region_held_drew (S := fun v => v.cell? ⟨G, 0, none⟩ = some (.int .i64 4)) (by kernel_rfl) ((HX.out.below (below_drew1 wk)).k.1) (fun hHeld => ?_)
 refine wTk 1 ⟨some 5, .fieldAddr 30 (.tmp 1) 0, 0, "act.go:14", #[], none⟩ rfl ?_
 refine wTk 2 ⟨some 6, .load 3 (.tmp 5), 3, "act.go:14", #[⟨1, .data⟩], none⟩ rfl ?_
 refine wpAnyH_ready (rs := [0]) (by kernel_rfl) (by simp) (.cons rfl (fun K hK => ?_) .nil)
 go_simp
 go_wp2_with fail
 refine (rules_any _).mono ?_
 rintro e w2 ⟨rfl, hM, b2⟩
 have HB2 := hide ((HBK.out.trans ((below_drew1 wk).mono HBK.out.size)).trans (b2.mono HBK.out.size))
 have HX2 := hide ((HX.out.below (below_drew1 wk)).below b2)
 have HS2 := hide ((HS.out.below (below_drew1 wk)).below b2)
 have hl : (Instr.lookup 80 (.map (some wk.heap.size)) (.int .i64 4) false).run Tryz.prog w2 = .ok (.func (.func 74) #[] #[]) w2 := by have h := hM.look (x := 4) HK.out; rw [show ruleM 4 = some 74 from rfl] at h; exact h
 refine hK.out _ _ HX2.out.k.1 (fun hHeld => ?_)
 clear hK K hM b2
 refine wpAnyH_ready (rs := [3]) (by kernel_rfl) (by simp) (.cons rfl (fun K hK => ?_) .nil)
 go_simp
 refine hK.out _ _ HX2.out.k.1 (fun hHeld => ?_)
 clear hK K hl
 refine wpAnyH_ready (rs := [4]) (by kernel_rfl) (by simp) (.cons rfl (fun K hK => ?_) .nil)
 go_simp
 refine hK.out _ _ HX2.out.k.1 (fun hHeld => ?_)
 clear hK K
 refine wTk 5 ⟨some 3, .assign (.tmp 8), 4, "act.go:14", #[⟨4, .data⟩, ⟨0, .chain⟩], none⟩ rfl ?_
 refine wpAnyH_done (by kernel_rfl) ?_ _
 clear hHeld
 obtain ⟨c00, c10, c20⟩ := HX2.out.k
 have lp0 := run_ldP HX2.out.past
 go_wp2_with fail
 refine (usesPast_any 4 _).mono ?_
 rintro e w' ⟨rfl, rfl⟩
 rw [show (((4 : Int) == 4) || ((4 : Int) == 6)) = true from by decide]
 go_wp2_with fail
 refine (isNormP_any p _ HS2.out).mono ?_
 rintro e w3 ⟨b, rfl, hb, b3⟩
 have HBf := hide hb
 have HB3 := hide (HB2.out.trans (b3.mono HB2.out.size))
 have HX3 := hide (HX2.out.below b3)
 have HS3 := hide (HS2.out.below b3)
 clear hb b3 c00 c10 c20 lp0
 cases b with
 | false =>
  have HA : Hid (AckOf 4 p.P s q 1) := ⟨false, HBf.out, by unfold ackF; simp⟩
  go_wp2_with fail
  go_ret
  exact ⟨_, rfl, HA.out, HB3.out⟩
 | true =>
  obtain ⟨c01, c11, c21⟩ := HX3.out.k
  have lp1 := run_ldP HX3.out.past
  go_wp2_with fail
  refine (usesSku_any 4 _).mono ?_
  rintro e w' ⟨rfl, rfl⟩
  rw [show (((4 : Int) != 5) && ((4 : Int) != 6)) = true from by decide]
  go_wp2_with fail
  refine (K.good_any s _ HSz.out).mono ?_
  rintro e w' ⟨rfl, rfl⟩
  clear c01 c11 c21 lp1
  cases hg : K.good s.data.toList with
  | false =>
   have HA : Hid (AckOf 4 p.P s q 5) := ⟨true, HBf.out, by unfold ackF; simp [hg]⟩
   go_wp2_with fail
   go_ret
   exact ⟨_, rfl, HA.out, HB3.out⟩
  | true =>
   have HG := hide hg
   clear hg
   obtain ⟨c02, c12, c22⟩ := HX3.out.k
   have lp2 := run_ldP HX3.out.past
   go_wp2_with fail
   refine (usesQty_any 4 _).mono ?_
   rintro e w' ⟨rfl, rfl⟩
   rw [show (((4 : Int) == 1) || ((4 : Int) == 2)) = false from by decide]
   have HA : Hid (AckOf 4 p.P s q 0) := ⟨true, HBf.out, by unfold ackF; simp [HG.out]⟩
   go_wp2_with fail
   go_ret
   exact ⟨_, rfl, HA.out, HB3.out⟩
set_option maxRecDepth 100000 in
set_option maxHeartbeats 1600000 in
theorem actCheck_5 (s : ByteArray) (q : Int) (p : Pv) (w : World) (hS : PSrc w p) (hs : s.size ≤ maxLen) : Calls Tryz.prog 33 #[AcV (mkA 5 s q p)] w fun e w' => GivA w w' e 5 p.P s q := by
 have hk : i64ok 5 := ⟨by decide, by decide⟩
 have HSz := hide hs
 have HK := hide hk
 have HX := hide (AcBox_new w (mkA 5 s q p))
 have HBK := hide (below_new w (.cells (AcC (mkA 5 s q p)) 30))
 have HS := hide (hS.below HBK.out)
 have hn := nil_nil
 have hn2 := func_nil
 clear hS hk hs
 obtain ⟨wk, hwk⟩ : ∃ wk, w.alloc (.cells (AcC (mkA 5 s q p)) 30) = wk := ⟨_, rfl⟩
 obtain ⟨G, hG⟩ : ∃ G, w.heap.size = G := ⟨_, rfl⟩
 rw [hwk] at HX HBK HS
 rw [hG] at HX
 go_enter Tryz.func33, Tryz.ntmps33
 go_wp2_with fail
 clear hwk
 refine wp_region_held_drew (S := fun v => v.cell? ⟨G, 0, none⟩ = some (.int .i64 5)) (by kernel_rfl) ((HX.out.below (below_drew1 wk)).k.1) (fun hHeld => ?_)
 refine wTk 1 ⟨some 5, .fieldAddr 30 (.tmp 1) 0, 0, "act.go:14", #[], none⟩ rfl ?_
 refine wTk 2 ⟨some 6, .load 3 (.tmp 5), 3, "act.go:14", #[⟨1, .data⟩], none⟩ rfl ?_
 refine wpAnyH_ready (rs := [0]) (by kernel_rfl) (by simp) (.cons rfl (fun K hK => ?_) .nil)
 go_simp
 go_wp2_with fail
 refine (rules_any _).mono ?_
 rintro e w2 ⟨rfl, hM, b2⟩
 have HB2 := hide ((HBK.out.trans ((below_drew1 wk).mono HBK.out.size)).trans (b2.mono HBK.out.size))
 have HX2 := hide ((HX.out.below (below_drew1 wk)).below b2)
 have HS2 := hide ((HS.out.below (below_drew1 wk)).below b2)
 have hl : (Instr.lookup 80 (.map (some wk.heap.size)) (.int .i64 5) false).run Tryz.prog w2 = .ok (.func (.func 75) #[] #[]) w2 := by have h := hM.look (x := 5) HK.out; rw [show ruleM 5 = some 75 from rfl] at h; exact h
 refine hK.out _ _ HX2.out.k.1 (fun hHeld => ?_)
 clear hK K hM b2
 refine wpAnyH_ready (rs := [3]) (by kernel_rfl) (by simp) (.cons rfl (fun K hK => ?_) .nil)
 go_simp
 refine hK.out _ _ HX2.out.k.1 (fun hHeld => ?_)
 clear hK K hl
 refine wpAnyH_ready (rs := [4]) (by kernel_rfl) (by simp) (.cons rfl (fun K hK => ?_) .nil)
 go_simp
 refine hK.out _ _ HX2.out.k.1 (fun hHeld => ?_)
 clear hK K
 refine wTk 5 ⟨some 3, .assign (.tmp 8), 4, "act.go:14", #[⟨4, .data⟩, ⟨0, .chain⟩], none⟩ rfl ?_
 refine wpAnyH_done (by kernel_rfl) ?_ _
 clear hHeld
 obtain ⟨c00, c10, c20⟩ := HX2.out.k
 have lp0 := run_ldP HX2.out.past
 go_wp2_with fail
 refine (usesPast_any 5 _).mono ?_
 rintro e w' ⟨rfl, rfl⟩
 rw [show (((5 : Int) == 4) || ((5 : Int) == 6)) = false from by decide]
 clear c00 c10 c20 lp0
 obtain ⟨b, hb⟩ := BIf.ex (InForm p.P)
 have HBf := hide hb
 clear hb
 obtain ⟨c01, c11, c21⟩ := HX2.out.k
 have lp1 := run_ldP HX2.out.past
 go_wp2_with fail
 refine (usesSku_any 5 _).mono ?_
 rintro e w' ⟨rfl, rfl⟩
 rw [show (((5 : Int) != 5) && ((5 : Int) != 6)) = false from by decide]
 clear c01 c11 c21 lp1
 obtain ⟨c02, c12, c22⟩ := HX2.out.k
 have lp2 := run_ldP HX2.out.past
 go_wp2_with fail
 refine (usesQty_any 5 _).mono ?_
 rintro e w' ⟨rfl, rfl⟩
 rw [show (((5 : Int) == 1) || ((5 : Int) == 2)) = false from by decide]
 have HA : Hid (AckOf 5 p.P s q 0) := ⟨b, HBf.out, by unfold ackF; simp⟩
 go_wp2_with fail
 go_ret
 exact ⟨_, rfl, HA.out, HB2.out⟩
set_option maxRecDepth 100000 in
set_option maxHeartbeats 1600000 in
theorem actCheck_6 (s : ByteArray) (q : Int) (p : Pv) (w : World) (hS : PSrc w p) (hs : s.size ≤ maxLen) : Calls Tryz.prog 33 #[AcV (mkA 6 s q p)] w fun e w' => GivA w w' e 6 p.P s q := by
 have hk : i64ok 6 := ⟨by decide, by decide⟩
 have HSz := hide hs
 have HK := hide hk
 have HX := hide (AcBox_new w (mkA 6 s q p))
 have HBK := hide (below_new w (.cells (AcC (mkA 6 s q p)) 30))
 have HS := hide (hS.below HBK.out)
 have hn := nil_nil
 have hn2 := func_nil
 clear hS hk hs
 obtain ⟨wk, hwk⟩ : ∃ wk, w.alloc (.cells (AcC (mkA 6 s q p)) 30) = wk := ⟨_, rfl⟩
 obtain ⟨G, hG⟩ : ∃ G, w.heap.size = G := ⟨_, rfl⟩
 rw [hwk] at HX HBK HS
 rw [hG] at HX
 go_enter Tryz.func33, Tryz.ntmps33
 go_wp2_with fail
 clear hwk
 refine wp_region_held_drew (S := fun v => v.cell? ⟨G, 0, none⟩ = some (.int .i64 6)) (by kernel_rfl) ((HX.out.below (below_drew1 wk)).k.1) (fun hHeld => ?_)
 refine wTk 1 ⟨some 5, .fieldAddr 30 (.tmp 1) 0, 0, "act.go:14", #[], none⟩ rfl ?_
 refine wTk 2 ⟨some 6, .load 3 (.tmp 5), 3, "act.go:14", #[⟨1, .data⟩], none⟩ rfl ?_
 refine wpAnyH_ready (rs := [0]) (by kernel_rfl) (by simp) (.cons rfl (fun K hK => ?_) .nil)
 go_simp
 go_wp2_with fail
 refine (rules_any _).mono ?_
 rintro e w2 ⟨rfl, hM, b2⟩
 have HB2 := hide ((HBK.out.trans ((below_drew1 wk).mono HBK.out.size)).trans (b2.mono HBK.out.size))
 have HX2 := hide ((HX.out.below (below_drew1 wk)).below b2)
 have HS2 := hide ((HS.out.below (below_drew1 wk)).below b2)
 have hl : (Instr.lookup 80 (.map (some wk.heap.size)) (.int .i64 6) false).run Tryz.prog w2 = .ok (.func (.func 76) #[] #[]) w2 := by have h := hM.look (x := 6) HK.out; rw [show ruleM 6 = some 76 from rfl] at h; exact h
 refine hK.out _ _ HX2.out.k.1 (fun hHeld => ?_)
 clear hK K hM b2
 refine wpAnyH_ready (rs := [3]) (by kernel_rfl) (by simp) (.cons rfl (fun K hK => ?_) .nil)
 go_simp
 refine hK.out _ _ HX2.out.k.1 (fun hHeld => ?_)
 clear hK K hl
 refine wpAnyH_ready (rs := [4]) (by kernel_rfl) (by simp) (.cons rfl (fun K hK => ?_) .nil)
 go_simp
 refine hK.out _ _ HX2.out.k.1 (fun hHeld => ?_)
 clear hK K
 refine wTk 5 ⟨some 3, .assign (.tmp 8), 4, "act.go:14", #[⟨4, .data⟩, ⟨0, .chain⟩], none⟩ rfl ?_
 refine wpAnyH_done (by kernel_rfl) ?_ _
 clear hHeld
 obtain ⟨c00, c10, c20⟩ := HX2.out.k
 have lp0 := run_ldP HX2.out.past
 go_wp2_with fail
 refine (usesPast_any 6 _).mono ?_
 rintro e w' ⟨rfl, rfl⟩
 rw [show (((6 : Int) == 4) || ((6 : Int) == 6)) = true from by decide]
 go_wp2_with fail
 refine (isNormP_any p _ HS2.out).mono ?_
 rintro e w3 ⟨b, rfl, hb, b3⟩
 have HBf := hide hb
 have HB3 := hide (HB2.out.trans (b3.mono HB2.out.size))
 have HX3 := hide (HX2.out.below b3)
 have HS3 := hide (HS2.out.below b3)
 clear hb b3 c00 c10 c20 lp0
 cases b with
 | false =>
  have HA : Hid (AckOf 6 p.P s q 1) := ⟨false, HBf.out, by unfold ackF; simp⟩
  go_wp2_with fail
  go_ret
  exact ⟨_, rfl, HA.out, HB3.out⟩
 | true =>
  obtain ⟨c01, c11, c21⟩ := HX3.out.k
  have lp1 := run_ldP HX3.out.past
  go_wp2_with fail
  refine (usesSku_any 6 _).mono ?_
  rintro e w' ⟨rfl, rfl⟩
  rw [show (((6 : Int) != 5) && ((6 : Int) != 6)) = false from by decide]
  clear c01 c11 c21 lp1
  obtain ⟨c02, c12, c22⟩ := HX3.out.k
  have lp2 := run_ldP HX3.out.past
  go_wp2_with fail
  refine (usesQty_any 6 _).mono ?_
  rintro e w' ⟨rfl, rfl⟩
  rw [show (((6 : Int) == 1) || ((6 : Int) == 2)) = false from by decide]
  have HA : Hid (AckOf 6 p.P s q 0) := ⟨true, HBf.out, by unfold ackF; simp⟩
  go_wp2_with fail
  go_ret
  exact ⟨_, rfl, HA.out, HB3.out⟩
theorem actCheck_any (k : Int) (s : ByteArray) (q : Int) (p : Pv) (w : World) (hS : PSrc w p) (hs : s.size ≤ maxLen) (hk : i64ok k) : Calls Tryz.prog 33 #[AcV (mkA k s q p)] w fun e w' => GivA w w' e k p.P s q := by
 by_cases hb : k < 1 ∨ 6 < k
 ·exact actCheck_no k s q p w hS hk hb
 ·have : k = 1 ∨ k = 2 ∨ k = 3 ∨ k = 4 ∨ k = 5 ∨ k = 6 := by omega
  rcases this with rfl | rfl | rfl | rfl | rfl | rfl
  ·exact actCheck_1 s q p w hS hs
  ·exact actCheck_2 s q p w hS hs
  ·exact actCheck_3 s q p w hS hs
  ·exact actCheck_4 s q p w hS hs
  ·exact actCheck_5 s q p w hS hs
  ·exact actCheck_6 s q p w hS hs
end Go.Proofs.YtmbkmpeongodbaaGreat
