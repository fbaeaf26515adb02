/- GOa GAe GRv -/
import Derived.Test.YtmbkmpeongodbaaGreatTk
import Derived.Test.YtmbkmpeongodbaaGreatAm27
import Derived.Test.YtmbkmpeongodbaaGreatAm36
import Derived.Test.YtmbkmpeongodbaaGreatAm28
namespace Go.Proofs.YtmbkmpeongodbaaGreat
open Go.RowKit
attribute [local go_sem ↓] ldP_eq stP_eq ldFa_eq stFa_eq ldD_eq stD_eq
attribute [local go_sem] cells_PV PC_size cells_FaV FaC_size cells_RV RC_size zero_RC fold_RC
set_option maxRecDepth 100000 in
set_option maxHeartbeats 1600000 in
theorem isOneActs_a (f : Fc) (w : World) (hF : FcOk w f) (han : f.an = 0) (hrn : f.rn = 0) : Calls Tryz.prog 39 #[FaV (mkF f)] w fun e w' => GivB w w' e (OneA f) := by
 have HX := hide (FaBox_new w (mkF f))
 have HBK := hide (below_new w (.cells (FaC (mkF f)) 36))
 have HS := hide (hF.below HBK.out)
 clear hF
 obtain ⟨wk, hwk⟩ : ∃ wk, w.alloc (.cells (FaC (mkF f)) 36) = wk := ⟨_, rfl⟩
 obtain ⟨G, hG⟩ : ∃ G, w.heap.size = G := ⟨_, rfl⟩
 rw [hwk] at HX HBK HS
 rw [hG] at HX
 obtain ⟨c0, c3⟩ := HX.out.cs
 have lp := run_ldP HX.out.past
 have lf := run_ldFa HX.out
 have Han := hide han
 rw [han] at c0
 have Hrn := hide hrn
 rw [hrn] at c3
 clear han hrn
 have HY : Hid (OneA f) := .inl ⟨Han.out, Hrn.out⟩
 go_enter Tryz.func39, Tryz.ntmps39
 go_wp2_with fail
 go_ret
 exact ⟨_, rfl, BIf.yes HY.out, HBK.out⟩
set_option maxRecDepth 100000 in
set_option maxHeartbeats 1600000 in
theorem isOneActs_b (f : Fc) (w : World) (hF : FcOk w f) (han : f.an = 0) (hrn : 2 ≤ f.rn) : Calls Tryz.prog 39 #[FaV (mkF f)] w fun e w' => GivB w w' e (OneA f) := by
 have HX := hide (FaBox_new w (mkF f))
 have HBK := hide (below_new w (.cells (FaC (mkF f)) 36))
 have HS := hide (hF.below HBK.out)
 clear hF
 obtain ⟨wk, hwk⟩ : ∃ wk, w.alloc (.cells (FaC (mkF f)) 36) = wk := ⟨_, rfl⟩
 obtain ⟨G, hG⟩ : ∃ G, w.heap.size = G := ⟨_, rfl⟩
 rw [hwk] at HX HBK HS
 rw [hG] at HX
 obtain ⟨c0, c3⟩ := HX.out.cs
 have lp := run_ldP HX.out.past
 have lf := run_ldFa HX.out
 have Han := hide han
 rw [han] at c0
 have Hrn := hide hrn
 have zrn1 : ((f.rn : Int) == 0) = false := by have := Hrn.out; simp; omega
 have zrn2 : (f.rn == 0) = false := by have := Hrn.out; simp; omega
 have zrn3 : ((f.rn : Int) == 1) = false := by have := Hrn.out; simp; omega
 have zrn4 : (f.rn == 1) = false := by have := Hrn.out; simp; omega
 clear han hrn
 have HN : Hid (¬ OneA f) := fun h => by rcases h with ⟨h1, h2⟩ | ⟨h1, h2, _⟩ | ⟨h1, h2, _⟩ <;> (have := Hrn.out; omega)
 go_enter Tryz.func39, Tryz.ntmps39
 go_wp2_with fail
 go_ret
 exact ⟨_, rfl, BIf.no HN.out, HBK.out⟩
set_option maxRecDepth 100000 in
set_option maxHeartbeats 1600000 in
theorem isOneActs_c (f : Fc) (w : World) (hF : FcOk w f) (han : f.an = 1) (hrn : 1 ≤ f.rn) : Calls Tryz.prog 39 #[FaV (mkF f)] w fun e w' => GivB w w' e (OneA f) := by
 have HX := hide (FaBox_new w (mkF f))
 have HBK := hide (below_new w (.cells (FaC (mkF f)) 36))
 have HS := hide (hF.below HBK.out)
 clear hF
 obtain ⟨wk, hwk⟩ : ∃ wk, w.alloc (.cells (FaC (mkF f)) 36) = wk := ⟨_, rfl⟩
 obtain ⟨G, hG⟩ : ∃ G, w.heap.size = G := ⟨_, rfl⟩
 rw [hwk] at HX HBK HS
 rw [hG] at HX
 obtain ⟨c0, c3⟩ := HX.out.cs
 have lp := run_ldP HX.out.past
 have lf := run_ldFa HX.out
 have Han := hide han
 rw [han] at c0
 have Hrn := hide hrn
 have zrn1 : ((f.rn : Int) == 0) = false := by have := Hrn.out; simp; omega
 have zrn2 : (f.rn == 0) = false := by have := Hrn.out; simp; omega
 clear han hrn
 have HN : Hid (¬ OneA f) := fun h => by rcases h with ⟨h1, h2⟩ | ⟨h1, h2, _⟩ | ⟨h1, h2, _⟩ <;> (have := Hrn.out; have := Han.out; omega)
 go_enter Tryz.func39, Tryz.ntmps39
 go_wp2_with fail
 go_ret
 exact ⟨_, rfl, BIf.no HN.out, HBK.out⟩
set_option maxRecDepth 100000 in
set_option maxHeartbeats 1600000 in
theorem isOneActs_d (f : Fc) (w : World) (hF : FcOk w f) (han : 2 ≤ f.an) : Calls Tryz.prog 39 #[FaV (mkF f)] w fun e w' => GivB w w' e (OneA f) := by
 have HX := hide (FaBox_new w (mkF f))
 have HBK := hide (below_new w (.cells (FaC (mkF f)) 36))
 have HS := hide (hF.below HBK.out)
 clear hF
 obtain ⟨wk, hwk⟩ : ∃ wk, w.alloc (.cells (FaC (mkF f)) 36) = wk := ⟨_, rfl⟩
 obtain ⟨G, hG⟩ : ∃ G, w.heap.size = G := ⟨_, rfl⟩
 rw [hwk] at HX HBK HS
 rw [hG] at HX
 obtain ⟨c0, c3⟩ := HX.out.cs
 have lp := run_ldP HX.out.past
 have lf := run_ldFa HX.out
 have Han := hide han
 have zan1 : ((f.an : Int) == 0) = false := by have := Han.out; simp; omega
 have zan2 : (f.an == 0) = false := by have := Han.out; simp; omega
 have zan3 : ((f.an : Int) == 1) = false := by have := Han.out; simp; omega
 have zan4 : (f.an == 1) = false := by have := Han.out; simp; omega
 clear han
 have HN : Hid (¬ OneA f) := fun h => by rcases h with ⟨h1, h2⟩ | ⟨h1, h2, _⟩ | ⟨h1, h2, _⟩ <;> (have := Han.out; omega)
 go_enter Tryz.func39, Tryz.ntmps39
 go_wp2_with fail
 go_ret
 exact ⟨_, rfl, BIf.no HN.out, HBK.out⟩
set_option maxRecDepth 100000 in
set_option maxHeartbeats 1600000 in
theorem isOneActs_e (f : Fc) (w : World) (hF : FcOk w f) (han : f.an = 0) (hrn : f.rn = 1) : Calls Tryz.prog 39 #[FaV (mkF f)] w fun e w' => GivB w w' e (OneA f) := by
 have HX := hide (FaBox_new w (mkF f))
 have HBK := hide (below_new w (.cells (FaC (mkF f)) 36))
 have HS := hide (hF.below HBK.out)
 clear hF
 obtain ⟨wk, hwk⟩ : ∃ wk, w.alloc (.cells (FaC (mkF f)) 36) = wk := ⟨_, rfl⟩
 obtain ⟨G, hG⟩ : ∃ G, w.heap.size = G := ⟨_, rfl⟩
 rw [hwk] at HX HBK HS
 rw [hG] at HX
 obtain ⟨c0, c3⟩ := HX.out.cs
 have lp := run_ldP HX.out.past
 have lf := run_ldFa HX.out
 have Han := hide han
 rw [han] at c0
 have Hrn := hide hrn
 rw [hrn] at c3
 clear han hrn
 go_enter Tryz.func39, Tryz.ntmps39
 go_wp2_with fail
 clear hwk hG
 refine (pastEmpty_any f.p _ HS.out.p).mono ?_
 rintro e w2 ⟨b, rfl, hb, b2⟩
 have HF : Hid (BIf b (OneA f) ∧ Below w.heap.size w w2) := ⟨⟨fun h => .inr (.inr ⟨Han.out, Hrn.out, hb.1 h⟩), fun h => by
  have h5 := Han.out
  have h6 := Hrn.out
  rcases h with ⟨h1, h2⟩ | ⟨h1, h2, _⟩ | ⟨h1, h2, h3⟩
  ·omega
  ·omega
  ·exact hb.2 h3⟩, HBK.out.trans (b2.mono HBK.out.size)⟩
 clear hb b2 c0 c3 lp lf
 cases b with
 | true =>
  go_wp2_with fail
  go_ret
  exact ⟨_, rfl, HF.out.1, HF.out.2⟩
 | false =>
  go_wp2_with fail
  go_ret
  exact ⟨_, rfl, HF.out.1, HF.out.2⟩
set_option maxRecDepth 100000 in
set_option maxHeartbeats 1600000 in
theorem isOneActs_f (f : Fc) (w : World) (hF : FcOk w f) (han : f.an = 1) (hrn : f.rn = 0) : Calls Tryz.prog 39 #[FaV (mkF f)] w fun e w' => GivB w w' e (OneA f) := by
 have HX := hide (FaBox_new w (mkF f))
 have HBK := hide (below_new w (.cells (FaC (mkF f)) 36))
 have HS := hide (hF.below HBK.out)
 clear hF
 obtain ⟨wk, hwk⟩ : ∃ wk, w.alloc (.cells (FaC (mkF f)) 36) = wk := ⟨_, rfl⟩
 obtain ⟨G, hG⟩ : ∃ G, w.heap.size = G := ⟨_, rfl⟩
 rw [hwk] at HX HBK HS
 rw [hG] at HX
 obtain ⟨c0, c3⟩ := HX.out.cs
 have lp := run_ldP HX.out.past
 have lf := run_ldFa HX.out
 have Han := hide han
 rw [han] at c0
 have Hrn := hide hrn
 rw [hrn] at c3
 clear han hrn
 obtain ⟨ad, e1, A0⟩ := HS.out.es.at 0 (by have := Han.out; omega)
 obtain ⟨x, Hx⟩ : ∃ x, Hid (f.es.getD 0 K.en0 = x) := ⟨_, rfl⟩
 rw [Hx.out, Nat.zero_mul, K.add_zero] at A0
 have R0 : RnAt wk ad ⟨x.rep, x.num⟩ := ⟨A0.c0, A0.c1⟩
 have ld := run_ldD R0
 rw [e1] at c0
 obtain ⟨gd, hgd⟩ : ∃ g, wk.heap.size = g := ⟨_, rfl⟩
 obtain ⟨w1, hst, X1, B1, -⟩ := madeD wk ⟨x.rep, x.num⟩ gd hgd
 have HX1 := hide X1
 have HB1 := hide (HBK.out.trans (B1.mono HBK.out.size))
 have HP1 := hide (HS.out.p.below B1)
 have HF1 := hide (HX.out.below B1)
 clear X1 B1 A0 R0
 go_enter Tryz.func39, Tryz.ntmps39
 go_wp2_with fail
 clear hwk hG hst ld c0 c3 lp lf hgd
 refine wp_region_held_drew (S := fun v => (ldP (.pointer (some ⟨G, 1, none⟩))).run Tryz.prog v = .ok (PV f.p) v ∧ v.cell? ⟨gd, 0, none⟩ = some (.int .i64 x.rep) ∧ v.cell? ⟨gd, 1, none⟩ = some (.int .i64 x.num)) (by kernel_rfl) (⟨run_ldP (HF1.out.below (below_drew1 w1)).past, (HX1.out.below (below_drew1 w1)).at.c0, (HX1.out.below (below_drew1 w1)).at.c1⟩) (fun hHeld => ?_)
 refine wTk 0 ⟨some 31, .fieldAddr 36 (.tmp 1) 1, 0, "event.go:34", #[], none⟩ rfl ?_
 refine wTk 1 ⟨some 32, .load 26 (.tmp 31), 26, "event.go:34", #[⟨0, .data⟩], none⟩ rfl ?_
 refine wTk 2 ⟨some 33, .fieldAddr 44 (.tmp 3) 0, 0, "event.go:34", #[], none⟩ rfl ?_
 refine wTk 3 ⟨some 34, .load 3 (.tmp 33), 3, "event.go:34", #[⟨2, .data⟩], none⟩ rfl ?_
 refine wTk 5 ⟨some 36, .fieldAddr 44 (.tmp 3) 1, 0, "event.go:34", #[], none⟩ rfl ?_
 refine wTk 6 ⟨some 37, .load 3 (.tmp 36), 3, "event.go:34", #[⟨5, .data⟩], none⟩ rfl ?_
 refine wpAnyH_ready (rs := [4]) (by kernel_rfl) (by simp) (.cons rfl (fun K hK => ?_) .nil)
 go_simp
 go_wp2_with fail
 refine (pastLast_any f.p x.rep _ (HP1.out.below (below_drew1 w1))).mono ?_
 rintro e w2 ⟨k, rfl, hk, b2⟩
 have hB2 : Below w1.heap.size w1 w2 := (below_drew1 w1).trans b2
 have HF : Hid (BIf (decide (k < x.num)) (OneA f) ∧ Below w.heap.size w w2) := by
  refine ⟨⟨fun h => .inr (.inl ⟨Han.out, Hrn.out, k, ?_, ?_⟩), fun h => ?_⟩, HB1.out.trans (hB2.mono HB1.out.size)⟩
  ·rw [Hx.out]; exact hk
  ·rw [Hx.out]; exact of_decide_eq_true h
  ·have h5 := Han.out
   have h6 := Hrn.out
   rcases h with ⟨h1, h2⟩ | ⟨h1, h2, k2, h3, h4⟩ | ⟨h1, h2, h3⟩
   ·omega
   ·rw [Hx.out] at h3 h4
    rw [show k = k2 from LastOf.unique hk h3]
    exact decide_eq_true h4
   ·omega
 refine hK.out _ _ (⟨run_ldP (HF1.out.below (hB2)).past, (HX1.out.below (hB2)).at.c0, (HX1.out.below (hB2)).at.c1⟩) (fun hHeld => ?_)
 clear hK K b2 hk hB2
 refine wTk 7 ⟨some 38, .binOp .lss 3 (.tmp 35) (.tmp 37) 3, 4, "event.go:34", #[⟨4, .data⟩, ⟨6, .data⟩], none⟩ rfl ?_
 refine wTk 8 ⟨some 2, .assign (.tmp 38), 4, "event.go:34", #[⟨7, .data⟩, ⟨4, .chain⟩, ⟨0, .phase⟩, ⟨1, .phase⟩, ⟨2, .phase⟩, ⟨3, .phase⟩, ⟨4, .phase⟩, ⟨5, .phase⟩, ⟨6, .phase⟩, ⟨7, .phase⟩], none⟩ rfl ?_
 refine wpAnyH_done (by kernel_rfl) ?_ _
 clear hHeld
 go_wp2_with fail
 go_ret
 exact ⟨_, rfl, HF.out.1, HF.out.2⟩
theorem isOneActs_any (f : Fc) (w : World) (hF : FcOk w f) : Calls Tryz.prog 39 #[FaV (mkF f)] w fun e w' => GivB w w' e (OneA f) := by
 by_cases h0 : f.an = 0
 ·by_cases k0 : f.rn = 0
  ·exact isOneActs_a f w hF h0 k0
  ·by_cases k1 : f.rn = 1
   ·exact isOneActs_e f w hF h0 k1
   ·exact isOneActs_b f w hF h0 (by omega)
 ·by_cases h1 : f.an = 1
  ·by_cases k0 : f.rn = 0
   ·exact isOneActs_f f w hF h1 k0
   ·exact isOneActs_c f w hF h1 (by omega)
  ·exact isOneActs_d f w hF (by omega)
end Go.Proofs.YtmbkmpeongodbaaGreat
namespace Go.Proofs.YtmbkmpeongodbaaGreat
open Go.RowKit
attribute [local go_sem ↓] ldP_eq stP_eq ldFa_eq stFa_eq ldD_eq stD_eq
attribute [local go_sem] cells_PV PC_size cells_FaV FaC_size cells_RV RC_size zero_RC fold_RC
theorem chk_no {L : List K.En} {n : Nat} (hl : L.length = n) (h : K.okN L n = false) : K.chk L = 1 := by unfold K.chk; rw [hl, h]; rfl
theorem chk_yes {L : List K.En} {n : Nat} (hl : L.length = n) (h : K.okN L n = true) : K.chk L = 0 := by unfold K.chk; rw [hl, h]; rfl
set_option maxRecDepth 100000 in
set_option maxHeartbeats 1600000 in
theorem actEvent_any (f : Fc) (w : World) (hF : FcOk w f) : Calls Tryz.prog 10 #[FaV (mkF f)] w fun e w' => GivesK w w' e (EvOf f) := by
 have HX := hide (FaBox_new w (mkF f))
 have HBK := hide (below_new w (.cells (FaC (mkF f)) 36))
 have HS := hide (hF.below HBK.out)
 clear hF
 obtain ⟨wk, hwk⟩ : ∃ wk, w.alloc (.cells (FaC (mkF f)) 36) = wk := ⟨_, rfl⟩
 obtain ⟨G, hG⟩ : ∃ G, w.heap.size = G := ⟨_, rfl⟩
 rw [hwk] at HX HBK HS
 rw [hG] at HX
 obtain ⟨c0, c3⟩ := HX.out.cs
 have lp := run_ldP HX.out.past
 have lf := run_ldFa HX.out
 go_enter Tryz.func10, Tryz.ntmps10
 go_wp2_with fail
 clear hwk hG
 refine (K.lcheck_any f.ao f.an f.ac f.es _ HS.out.es).mono ?_
 rintro e w2 ⟨rfl, b2⟩
 have HB2 := hide (HBK.out.trans (b2.mono HBK.out.size))
 have HX2 := hide (HX.out.below b2)
 have HS2 := hide (HS.out.below b2)
 clear b2 c0 c3 lp lf HX HS HBK
 cases hc : K.okN f.es f.an with
 | false =>
  rw [chk_no HS2.out.es.1 hc]
  have HE : Hid (EvOf f 1) := .inl ⟨(fun h => by have h1 := h.1; rw [hc] at h1; cases h1), rfl⟩
  clear hc
  go_wp2_with fail
  go_ret
  exact ⟨_, rfl, HE.out, HB2.out⟩
 | true =>
  rw [chk_yes HS2.out.es.1 hc]
  have HC := hide hc
  have lp := run_ldP HX2.out.past
  clear hc
  go_wp2_with fail
  refine (isNormP_any f.p _ HS2.out.p).mono ?_
  rintro e w3 ⟨b, rfl, hb, b3⟩
  have HB3 := hide (HB2.out.trans (b3.mono HB2.out.size))
  have HX3 := hide (HX2.out.below b3)
  have HS3 := hide (HS2.out.below b3)
  clear b3 lp HX2 HS2 HB2
  cases b with
  | false =>
   have HE : Hid (EvOf f 1) := .inl ⟨fun h => (by have := hb.out.2 h.2.1; cases this), rfl⟩
   clear hb
   go_wp2_with fail
   go_ret
   exact ⟨_, rfl, HE.out, HB3.out⟩
  | true =>
   have HI : Hid (InForm f.p.P) := hb.out.1 rfl
   have c3 := HX3.out.cs.2
   clear hb
   go_wp2_with fail
   refine (keepCheck_any f.ro f.rn f.rc f.rs _ HS3.out.rs).mono ?_
   rintro e w4 ⟨x, rfl, hx, b4⟩
   have HB4 := hide (HB3.out.trans (b4.mono HB3.out.size))
   have HX4 := hide (HX3.out.below b4)
   have HS4 := hide (HS3.out.below b4)
   clear b4 c3 HX3 HS3 HB3
   rcases hx with ⟨rfl, hr⟩ | ⟨rfl, hr⟩
   ·have HFo : Hid (FormF f) := ⟨HC.out, HI.out, hr⟩
    have lf := run_ldFa HX4.out
    clear hr
    go_wp2_with fail
    refine (isOneActs_any f _ HS4.out).mono ?_
    rintro e w5 ⟨b, rfl, hb, b5⟩
    have HB5 := hide (HB4.out.trans (b5.mono HB4.out.size))
    clear b5 lf
    cases b with
    | true =>
     have HE : Hid (EvOf f 0) := .inr (.inr ⟨HFo.out, hb.out.1 rfl, rfl⟩)
     clear hb
     go_wp2_with fail
     go_ret
     exact ⟨_, rfl, HE.out, HB5.out⟩
    | false =>
     have HE : Hid (EvOf f 2) := .inr (.inl ⟨HFo.out, fun h => (by have := hb.out.2 h; cases this), rfl⟩)
     clear hb
     go_wp2_with fail
     go_ret
     exact ⟨_, rfl, HE.out, HB5.out⟩
   ·have HE : Hid (EvOf f 1) := .inl ⟨fun h => hr h.2.2, rfl⟩
    clear hr
    go_wp2_with fail
    go_ret
    exact ⟨_, rfl, HE.out, HB4.out⟩
end Go.Proofs.YtmbkmpeongodbaaGreat
namespace Go.Proofs.YtmbkmpeongodbaaGreat
open Go.RowKit
attribute [local go_sem ↓] ldP_eq stP_eq ldFa_eq stFa_eq ldD_eq stD_eq
attribute [local go_sem] cells_PV PC_size cells_FaV FaC_size cells_RV RC_size zero_RC fold_RC
set_option maxRecDepth 100000 in
set_option maxHeartbeats 1600000 in
theorem refEvent_a (f : Fc) (w : World) (hF : FcOk w f) (hFo : FormF f) (han : f.an = 0) (hrn : f.rn = 0) : Calls Tryz.prog 20 #[FaV (mkF f)] w fun e w' => GivesK w w' e (EvOf f) := by
 have HFo := hide hFo
 have HX := hide (FaBox_new w (mkF f))
 have HBK := hide (below_new w (.cells (FaC (mkF f)) 36))
 have HS := hide (hF.below HBK.out)
 clear hF
 obtain ⟨wk, hwk⟩ : ∃ wk, w.alloc (.cells (FaC (mkF f)) 36) = wk := ⟨_, rfl⟩
 obtain ⟨G, hG⟩ : ∃ G, w.heap.size = G := ⟨_, rfl⟩
 rw [hwk] at HX HBK HS
 rw [hG] at HX
 obtain ⟨c0, c3⟩ := HX.out.cs
 have lp := run_ldP HX.out.past
 have lf := run_ldFa HX.out
 go_enter Tryz.func20, Tryz.ntmps20
 go_wp2_with fail
 clear hwk hG hFo
 refine (refFacts_any f _ HS.out).mono ?_
 rintro e w2 ⟨b, rfl, hb, b2⟩
 obtain rfl : b = true := hb.out.2 HFo.out
 have HB2 := hide (HBK.out.trans (b2.mono HBK.out.size))
 have HX2 := hide (HX.out.below b2)
 have HS2 := hide (HS.out.below b2)
 clear b2 hb c0 c3 lp lf HX HS HBK
 have lp := run_ldP HX2.out.past
 go_wp2_with fail
 refine (refEmpty_any f.p _ HS2.out.p).mono ?_
 rintro e w3 ⟨b, rfl, hb, b3⟩
 have HBe : Hid (BIf b (EmptyP f.p.P)) := hb
 have HB3 := hide (HB2.out.trans (b3.mono HB2.out.size))
 have HX3 := hide (HX2.out.below b3)
 have HS3 := hide (HS2.out.below b3)
 clear b3 hb lp HX2 HS2 HB2
 obtain ⟨c0, c3⟩ := HX3.out.cs
 have Han := hide han
 rw [han] at c0
 have Hrn := hide hrn
 rw [hrn] at c3
 clear han hrn
 have HE : Hid (EvOf f 0) := .inr (.inr ⟨HFo.out, .inl ⟨Han.out, Hrn.out⟩, rfl⟩)
 go_wp2_with fail
 go_ret
 exact ⟨_, rfl, HE.out, HB3.out⟩
set_option maxRecDepth 100000 in
set_option maxHeartbeats 1600000 in
theorem refEvent_b (f : Fc) (w : World) (hF : FcOk w f) (hFo : FormF f) (han : f.an = 0) (hrn : 2 ≤ f.rn) : Calls Tryz.prog 20 #[FaV (mkF f)] w fun e w' => GivesK w w' e (EvOf f) := by
 have HFo := hide hFo
 have HX := hide (FaBox_new w (mkF f))
 have HBK := hide (below_new w (.cells (FaC (mkF f)) 36))
 have HS := hide (hF.below HBK.out)
 clear hF
 obtain ⟨wk, hwk⟩ : ∃ wk, w.alloc (.cells (FaC (mkF f)) 36) = wk := ⟨_, rfl⟩
 obtain ⟨G, hG⟩ : ∃ G, w.heap.size = G := ⟨_, rfl⟩
 rw [hwk] at HX HBK HS
 rw [hG] at HX
 obtain ⟨c0, c3⟩ := HX.out.cs
 have lp := run_ldP HX.out.past
 have lf := run_ldFa HX.out
 go_enter Tryz.func20, Tryz.ntmps20
 go_wp2_with fail
 clear hwk hG hFo
 refine (refFacts_any f _ HS.out).mono ?_
 rintro e w2 ⟨b, rfl, hb, b2⟩
 obtain rfl : b = true := hb.out.2 HFo.out
 have HB2 := hide (HBK.out.trans (b2.mono HBK.out.size))
 have HX2 := hide (HX.out.below b2)
 have HS2 := hide (HS.out.below b2)
 clear b2 hb c0 c3 lp lf HX HS HBK
 have lp := run_ldP HX2.out.past
 go_wp2_with fail
 refine (refEmpty_any f.p _ HS2.out.p).mono ?_
 rintro e w3 ⟨b, rfl, hb, b3⟩
 have HBe : Hid (BIf b (EmptyP f.p.P)) := hb
 have HB3 := hide (HB2.out.trans (b3.mono HB2.out.size))
 have HX3 := hide (HX2.out.below b3)
 have HS3 := hide (HS2.out.below b3)
 clear b3 hb lp HX2 HS2 HB2
 obtain ⟨c0, c3⟩ := HX3.out.cs
 have Han := hide han
 rw [han] at c0
 have Hrn := hide hrn
 have zrn1 : ((f.rn : Int) == 0) = false := by have := Hrn.out; simp; omega
 have zrn2 : (f.rn == 0) = false := by have := Hrn.out; simp; omega
 have zrn3 : ((f.rn : Int) == 1) = false := by have := Hrn.out; simp; omega
 have zrn4 : (f.rn == 1) = false := by have := Hrn.out; simp; omega
 clear han hrn
 have HE : Hid (EvOf f 2) := .inr (.inl ⟨HFo.out, fun h => by rcases h with ⟨h1, h2⟩ | ⟨h1, h2, _⟩ | ⟨h1, h2, _⟩ <;> (have := Hrn.out; omega), rfl⟩)
 go_wp2_with fail
 go_ret
 exact ⟨_, rfl, HE.out, HB3.out⟩
set_option maxRecDepth 100000 in
set_option maxHeartbeats 1600000 in
theorem refEvent_c (f : Fc) (w : World) (hF : FcOk w f) (hFo : FormF f) (han : f.an = 1) (hrn : 1 ≤ f.rn) : Calls Tryz.prog 20 #[FaV (mkF f)] w fun e w' => GivesK w w' e (EvOf f) := by
 have HFo := hide hFo
 have HX := hide (FaBox_new w (mkF f))
 have HBK := hide (below_new w (.cells (FaC (mkF f)) 36))
 have HS := hide (hF.below HBK.out)
 clear hF
 obtain ⟨wk, hwk⟩ : ∃ wk, w.alloc (.cells (FaC (mkF f)) 36) = wk := ⟨_, rfl⟩
 obtain ⟨G, hG⟩ : ∃ G, w.heap.size = G := ⟨_, rfl⟩
 rw [hwk] at HX HBK HS
 rw [hG] at HX
 obtain ⟨c0, c3⟩ := HX.out.cs
 have lp := run_ldP HX.out.past
 have lf := run_ldFa HX.out
 go_enter Tryz.func20, Tryz.ntmps20
 go_wp2_with fail
 clear hwk hG hFo
 refine (refFacts_any f _ HS.out).mono ?_
 rintro e w2 ⟨b, rfl, hb, b2⟩
 obtain rfl : b = true := hb.out.2 HFo.out
 have HB2 := hide (HBK.out.trans (b2.mono HBK.out.size))
 have HX2 := hide (HX.out.below b2)
 have HS2 := hide (HS.out.below b2)
 clear b2 hb c0 c3 lp lf HX HS HBK
 have lp := run_ldP HX2.out.past
 go_wp2_with fail
 refine (refEmpty_any f.p _ HS2.out.p).mono ?_
 rintro e w3 ⟨b, rfl, hb, b3⟩
 have HBe : Hid (BIf b (EmptyP f.p.P)) := hb
 have HB3 := hide (HB2.out.trans (b3.mono HB2.out.size))
 have HX3 := hide (HX2.out.below b3)
 have HS3 := hide (HS2.out.below b3)
 clear b3 hb lp HX2 HS2 HB2
 obtain ⟨c0, c3⟩ := HX3.out.cs
 have Han := hide han
 rw [han] at c0
 have Hrn := hide hrn
 have zrn1 : ((f.rn : Int) == 0) = false := by have := Hrn.out; simp; omega
 have zrn2 : (f.rn == 0) = false := by have := Hrn.out; simp; omega
 clear han hrn
 have HE : Hid (EvOf f 2) := .inr (.inl ⟨HFo.out, fun h => by rcases h with ⟨h1, h2⟩ | ⟨h1, h2, _⟩ | ⟨h1, h2, _⟩ <;> (have := Hrn.out; have := Han.out; omega), rfl⟩)
 go_wp2_with fail
 go_ret
 exact ⟨_, rfl, HE.out, HB3.out⟩
set_option maxRecDepth 100000 in
set_option maxHeartbeats 1600000 in
theorem refEvent_d (f : Fc) (w : World) (hF : FcOk w f) (hFo : FormF f) (han : 2 ≤ f.an) : Calls Tryz.prog 20 #[FaV (mkF f)] w fun e w' => GivesK w w' e (EvOf f) := by
 have HFo := hide hFo
 have HX := hide (FaBox_new w (mkF f))
 have HBK := hide (below_new w (.cells (FaC (mkF f)) 36))
 have HS := hide (hF.below HBK.out)
 clear hF
 obtain ⟨wk, hwk⟩ : ∃ wk, w.alloc (.cells (FaC (mkF f)) 36) = wk := ⟨_, rfl⟩
 obtain ⟨G, hG⟩ : ∃ G, w.heap.size = G := ⟨_, rfl⟩
 rw [hwk] at HX HBK HS
 rw [hG] at HX
 obtain ⟨c0, c3⟩ := HX.out.cs
 have lp := run_ldP HX.out.past
 have lf := run_ldFa HX.out
 go_enter Tryz.func20, Tryz.ntmps20
 go_wp2_with fail
 clear hwk hG hFo
 refine (refFacts_any f _ HS.out).mono ?_
 rintro e w2 ⟨b, rfl, hb, b2⟩
 obtain rfl : b = true := hb.out.2 HFo.out
 have HB2 := hide (HBK.out.trans (b2.mono HBK.out.size))
 have HX2 := hide (HX.out.below b2)
 have HS2 := hide (HS.out.below b2)
 clear b2 hb c0 c3 lp lf HX HS HBK
 have lp := run_ldP HX2.out.past
 go_wp2_with fail
 refine (refEmpty_any f.p _ HS2.out.p).mono ?_
 rintro e w3 ⟨b, rfl, hb, b3⟩
 have HBe : Hid (BIf b (EmptyP f.p.P)) := hb
 have HB3 := hide (HB2.out.trans (b3.mono HB2.out.size))
 have HX3 := hide (HX2.out.below b3)
 have HS3 := hide (HS2.out.below b3)
 clear b3 hb lp HX2 HS2 HB2
 obtain ⟨c0, c3⟩ := HX3.out.cs
 have Han := hide han
 have zan1 : ((f.an : Int) == 0) = false := by have := Han.out; simp; omega
 have zan2 : (f.an == 0) = false := by have := Han.out; simp; omega
 have zan3 : ((f.an : Int) == 1) = false := by have := Han.out; simp; omega
 have zan4 : (f.an == 1) = false := by have := Han.out; simp; omega
 clear han
 have HE : Hid (EvOf f 2) := .inr (.inl ⟨HFo.out, fun h => by rcases h with ⟨h1, h2⟩ | ⟨h1, h2, _⟩ | ⟨h1, h2, _⟩ <;> (have := Han.out; omega), rfl⟩)
 go_wp2_with fail
 go_ret
 exact ⟨_, rfl, HE.out, HB3.out⟩
set_option maxRecDepth 100000 in
set_option maxHeartbeats 1600000 in
theorem refEvent_e (f : Fc) (w : World) (hF : FcOk w f) (hFo : FormF f) (han : f.an = 0) (hrn : f.rn = 1) : Calls Tryz.prog 20 #[FaV (mkF f)] w fun e w' => GivesK w w' e (EvOf f) := by
 have HFo := hide hFo
 have HX := hide (FaBox_new w (mkF f))
 have HBK := hide (below_new w (.cells (FaC (mkF f)) 36))
 have HS := hide (hF.below HBK.out)
 clear hF
 obtain ⟨wk, hwk⟩ : ∃ wk, w.alloc (.cells (FaC (mkF f)) 36) = wk := ⟨_, rfl⟩
 obtain ⟨G, hG⟩ : ∃ G, w.heap.size = G := ⟨_, rfl⟩
 rw [hwk] at HX HBK HS
 rw [hG] at HX
 obtain ⟨c0, c3⟩ := HX.out.cs
 have lp := run_ldP HX.out.past
 have lf := run_ldFa HX.out
 go_enter Tryz.func20, Tryz.ntmps20
 go_wp2_with fail
 clear hwk hG hFo
 refine (refFacts_any f _ HS.out).mono ?_
 rintro e w2 ⟨b, rfl, hb, b2⟩
 obtain rfl : b = true := hb.out.2 HFo.out
 have HB2 := hide (HBK.out.trans (b2.mono HBK.out.size))
 have HX2 := hide (HX.out.below b2)
 have HS2 := hide (HS.out.below b2)
 clear b2 hb c0 c3 lp lf HX HS HBK
 have lp := run_ldP HX2.out.past
 go_wp2_with fail
 refine (refEmpty_any f.p _ HS2.out.p).mono ?_
 rintro e w3 ⟨b, rfl, hb, b3⟩
 have HBe : Hid (BIf b (EmptyP f.p.P)) := hb
 have HB3 := hide (HB2.out.trans (b3.mono HB2.out.size))
 have HX3 := hide (HX2.out.below b3)
 have HS3 := hide (HS2.out.below b3)
 clear b3 hb lp HX2 HS2 HB2
 obtain ⟨c0, c3⟩ := HX3.out.cs
 have Han := hide han
 rw [han] at c0
 have Hrn := hide hrn
 rw [hrn] at c3
 clear han hrn
 cases b with
 | true =>
  have HE : Hid (EvOf f 0) := .inr (.inr ⟨HFo.out, .inr (.inr ⟨Han.out, Hrn.out, HBe.out.out.1 rfl⟩), rfl⟩)
  go_wp2_with fail
  go_ret
  exact ⟨_, rfl, HE.out, HB3.out⟩
 | false =>
  have HNo : Hid (¬ OneA f) := fun h => by
   have h5 := Han.out
   have h6 := Hrn.out
   rcases h with ⟨h1, h2⟩ | ⟨h1, h2, _⟩ | ⟨h1, h2, h3⟩
   ·omega
   ·omega
   ·have := HBe.out.out.2 h3
    cases this
  have HE : Hid (EvOf f 2) := .inr (.inl ⟨HFo.out, HNo.out, rfl⟩)
  go_wp2_with fail
  go_ret
  exact ⟨_, rfl, HE.out, HB3.out⟩
set_option maxRecDepth 100000 in
set_option maxHeartbeats 1600000 in
theorem refEvent_f (f : Fc) (w : World) (hF : FcOk w f) (hFo : FormF f) (han : f.an = 1) (hrn : f.rn = 0) : Calls Tryz.prog 20 #[FaV (mkF f)] w fun e w' => GivesK w w' e (EvOf f) := by
 have HFo := hide hFo
 have HX := hide (FaBox_new w (mkF f))
 have HBK := hide (below_new w (.cells (FaC (mkF f)) 36))
 have HS := hide (hF.below HBK.out)
 clear hF
 obtain ⟨wk, hwk⟩ : ∃ wk, w.alloc (.cells (FaC (mkF f)) 36) = wk := ⟨_, rfl⟩
 obtain ⟨G, hG⟩ : ∃ G, w.heap.size = G := ⟨_, rfl⟩
 rw [hwk] at HX HBK HS
 rw [hG] at HX
 obtain ⟨c0, c3⟩ := HX.out.cs
 have lp := run_ldP HX.out.past
 have lf := run_ldFa HX.out
 go_enter Tryz.func20, Tryz.ntmps20
 go_wp2_with fail
 clear hwk hG hFo
 refine (refFacts_any f _ HS.out).mono ?_
 rintro e w2 ⟨b, rfl, hb, b2⟩
 obtain rfl : b = true := hb.out.2 HFo.out
 have HB2 := hide (HBK.out.trans (b2.mono HBK.out.size))
 have HX2 := hide (HX.out.below b2)
 have HS2 := hide (HS.out.below b2)
 clear b2 hb c0 c3 lp lf HX HS HBK
 have lp := run_ldP HX2.out.past
 go_wp2_with fail
 refine (refEmpty_any f.p _ HS2.out.p).mono ?_
 rintro e w3 ⟨b, rfl, hb, b3⟩
 have HBe : Hid (BIf b (EmptyP f.p.P)) := hb
 have HB3 := hide (HB2.out.trans (b3.mono HB2.out.size))
 have HX3 := hide (HX2.out.below b3)
 have HS3 := hide (HS2.out.below b3)
 clear b3 hb lp HX2 HS2 HB2
 obtain ⟨c0, c3⟩ := HX3.out.cs
 have Han := hide han
 rw [han] at c0
 have Hrn := hide hrn
 rw [hrn] at c3
 clear han hrn
 obtain ⟨ad, e1, A0⟩ := HS3.out.es.at 0 (by have := Han.out; omega)
 obtain ⟨x, Hx⟩ : ∃ x, Hid (f.es.getD 0 K.en0 = x) := ⟨_, rfl⟩
 rw [Hx.out, Nat.zero_mul, K.add_zero] at A0
 obtain ⟨ab, ao, asp⟩ := ad
 obtain rfl : asp = none := by
  have h := A0.c0
  cases asp with
  | none => rfl
  | some _ => unfold World.cell? at h; split at h <;> simp at h
 have q0 : w3.cell? ⟨ab, ao, none⟩ = some (.int .i64 x.rep) := A0.c0
 have q1 : w3.cell? ⟨ab, ao + 1, none⟩ = some (.int .i64 x.num) := A0.c1
 have HQ := hide (And.intro q0 q1)
 rw [e1] at c0
 have HP3 := hide HS3.out.p
 have HC0 := hide c0
 clear A0 q0 q1
 go_wp2_with fail
 clear c0 c3
 refine wp_region_held_drew (S := fun v => (ldP (.pointer (some ⟨G, 1, none⟩))).run Tryz.prog v = .ok (PV f.p) v ∧ v.cell? ⟨G, 0, none⟩ = some (.slice (some ⟨ab, ao, none⟩) 1 f.ac) ∧ v.cell? ⟨ab, ao, none⟩ = some (.int .i64 x.rep) ∧ v.cell? ⟨ab, ao + 1, none⟩ = some (.int .i64 x.num)) (by kernel_rfl) (⟨run_ldP (HX3.out.below (below_drew1 w3)).past, ((below_drew1 w3).cell (World.block_lt_of_cell? _ _ HC0.out)).trans HC0.out, ((below_drew1 w3).cell (World.block_lt_of_cell? _ _ HQ.out.1)).trans HQ.out.1, ((below_drew1 w3).cell (World.block_lt_of_cell? _ _ HQ.out.2)).trans HQ.out.2⟩) (fun hHeld => ?_)
 refine wTk 0 ⟨some 22, .fieldAddr 36 (.tmp 1) 1, 0, "ref.go:225", #[], none⟩ rfl ?_
 refine wTk 1 ⟨some 23, .load 26 (.tmp 22), 26, "ref.go:225", #[⟨0, .data⟩], none⟩ rfl ?_
 refine wTk 2 ⟨some 24, .fieldAddr 36 (.tmp 1) 0, 0, "ref.go:225", #[], none⟩ rfl ?_
 refine wTk 3 ⟨some 25, .load 22 (.tmp 24), 22, "ref.go:225", #[⟨2, .data⟩], none⟩ rfl ?_
 refine wTk 4 ⟨some 26, .indexAddr 22 (.tmp 25) (.const (.int .i64 0)), 0, "ref.go:225", #[⟨3, .data⟩], none⟩ rfl ?_
 refine wTk 5 ⟨some 27, .fieldAddr 46 (.tmp 26) 0, 0, "ref.go:225", #[⟨4, .data⟩], none⟩ rfl ?_
 refine wTk 6 ⟨some 28, .fieldAddr 44 (.tmp 27) 0, 0, "ref.go:225", #[⟨5, .data⟩], none⟩ rfl ?_
 refine wTk 7 ⟨some 29, .load 3 (.tmp 28), 3, "ref.go:225", #[⟨6, .data⟩], none⟩ rfl ?_
 refine wTk 9 ⟨some 31, .fieldAddr 36 (.tmp 1) 0, 0, "ref.go:225", #[], none⟩ rfl ?_
 refine wTk 10 ⟨some 32, .load 22 (.tmp 31), 22, "ref.go:225", #[⟨9, .data⟩], none⟩ rfl ?_
 refine wTk 11 ⟨some 33, .indexAddr 22 (.tmp 32) (.const (.int .i64 0)), 0, "ref.go:225", #[⟨10, .data⟩], none⟩ rfl ?_
 refine wTk 12 ⟨some 34, .fieldAddr 46 (.tmp 33) 0, 0, "ref.go:225", #[⟨11, .data⟩], none⟩ rfl ?_
 refine wTk 13 ⟨some 35, .fieldAddr 44 (.tmp 34) 1, 0, "ref.go:225", #[⟨12, .data⟩], none⟩ rfl ?_
 refine wTk 14 ⟨some 36, .load 3 (.tmp 35), 3, "ref.go:225", #[⟨13, .data⟩], none⟩ rfl ?_
 refine wpAnyH_ready (rs := [8]) (by kernel_rfl) (by simp) (.cons rfl (fun K hK => ?_) .nil)
 go_simp
 go_wp2_with fail
 refine (refLast_any f.p x.rep _ (HP3.out.below (below_drew1 w3))).mono ?_
 rintro e w4 ⟨k, rfl, hk, b4⟩
 have hB4 : Below w3.heap.size w3 w4 := (below_drew1 w3).trans b4
 have HB4 := hide (HB3.out.trans (hB4.mono HB3.out.size))
 have HK := hide hk
 refine hK.out _ _ (⟨run_ldP (HX3.out.below (hB4)).past, ((hB4).cell (World.block_lt_of_cell? _ _ HC0.out)).trans HC0.out, ((hB4).cell (World.block_lt_of_cell? _ _ HQ.out.1)).trans HQ.out.1, ((hB4).cell (World.block_lt_of_cell? _ _ HQ.out.2)).trans HQ.out.2⟩) (fun hHeld => ?_)
 clear hK K b4 hk hB4
 by_cases hkx : x.num ≤ k
 ·have hd : decide (x.num ≤ k) = true := decide_eq_true hkx
  have HE : Hid (EvOf f 2) := .inr (.inl ⟨HFo.out, fun h => by
   have h5 := Han.out
   have h6 := Hrn.out
   rcases h with ⟨h1, h2⟩ | ⟨h1, h2, k2, h3, h4⟩ | ⟨h1, h2, h3⟩
   ·omega
   ·rw [Hx.out] at h3 h4
    have := LastOf.unique HK.out h3
    omega
   ·omega, rfl⟩)
  clear hkx
  refine wTk 15 ⟨some 37, .binOp .geq 3 (.tmp 30) (.tmp 36) 3, 4, "ref.go:225", #[⟨8, .data⟩, ⟨14, .data⟩], none⟩ rfl ?_
  refine wpAnyH_done (by kernel_rfl) ?_ _
  clear hHeld
  go_wp2_with fail
  go_ret
  exact ⟨_, rfl, HE.out, HB4.out⟩
 ·have hd : decide (x.num ≤ k) = false := decide_eq_false hkx
  have HE : Hid (EvOf f 0) := .inr (.inr ⟨HFo.out, .inr (.inl ⟨Han.out, Hrn.out, k, by rw [Hx.out]; exact HK.out, by rw [Hx.out]; omega⟩), rfl⟩)
  clear hkx
  refine wTk 15 ⟨some 37, .binOp .geq 3 (.tmp 30) (.tmp 36) 3, 4, "ref.go:225", #[⟨8, .data⟩, ⟨14, .data⟩], none⟩ rfl ?_
  refine wpAnyH_done (by kernel_rfl) ?_ _
  clear hHeld
  go_wp2_with fail
  go_ret
  exact ⟨_, rfl, HE.out, HB4.out⟩
set_option maxRecDepth 100000 in
theorem refEvent_no (f : Fc) (w : World) (hF : FcOk w f) (hN : ¬ FormF f) : Calls Tryz.prog 20 #[FaV (mkF f)] w fun e w' => GivesK w w' e (EvOf f) := by
 have HN := hide hN
 have HX := hide (FaBox_new w (mkF f))
 have HBK := hide (below_new w (.cells (FaC (mkF f)) 36))
 have HS := hide (hF.below HBK.out)
 clear hF
 obtain ⟨wk, hwk⟩ : ∃ wk, w.alloc (.cells (FaC (mkF f)) 36) = wk := ⟨_, rfl⟩
 obtain ⟨G, hG⟩ : ∃ G, w.heap.size = G := ⟨_, rfl⟩
 rw [hwk] at HX HBK HS
 rw [hG] at HX
 obtain ⟨c0, c3⟩ := HX.out.cs
 have lp := run_ldP HX.out.past
 have lf := run_ldFa HX.out
 go_enter Tryz.func20, Tryz.ntmps20
 go_wp2_with fail
 clear hwk hG hN
 refine (refFacts_any f _ HS.out).mono ?_
 rintro e w2 ⟨b, rfl, hb, b2⟩
 obtain rfl : b = false := by
  cases b with
  | false => rfl
  | true => exact absurd (hb.out.1 rfl) HN.out
 have HE : Hid (EvOf f 1 ∧ Below w.heap.size w w2) := ⟨.inl ⟨HN.out, rfl⟩, HBK.out.trans (b2.mono HBK.out.size)⟩
 clear b2 hb
 go_wp2_with fail
 go_ret
 exact ⟨_, rfl, HE.out.1, HE.out.2⟩
theorem refEvent_any (f : Fc) (w : World) (hF : FcOk w f) : Calls Tryz.prog 20 #[FaV (mkF f)] w fun e w' => GivesK w w' e (EvOf f) := by
 by_cases hFo : FormF f
 ·by_cases h0 : f.an = 0
  ·by_cases k0 : f.rn = 0
   ·exact refEvent_a f w hF hFo h0 k0
   ·by_cases k1 : f.rn = 1
    ·exact refEvent_e f w hF hFo h0 k1
    ·exact refEvent_b f w hF hFo h0 (by omega)
  ·by_cases h1 : f.an = 1
   ·by_cases k0 : f.rn = 0
    ·exact refEvent_f f w hF hFo h1 k0
    ·exact refEvent_c f w hF hFo h1 (by omega)
   ·exact refEvent_d f w hF hFo (by omega)
 ·exact refEvent_no f w hF hFo
end Go.Proofs.YtmbkmpeongodbaaGreat
