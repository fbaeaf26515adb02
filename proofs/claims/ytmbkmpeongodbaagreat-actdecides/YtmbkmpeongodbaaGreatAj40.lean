/- GOa GAe EJl PVw GVp GVa -/
import Derived.Test.YtmbkmpeongodbaaGreatTk
import Derived.Test.YtmbkmpeongodbaaGreatAj26
import Derived.Test.YtmbkmpeongodbaaGreatAj28
import Derived.Test.YtmbkmpeongodbaaGreatAj37
import Derived.Test.YtmbkmpeongodbaaGreatAj38
import Derived.Test.YtmbkmpeongodbaaGreatAj39
import Derived.Test.YtmbkmpeongodbaaGreatAj20
import Derived.Deep.CutRange
import Derived.Test.YtmbkmpeongodbaaGreatAj00
import Derived.ProofKit
import Derived.OpenShut
import Derived.Lib.SmallJoins
import Derived.HandedShaped
import Derived.SizedLaws
import Derived.ChangeMaps5
import Derived.JoinedCond
import Derived.Test.YtmbkmpeongodbaaGreatAj27
namespace Go.Proofs.YtmbkmpeongodbaaGreat
open Go.RowKit
attribute [local go_sem ↓] ldP_eq stP_eq ldFa_eq stFa_eq ldD_eq stD_eq
attribute [local go_sem] cells_PV PC_size cells_FaV FaC_size cells_RV RC_size zero_RC fold_RC
set_option maxRecDepth 100000 in
set_option maxHeartbeats 1600000 in
theorem isOneActs_a (f : Fc) (w : World) (hF : FcOk w f) (han : f.an = 0) (hrn : f.rn = 0) : Calls Tryz.prog 39 #[FaV (mkF f)] w fun e w' => GivB w w' e (OneA f) := by
 have HX := hide (FaBox_new w (mkF f))
 have HBK := hide (below_new w (.cells (FaC (mkF f)) 36))
 have HS := hide (hF.below HBK.out)
 clear hF
 obtain ⟨wk, hwk⟩ : ∃ wk, w.alloc (.cells (FaC (mkF f)) 36) = wk := ⟨_, rfl⟩
 obtain ⟨G, hG⟩ : ∃ G, w.heap.size = G := ⟨_, rfl⟩
 rw [hwk] at HX HBK HS
 rw [hG] at HX
 obtain ⟨c0, c3⟩ := HX.out.cs
 have lp := run_ldP HX.out.past
 have lf := run_ldFa HX.out
 have Han := hide han
 rw [han] at c0
 have Hrn := hide hrn
 rw [hrn] at c3
 clear han hrn
 have HY : Hid (OneA f) := .inl ⟨Han.out, Hrn.out⟩
 go_enter Tryz.func39, Tryz.ntmps39
 go_wp2_with fail
 go_ret
 exact ⟨_, rfl, BIf.yes HY.out, HBK.out⟩
set_option maxRecDepth 100000 in
set_option maxHeartbeats 1600000 in
theorem isOneActs_b (f : Fc) (w : World) (hF : FcOk w f) (han : f.an = 0) (hrn : 2 ≤ f.rn) : Calls Tryz.prog 39 #[FaV (mkF f)] w fun e w' => GivB w w' e (OneA f) := by
 have HX := hide (FaBox_new w (mkF f))
 have HBK := hide (below_new w (.cells (FaC (mkF f)) 36))
 have HS := hide (hF.below HBK.out)
 clear hF
 obtain ⟨wk, hwk⟩ : ∃ wk, w.alloc (.cells (FaC (mkF f)) 36) = wk := ⟨_, rfl⟩
 obtain ⟨G, hG⟩ : ∃ G, w.heap.size = G := ⟨_, rfl⟩
 rw [hwk] at HX HBK HS
 rw [hG] at HX
 obtain ⟨c0, c3⟩ := HX.out.cs
 have lp := run_ldP HX.out.past
 have lf := run_ldFa HX.out
 have Han := hide han
 rw [han] at c0
 have Hrn := hide hrn
 have zrn1 : ((f.rn : Int) == 0) = false := by have := Hrn.out; simp; omega
 have zrn2 : (f.rn == 0) = false := by have := Hrn.out; simp; omega
 have zrn3 : ((f.rn : Int) == 1) = false := by have := Hrn.out; simp; omega
 have zrn4 : (f.rn == 1) = false := by have := Hrn.out; simp; omega
 clear han hrn
 have HN : Hid (¬ OneA f) := fun h => by rcases h with ⟨h1, h2⟩ | ⟨h1, h2, _⟩ | ⟨h1, h2, _⟩ <;> (have := Hrn.out; omega)
 go_enter Tryz.func39, Tryz.ntmps39
 go_wp2_with fail
 go_ret
 exact ⟨_, rfl, BIf.no HN.out, HBK.out⟩
set_option maxRecDepth 100000 in
set_option maxHeartbeats 1600000 in
theorem isOneActs_c (f : Fc) (w : World) (hF : FcOk w f) (han : f.an = 1) (hrn : 1 ≤ f.rn) : Calls Tryz.prog 39 #[FaV (mkF f)] w fun e w' => GivB w w' e (OneA f) := by
 have HX := hide (FaBox_new w (mkF f))
 have HBK := hide (below_new w (.cells (FaC (mkF f)) 36))
 have HS := hide (hF.below HBK.out)
 clear hF
 obtain ⟨wk, hwk⟩ : ∃ wk, w.alloc (.cells (FaC (mkF f)) 36) = wk := ⟨_, rfl⟩
 obtain ⟨G, hG⟩ : ∃ G, w.heap.size = G := ⟨_, rfl⟩
 rw [hwk] at HX HBK HS
 rw [hG] at HX
 obtain ⟨c0, c3⟩ := HX.out.cs
 have lp := run_ldP HX.out.past
 have lf := run_ldFa HX.out
 have Han := hide han
 rw [han] at c0
 have Hrn := hide hrn
 have zrn1 : ((f.rn : Int) == 0) = false := by have := Hrn.out; simp; omega
 have zrn2 : (f.rn == 0) = false := by have := Hrn.out; simp; omega
 clear han hrn
 have HN : Hid (¬ OneA f) := fun h => by rcases h with ⟨h1, h2⟩ | ⟨h1, h2, _⟩ | ⟨h1, h2, _⟩ <;> (have := Hrn.out; have := Han.out; omega)
 go_enter Tryz.func39, Tryz.ntmps39
 go_wp2_with fail
 go_ret
 exact ⟨_, rfl, BIf.no HN.out, HBK.out⟩
set_option maxRecDepth 100000 in
set_option maxHeartbeats 1600000 in
theorem isOneActs_d (f : Fc) (w : World) (hF : FcOk w f) (han : 2 ≤ f.an) : Calls Tryz.prog 39 #[FaV (mkF f)] w fun e w' => GivB w w' e (OneA f) := by
 have HX := hide (FaBox_new w (mkF f))
 have HBK := hide (below_new w (.cells (FaC (mkF f)) 36))
 have HS := hide (hF.below HBK.out)
 clear hF
 obtain ⟨wk, hwk⟩ : ∃ wk, w.alloc (.cells (FaC (mkF f)) 36) = wk := ⟨_, rfl⟩
 obtain ⟨G, hG⟩ : ∃ G, w.heap.size = G := ⟨_, rfl⟩
 rw [hwk] at HX HBK HS
 rw [hG] at HX
 obtain ⟨c0, c3⟩ := HX.out.cs
 have lp := run_ldP HX.out.past
 have lf := run_ldFa HX.out
 have Han := hide han
 have zan1 : ((f.an : Int) == 0) = false := by have := Han.out; simp; omega
 have zan2 : (f.an == 0) = false := by have := Han.out; simp; omega
 have zan3 : ((f.an : Int) == 1) = false := by have := Han.out; simp; omega
 have zan4 : (f.an == 1) = false := by have := Han.out; simp; omega
 clear han
 have HN : Hid (¬ OneA f) := fun h => by rcases h with ⟨h1, h2⟩ | ⟨h1, h2, _⟩ | ⟨h1, h2, _⟩ <;> (have := Han.out; omega)
 go_enter Tryz.func39, Tryz.ntmps39
 go_wp2_with fail
 go_ret
 exact ⟨_, rfl, BIf.no HN.out, HBK.out⟩
set_option maxRecDepth 100000 in
set_option maxHeartbeats 1600000 in
theorem isOneActs_e (f : Fc) (w : World) (hF : FcOk w f) (han : f.an = 0) (hrn : f.rn = 1) : Calls Tryz.prog 39 #[FaV (mkF f)] w fun e w' => GivB w w' e (OneA f) := by
 have HX := hide (FaBox_new w (mkF f))
 have HBK := hide (below_new w (.cells (FaC (mkF f)) 36))
 have HS := hide (hF.below HBK.out)
 clear hF
 obtain ⟨wk, hwk⟩ : ∃ wk, w.alloc (.cells (FaC (mkF f)) 36) = wk := ⟨_, rfl⟩
 obtain ⟨G, hG⟩ : ∃ G, w.heap.size = G := ⟨_, rfl⟩
 rw [hwk] at HX HBK HS
 rw [hG] at HX
 obtain ⟨c0, c3⟩ := HX.out.cs
 have lp := run_ldP HX.out.past
 have lf := run_ldFa HX.out
 have Han := hide han
 rw [han] at c0
 have Hrn := hide hrn
 rw [hrn] at c3
 clear han hrn
 go_enter Tryz.func39, Tryz.ntmps39
 go_wp2_with fail
 clear hwk hG
 refine (pastEmpty_any f.p _ HS.out.p).mono ?_
 rintro e w2 ⟨b, rfl, hb, b2⟩
 have HF : Hid (BIf b (OneA f) ∧ Below w.heap.size w w2) := ⟨⟨fun h => .inr (.inr ⟨Han.out, Hrn.out, hb.1 h⟩), fun h => by
  have h5 := Han.out
  have h6 := Hrn.out
  rcases h with ⟨h1, h2⟩ | ⟨h1, h2, _⟩ | ⟨h1, h2, h3⟩
  ·omega
  ·omega
  ·exact hb.2 h3⟩, HBK.out.trans (b2.mono HBK.out.size)⟩
 clear hb b2 c0 c3 lp lf
 cases b with
 | true =>
  go_wp2_with fail
  go_ret
  exact ⟨_, rfl, HF.out.1, HF.out.2⟩
 | false =>
  go_wp2_with fail
  go_ret
  exact ⟨_, rfl, HF.out.1, HF.out.2⟩
set_option maxRecDepth 100000 in
set_option maxHeartbeats 1600000 in
theorem isOneActs_f (f : Fc) (w : World) (hF : FcOk w f) (han : f.an = 1) (hrn : f.rn = 0) : Calls Tryz.prog 39 #[FaV (mkF f)] w fun e w' => GivB w w' e (OneA f) := by
 have HX := hide (FaBox_new w (mkF f))
 have HBK := hide (below_new w (.cells (FaC (mkF f)) 36))
 have HS := hide (hF.below HBK.out)
 clear hF
 obtain ⟨wk, hwk⟩ : ∃ wk, w.alloc (.cells (FaC (mkF f)) 36) = wk := ⟨_, rfl⟩
 obtain ⟨G, hG⟩ : ∃ G, w.heap.size = G := ⟨_, rfl⟩
 rw [hwk] at HX HBK HS
 rw [hG] at HX
 obtain ⟨c0, c3⟩ := HX.out.cs
 have lp := run_ldP HX.out.past
 have lf := run_ldFa HX.out
 have Han := hide han
 rw [han] at c0
 have Hrn := hide hrn
 rw [hrn] at c3
 clear han hrn
 obtain ⟨ad, e1, A0⟩ := HS.out.es.at 0 (by have := Han.out; omega)
 obtain ⟨x, Hx⟩ : ∃ x, Hid (f.es.getD 0 K.en0 = x) := ⟨_, rfl⟩
 rw [Hx.out, Nat.zero_mul, K.add_zero] at A0
 have R0 : RnAt wk ad ⟨x.rep, x.num⟩ := ⟨A0.c0, A0.c1⟩
 have ld := run_ldD R0
 rw [e1] at c0
 obtain ⟨gd, hgd⟩ : ∃ g, wk.heap.size = g := ⟨_, rfl⟩
 obtain ⟨w1, hst, X1, B1, -⟩ := madeD wk ⟨x.rep, x.num⟩ gd hgd
 have HX1 := hide X1
 have HB1 := hide (HBK.out.trans (B1.mono HBK.out.size))
 have HP1 := hide (HS.out.p.below B1)
 have HF1 := hide (HX.out.below B1)
 clear X1 B1 A0 R0
 go_enter Tryz.func39, Tryz.ntmps39
 go_wp2_with fail
 clear hwk hG hst ld c0 c3 lp lf hgd
 refine wp_region_held_drew (S := fun v => (ldP (.pointer (some ⟨G, 1, none⟩))).run Tryz.prog v = .ok (PV f.p) v ∧ v.cell? ⟨gd, 0, none⟩ = some (.int .i64 x.rep) ∧ v.cell? ⟨gd, 1, none⟩ = some (.int .i64 x.num)) (by kernel_rfl) (⟨run_ldP (HF1.out.below (below_drew1 w1)).past, (HX1.out.below (below_drew1 w1)).at.c0, (HX1.out.below (below_drew1 w1)).at.c1⟩) (fun hHeld => ?_)
 refine wTk 0 ⟨some 31, .fieldAddr 36 (.tmp 1) 1, 0, "event.go:34", #[], none⟩ rfl ?_
 refine wTk 1 ⟨some 32, .load 26 (.tmp 31), 26, "event.go:34", #[⟨0, .data⟩], none⟩ rfl ?_
 refine wTk 2 ⟨some 33, .fieldAddr 44 (.tmp 3) 0, 0, "event.go:34", #[], none⟩ rfl ?_
 refine wTk 3 ⟨some 34, .load 3 (.tmp 33), 3, "event.go:34", #[⟨2, .data⟩], none⟩ rfl ?_
 refine wTk 5 ⟨some 36, .fieldAddr 44 (.tmp 3) 1, 0, "event.go:34", #[], none⟩ rfl ?_
 refine wTk 6 ⟨some 37, .load 3 (.tmp 36), 3, "event.go:34", #[⟨5, .data⟩], none⟩ rfl ?_
 refine wpAnyH_ready (rs := [4]) (by kernel_rfl) (by simp) (.cons rfl (fun K hK => ?_) .nil)
 go_simp
 go_wp2_with fail
 refine (pastLast_any f.p x.rep _ (HP1.out.below (below_drew1 w1))).mono ?_
 rintro e w2 ⟨k, rfl, hk, b2⟩
 have hB2 : Below w1.heap.size w1 w2 := (below_drew1 w1).trans b2
 have HF : Hid (BIf (decide (k < x.num)) (OneA f) ∧ Below w.heap.size w w2) := by
  refine ⟨⟨fun h => .inr (.inl ⟨Han.out, Hrn.out, k, ?_, ?_⟩), fun h => ?_⟩, HB1.out.trans (hB2.mono HB1.out.size)⟩
  ·rw [Hx.out]; exact hk
  ·rw [Hx.out]; exact of_decide_eq_true h
  ·have h5 := Han.out
   have h6 := Hrn.out
   rcases h with ⟨h1, h2⟩ | ⟨h1, h2, k2, h3, h4⟩ | ⟨h1, h2, h3⟩
   ·omega
   ·rw [Hx.out] at h3 h4
    rw [show k = k2 from LastOf.unique hk h3]
    exact decide_eq_true h4
   ·omega
 refine hK.out _ _ (⟨run_ldP (HF1.out.below (hB2)).past, (HX1.out.below (hB2)).at.c0, (HX1.out.below (hB2)).at.c1⟩) (fun hHeld => ?_)
 clear hK K b2 hk hB2
 refine wTk 7 ⟨some 38, .binOp .lss 3 (.tmp 35) (.tmp 37) 3, 4, "event.go:34", #[⟨4, .data⟩, ⟨6, .data⟩], none⟩ rfl ?_
 refine wTk 8 ⟨some 2, .assign (.tmp 38), 4, "event.go:34", #[⟨7, .data⟩, ⟨4, .chain⟩, ⟨0, .phase⟩, ⟨1, .phase⟩, ⟨2, .phase⟩, ⟨3, .phase⟩, ⟨4, .phase⟩, ⟨5, .phase⟩, ⟨6, .phase⟩, ⟨7, .phase⟩], none⟩ rfl ?_
 refine wpAnyH_done (by kernel_rfl) ?_ _
 clear hHeld
 go_wp2_with fail
 go_ret
 exact ⟨_, rfl, HF.out.1, HF.out.2⟩
theorem isOneActs_any (f : Fc) (w : World) (hF : FcOk w f) : Calls Tryz.prog 39 #[FaV (mkF f)] w fun e w' => GivB w w' e (OneA f) := by
 by_cases h0 : f.an = 0
 ·by_cases k0 : f.rn = 0
  ·exact isOneActs_a f w hF h0 k0
  ·by_cases k1 : f.rn = 1
   ·exact isOneActs_e f w hF h0 k1
   ·exact isOneActs_b f w hF h0 (by omega)
 ·by_cases h1 : f.an = 1
  ·by_cases k0 : f.rn = 0
   ·exact isOneActs_f f w hF h1 k0
   ·exact isOneActs_c f w hF h1 (by omega)
  ·exact isOneActs_d f w hF (by omega)
end Go.Proofs.YtmbkmpeongodbaaGreat
namespace Go.Proofs.YtmbkmpeongodbaaGreat
open Go.RowKit
attribute [local go_sem ↓] ldP_eq stP_eq ldFa_eq stFa_eq ldD_eq stD_eq
attribute [local go_sem] cells_PV PC_size cells_FaV FaC_size cells_RV RC_size zero_RC fold_RC
theorem chk_no {L : List K.En} {n : Nat} (hl : L.length = n) (h : K.okN L n = false) : K.chk L = 1 := by unfold K.chk; rw [hl, h]; rfl
theorem chk_yes {L : List K.En} {n : Nat} (hl : L.length = n) (h : K.okN L n = true) : K.chk L = 0 := by unfold K.chk; rw [hl, h]; rfl
set_option maxRecDepth 100000 in
set_option maxHeartbeats 1600000 in
theorem actEvent_any (f : Fc) (w : World) (hF : FcOk w f) : Calls Tryz.prog 10 #[FaV (mkF f)] w fun e w' => GivesK w w' e (EvOf f) := by
 have HX := hide (FaBox_new w (mkF f))
 have HBK := hide (below_new w (.cells (FaC (mkF f)) 36))
 have HS := hide (hF.below HBK.out)
 clear hF
 obtain ⟨wk, hwk⟩ : ∃ wk, w.alloc (.cells (FaC (mkF f)) 36) = wk := ⟨_, rfl⟩
 obtain ⟨G, hG⟩ : ∃ G, w.heap.size = G := ⟨_, rfl⟩
 rw [hwk] at HX HBK HS
 rw [hG] at HX
 obtain ⟨c0, c3⟩ := HX.out.cs
 have lp := run_ldP HX.out.past
 have lf := run_ldFa HX.out
 go_enter Tryz.func10, Tryz.ntmps10
 go_wp2_with fail
 clear hwk hG
 refine (K.lcheck_any f.ao f.an f.ac f.es _ HS.out.es).mono ?_
 rintro e w2 ⟨rfl, b2⟩
 have HB2 := hide (HBK.out.trans (b2.mono HBK.out.size))
 have HX2 := hide (HX.out.below b2)
 have HS2 := hide (HS.out.below b2)
 clear b2 c0 c3 lp lf HX HS HBK
 cases hc : K.okN f.es f.an with
 | false =>
  rw [chk_no HS2.out.es.1 hc]
  have HE : Hid (EvOf f 1) := .inl ⟨(fun h => by have h1 := h.1; rw [hc] at h1; cases h1), rfl⟩
  clear hc
  go_wp2_with fail
  go_ret
  exact ⟨_, rfl, HE.out, HB2.out⟩
 | true =>
  rw [chk_yes HS2.out.es.1 hc]
  have HC := hide hc
  have lp := run_ldP HX2.out.past
  clear hc
  go_wp2_with fail
  refine (isNormP_any f.p _ HS2.out.p).mono ?_
  rintro e w3 ⟨b, rfl, hb, b3⟩
  have HB3 := hide (HB2.out.trans (b3.mono HB2.out.size))
  have HX3 := hide (HX2.out.below b3)
  have HS3 := hide (HS2.out.below b3)
  clear b3 lp HX2 HS2 HB2
  cases b with
  | false =>
   have HE : Hid (EvOf f 1) := .inl ⟨fun h => (by have := hb.out.2 h.2.1; cases this), rfl⟩
   clear hb
   go_wp2_with fail
   go_ret
   exact ⟨_, rfl, HE.out, HB3.out⟩
  | true =>
   have HI : Hid (InForm f.p.P) := hb.out.1 rfl
   have c3 := HX3.out.cs.2
   clear hb
   go_wp2_with fail
   refine (keepCheck_any f.ro f.rn f.rc f.rs _ HS3.out.rs).mono ?_
   rintro e w4 ⟨x, rfl, hx, b4⟩
   have HB4 := hide (HB3.out.trans (b4.mono HB3.out.size))
   have HX4 := hide (HX3.out.below b4)
   have HS4 := hide (HS3.out.below b4)
   clear b4 c3 HX3 HS3 HB3
   rcases hx with ⟨rfl, hr⟩ | ⟨rfl, hr⟩
   ·have HFo : Hid (FormF f) := ⟨HC.out, HI.out, hr⟩
    have lf := run_ldFa HX4.out
    clear hr
    go_wp2_with fail
    refine (isOneActs_any f _ HS4.out).mono ?_
    rintro e w5 ⟨b, rfl, hb, b5⟩
    have HB5 := hide (HB4.out.trans (b5.mono HB4.out.size))
    clear b5 lf
    cases b with
    | true =>
     have HE : Hid (EvOf f 0) := .inr (.inr ⟨HFo.out, hb.out.1 rfl, rfl⟩)
     clear hb
     go_wp2_with fail
     go_ret
     exact ⟨_, rfl, HE.out, HB5.out⟩
    | false =>
     have HE : Hid (EvOf f 2) := .inr (.inl ⟨HFo.out, fun h => (by have := hb.out.2 h; cases this), rfl⟩)
     clear hb
     go_wp2_with fail
     go_ret
     exact ⟨_, rfl, HE.out, HB5.out⟩
   ·have HE : Hid (EvOf f 1) := .inl ⟨fun h => hr h.2.2, rfl⟩
    clear hr
    go_wp2_with fail
    go_ret
    exact ⟨_, rfl, HE.out, HB4.out⟩
end Go.Proofs.YtmbkmpeongodbaaGreat
namespace Go.Proofs.YtmbkmpeongodbaaGreat
open Go.RowKit
theorem refDecide_any (ao : Option Addr) (n c : Nat) (L : List K.En) (p : Pv) (r ln ct k : Int) (s : ByteArray) (q : Int) (a : Pv) (w : World) (hS : K.ESrc w ao n c L) (hP : PSrc w p) (hA : PSrc w a) (hs : s.size ≤ maxLen) :
  Calls Tryz.prog 7 #[.slice ao n c, PV p, .int .i64 r, LmV ⟨ln, ct⟩, AcV (mkA k s q a)] w fun e w' => DeA w w' e (DeD L p.P r ln ct k s q a.P) := by
 by_cases h1 : K.chk L = 0
 rotate_left
 ·exact refDec_e1 ao n c L p r ln ct k s q a w hS hP hA hs h1
 by_cases h2 : InForm p.P
 rotate_left
 ·exact refDec_e2 ao n c L p r ln ct k s q a w hS hP hA hs h1 h2
 by_cases h3 : SeenAll L p.P
 rotate_left
 ·exact refDec_e3 ao n c L p r ln ct k s q a w hS hP hA hs h1 h2 h3
 by_cases h4 : RepOk r
 rotate_left
 ·exact refDec_e4 ao n c L p r ln ct k s q a w hS hP hA hs h3 h4
 by_cases h5 : LimOk ln ct
 rotate_left
 ·exact refDec_e5 ao n c L p r ln ct k s q a w hS hP hA hs h3 h4 h5
 by_cases h6 : AckOf k a.P s q 0
 rotate_left
 ·exact refDec_e6 ao n c L p r ln ct k s q a w hS hP hA hs h3 h4 h5 h6
 have hi : ∀ f er, RuD L p.P r ln ct k s q a.P f er → DeD L p.P r ln ct k s q a.P f er := fun f er h => .inr ⟨h3, .inr ⟨h4, .inr ⟨h5, .inr ⟨h6, h⟩⟩⟩⟩
 obtain ⟨g1, g2, -⟩ := ack_zero h6
 have : k = 1 ∨ k = 2 ∨ k = 3 ∨ k = 4 ∨ k = 5 ∨ k = 6 := by omega
 rcases this with rfl | rfl | rfl | rfl | rfl | rfl
 ·exact (refDec_1 ao n c L p r ln ct s q a w hS hP hA hs h3 h4 h5 h6).mono fun e w' h => h.imp hi
 ·exact (refDec_2 ao n c L p r ln ct s q a w hS hP hA hs h3 h4 h5 h6).mono fun e w' h => h.imp hi
 ·exact (refDec_3 ao n c L p r ln ct s q a w hS hP hA hs h3 h4 h5 h6).mono fun e w' h => h.imp hi
 ·exact (refDec_4 ao n c L p r ln ct s q a w hS hP hA hs h3 h4 h5 h6).mono fun e w' h => h.imp hi
 ·exact (refDec_5 ao n c L p r ln ct s q a w hS hP hA hs h3 h4 h5 h6).mono fun e w' h => h.imp hi
 ·exact (refDec_6 ao n c L p r ln ct s q a w hS hP hA hs h3 h4 h5 h6).mono fun e w' h => h.imp hi
def EvN (P : Pst) (f : Fc) : Prop := EvOf f 0 ∧ (f.es = [] ∨ ∃ e1 : K.En, f.es = [e1] ∧ ¬ dotIn P ⟨e1.rep, e1.num⟩)
theorem re_event {L O : List K.En} {P : Pst} {r ct : Int} {s : ByteArray} {q : Int} {f : Fc} (hS : SeenAll L P) (hO : ∀ x ∈ O, x ∈ L) (hg : K.good s.data.toList = true) (hq : 1 ≤ q ∧ q ≤ 1000000) (h : ReD P r ct O s q f 0) (hl : f.es.length = f.an) (hm : f.rs.length = f.rn) : EvN P f := by
 obtain ⟨d, hd, he, hC, hr⟩ := re_ok h
 obtain ⟨h1, h2, h3, h4, h5⟩ := nx_new hd
 have hc : K.ceE ⟨d.lo, d.hi, s, q⟩ = 0 := ce_of (by rw [← h2] at h1; exact h1) ⟨h3, h4⟩ hg hq
 refine ⟨(ev_add hS hO hd he ⟨rfl, rfl⟩ hc hC hr hl hm).1, .inr ⟨_, he, fun hin => ?_⟩⟩
 have := h5 ⟨d.lo, d.hi, s, q⟩ h2 ((inB_iff P _).2 hin)
 exact absurd this (Int.lt_irrefl _)
theorem gone_event {O : List K.En} {P : Pst} {f : Fc} (h : GoneD O f 0) (hl : f.es.length = f.an) (hm : f.rs.length = f.rn) : EvN P f := by
 obtain ⟨he, hr, hC, -⟩ := h
 have hrn : f.rn = 0 := by rw [← hm, hr]; rfl
 exact ⟨(ev_none (L := []) he hl (chain_of_canon hC) (by rw [hrn]; exact okR_zero _) (.inl hrn)).1, .inl he⟩
theorem rec_event {s : ByteArray} {A P : Pst} {f : Fc} (hs : skuR s = true) (h : RecD s A f 0) (hl : f.es.length = f.an) (hm : f.rs.length = f.rn) : EvN P f := by
 obtain ⟨-, ⟨hE, he, hp, hr⟩ | ⟨hE, he, hp, rc, hr, hrs, hC⟩⟩ := h
 ·have hrn : f.rn = 0 := by rw [← hm, hr]; rfl
  exact ⟨(ev_none (L := []) he hl (by rw [hp]; exact zero_form) (by rw [hrn]; exact okR_zero _) (.inl hrn)).1, .inl he⟩
 ·have hrn : f.rn = 1 := by rw [← hm, hr]; rfl
  have hform : OkR f.rs f.rn := by
   rw [hrn, hr]
   intro j hj
   obtain rfl : j = 0 := by omega
   refine ⟨⟨by show skuR rc.s = true; rw [hrs]; exact hs, chain_of_canon hC, fun h => hE fun r hr n hn => h r hr n ((canon_mem hC r hr n).2 hn)⟩, fun h => absurd h (by decide)⟩
  exact ⟨(ev_none (L := []) he hl (by rw [hp]; exact zero_form) hform (.inr ⟨hrn, by rw [hp]; exact zero_empty⟩)).1, .inl he⟩
theorem dec_event {L : List K.En} {P A : Pst} {r ln ct k : Int} {s : ByteArray} {q : Int} {f : Fc} (h : DeD L P r ln ct k s q A f 0) (hl : f.es.length = f.an) (hm : f.rs.length = f.rn) : EvN P f := by
 obtain ⟨hS, -, -, hk, hR⟩ := dec_ok h
 obtain ⟨-, -, -, hg, hq⟩ := ack_zero hk
 have hok := K.chk_all hS.1
 rcases hR with ⟨rfl, hR⟩ | ⟨rfl, hR⟩ | ⟨rfl, hR⟩ | ⟨rfl, hR⟩ | ⟨rfl, hR⟩ | ⟨rfl, hR⟩
 ·rcases hR with ⟨-, -, h⟩ | ⟨-, hR⟩
  ·exact absurd h (by decide)
  exact re_event hS (fun x hx => (flS_mem.1 hx).1) (hg (by decide)) (hq (by decide)) hR hl hm
 ·rcases hR with ⟨-, -, h⟩ | ⟨-, -, -, h⟩ | ⟨-, hov, hR⟩
  ·exact absurd h (by decide)
  ·exact absurd h (by decide)
  have hpt : K.ttl (flS L s) = K.ttl (flO L r s) + K.ttl (L.filter (fun e => !(e.rep == r) && K.eqS e.sku s)) := ttl_part L (fun e => K.eqS e.sku s) (fun e => e.rep == r)
  have hb1 := (K.ttl_bd (flO L r s) (fun e he => hok e (flO_mem.1 he).1)).1
  have hb2 := (K.ttl_bd (L.filter (fun e => !(e.rep == r) && K.eqS e.sku s)) (fun e he => hok e (List.mem_filter.1 he).1)).1
  have hq2 := hq (by decide)
  exact re_event hS (fun x hx => (flO_mem.1 hx).1) (hg (by decide)) ⟨by omega, by omega⟩ hR hl hm
 ·rcases hR with ⟨-, -, h⟩ | ⟨hne, hR⟩
  ·exact absurd h (by decide)
  exact gone_event hR hl hm
 ·exact rec_event (by unfold skuR; rw [hg (by decide), Bool.or_true]) hR hl hm
 ·exact gone_event hR hl hm
 ·exact rec_event (by rfl) hR hl hm
attribute [local go_sem ↓] ldP_eq stP_eq ldFa_eq stFa_eq ldAc_eq stAc_eq ldLm_eq stLm_eq ldD_eq stD_eq
attribute [local go_sem] cells_PV PC_size cells_FaV FaC_size zero_Fa0 cells_AcV AcC_size cells_LmV LmC_size cells_RV RC_size
set_option maxRecDepth 100000 in
set_option maxHeartbeats 6400000 in
theorem actDecides_law (x : Wsh) (w : World) (hW : WshOk w x) :
  Calls Tryz.prog 3 #[WiV (mkW x)] w fun e w' => e = .returned (.bool true) ∧ Below w.heap.size w w' := by
 have HX := hide (WiBox_new w (mkW x))
 have HBK := hide (below_new w (.cells (WiC (mkW x)) 32))
 have HW := hide (hW.below HBK.out)
 clear hW
 obtain ⟨wk, hwk⟩ : ∃ wk, w.alloc (.cells (WiC (mkW x)) 32) = wk := ⟨_, rfl⟩
 obtain ⟨G, hG⟩ : ∃ G, w.heap.size = G := ⟨_, rfl⟩
 rw [hwk] at HX HBK HW
 rw [hG] at HX
 go_enter Tryz.func3, Tryz.ntmps3
 go_wp2_with fail
 clear hwk hG
 refine (known_any wk).mono ?_
 rintro e w1 ⟨rfl, b1⟩
 have HB1 := hide b1
 clear b1
 have l0 := (HX.out.below HB1.out).live
 have l1 := run_ldP (HX.out.below HB1.out).past
 have l2 := (HX.out.below HB1.out).rep
 have l3 := run_laLm (HX.out.below HB1.out).lim
 have l4 := run_laAc (HX.out.below HB1.out).act
 go_wp2_with fail
 clear l0 l1 l2 l3 l4
 refine (refDecide_any x.ao x.n x.c x.L x.p x.r x.ln x.ct x.k x.s x.q x.a w1 (HW.out.live.below HB1.out) (HW.out.p.below HB1.out) (HW.out.a.below HB1.out) HW.out.s).mono ?_
 rintro e w2 ⟨h, eh, rfl, F2, -, b2, D2⟩
 have HDh := hide D2
 obtain ⟨g3, hg3⟩ : ∃ g3, w2.heap.size = g3 := ⟨_, rfl⟩
 obtain ⟨w3, hst, X3, B3, -⟩ := madeFa w2 (mkF h) g3 hg3
 have HB3 := hide (HB1.out.trans ((b2.trans (B3.mono b2.size)).mono HB1.out.size))
 have HH := hide (F2.below B3)
 have HXh := hide X3
 clear F2 b2 D2 B3 X3 HB1
 have l0 := (HX.out.below HB3.out).live
 have l1 := run_ldP (HX.out.below HB3.out).past
 have l2 := (HX.out.below HB3.out).rep
 have l3 := run_laLm (HX.out.below HB3.out).lim
 have l4 := run_laAc (HX.out.below HB3.out).act
 go_wp2_with fail
 clear l0 l1 l2 l3 l4 hst hg3
 refine (decide_any x.ao x.n x.c x.L x.p x.r x.ln x.ct x.k x.s x.q x.a w3 (HW.out.live.below HB3.out) (HW.out.p.below HB3.out) (HW.out.a.below HB3.out) HW.out.s HW.out.k).mono ?_
 rintro e w4 ⟨f, er, rfl, F4, -, b4, D4⟩
 obtain ⟨rfl, hsf⟩ := D4.one HDh.out
 have HD := hide D4
 have HSf := hide hsf
 obtain ⟨g5, hg5⟩ : ∃ g5, w4.heap.size = g5 := ⟨_, rfl⟩
 obtain ⟨w5, hst, X5, B5, -⟩ := madeFa w4 (mkF f) g5 hg5
 have HB5 := hide (HB3.out.trans ((b4.trans (B5.mono b4.size)).mono HB3.out.size))
 have HF := hide (F4.below B5)
 have HH5 := hide ((HH.out.below b4).below B5)
 have HXf := hide X5
 have HXh5 := hide ((HXh.out.below b4).below B5)
 have HFl : Hid (f.es.length = f.an ∧ f.rs.length = f.rn) := ⟨F4.es.1, F4.rs.len⟩
 clear F4 b4 D4 B5 X5 HB3 HH HXh hsf HDh
 have heq : (er != er) = false := by simp
 have lf := run_ldFa HXf.out
 have lh := run_ldFa HXh5.out
 go_wp2_with fail
 clear hst hg5 heq lf lh
 refine (facts_true f h w5 HF.out HH5.out HSf.out).mono ?_
 rintro e w6 ⟨rfl, b6⟩
 have HB6 := hide (HB5.out.trans (b6.mono HB5.out.size))
 have HF6 := hide (HF.out.below b6)
 have HXf6 := hide (HXf.out.below b6)
 clear b6 HF HH5 HXf HXh5 HB5
 by_cases he : er = 0
 rotate_left
 ·have heb : (er != 0) = true := by simp [he]
  have HBf := hide (HBK.out.trans (HB6.out.mono HBK.out.size))
  go_wp2_with fail
  go_ret
  exact ⟨rfl, HBf.out⟩
 subst he
 have lf := run_ldFa HXf6.out
 have HEv := hide (dec_event HD.out HFl.out.1 HFl.out.2)
 go_wp2_with fail
 clear lf
 refine (actEvent_any f w6 HF6.out).mono ?_
 rintro e w7 ⟨z, rfl, hz, b7⟩
 obtain rfl : z = 0 := hz.unique HEv.out.1
 have HB7 := hide (HB6.out.trans (b7.mono HB6.out.size))
 have HXf7 := hide (HXf6.out.below b7)
 have HF7 := hide (HF6.out.below b7)
 have HBf := hide (HBK.out.trans (HB7.out.mono HBK.out.size))
 clear hz b7 HF6 HXf6 HB6
 go_wp2_with fail
 rcases HEv.out.2 with he | ⟨e1, he, hnd⟩
 ·have han : f.an = 0 := by rw [← HFl.out.1, he]; rfl
  have HZ := hide (HXf7.out.cs.1)
  rw [han] at HZ
  have HDr := hide (below_drew1 w7)
  refine wp_region_held_drew (S := fun v => v.cell? ⟨g5, 0, none⟩ = some (.slice f.ao 0 f.ac)) (by kernel_rfl) (by rw [HDr.out.cell (World.block_lt_of_cell? _ _ HZ.out)]; exact HZ.out) (fun hHeld => ?_)
  refine wTk 0 ⟨some 51, .fieldAddr 36 (.tmp 5) 0, 0, "law.go:69", #[], none⟩ rfl ?_
  refine wTk 1 ⟨some 52, .load 22 (.tmp 51), 22, "law.go:69", #[⟨0, .data⟩], none⟩ rfl ?_
  refine wTk 2 ⟨some 53, .call ⟨.builtin .len, #[.tmp 52], #[22]⟩, 3, "law.go:69", #[⟨1, .data⟩], none⟩ rfl ?_
  refine wTk 3 ⟨some 54, .binOp .eql 3 (.tmp 53) (.const (.int .i64 0)) 3, 4, "law.go:69", #[⟨2, .data⟩], none⟩ rfl ?_
  refine wTk 4 ⟨some 55, .move (.tmp 54), 4, "law.go:69", #[⟨3, .data⟩], none⟩ rfl ?_
  refine wSk 5 ⟨some 56, .fieldAddr 32 (.tmp 1) 1, 0, "law.go:69", #[⟨4, .guard⟩], some (4, false)⟩ rfl ?_
  refine wSk 6 ⟨some 57, .load 26 (.tmp 56), 26, "law.go:69", #[⟨5, .data⟩, ⟨4, .guard⟩], some (4, false)⟩ rfl ?_
  refine wSk 7 ⟨some 58, .fieldAddr 36 (.tmp 5) 0, 0, "law.go:69", #[⟨4, .guard⟩], some (4, false)⟩ rfl ?_
  refine wSk 8 ⟨some 59, .load 22 (.tmp 58), 22, "law.go:69", #[⟨7, .data⟩, ⟨4, .guard⟩], some (4, false)⟩ rfl ?_
  refine wSk 9 ⟨some 60, .indexAddr 22 (.tmp 59) (.const (.int .i64 0)), 0, "law.go:69", #[⟨8, .data⟩, ⟨4, .guard⟩], some (4, false)⟩ rfl ?_
  refine wSk 10 ⟨some 61, .fieldAddr 46 (.tmp 60) 0, 0, "law.go:69", #[⟨9, .data⟩, ⟨4, .guard⟩], some (4, false)⟩ rfl ?_
  refine wSk 11 ⟨some 62, .load 44 (.tmp 61), 44, "law.go:69", #[⟨10, .data⟩, ⟨4, .guard⟩], some (4, false)⟩ rfl ?_
  refine wSk 12 ⟨some 63, .call ⟨.value (.func 11), #[.tmp 57, .tmp 62], #[26, 44]⟩, 4, "law.go:69", #[⟨6, .data⟩, ⟨11, .data⟩, ⟨4, .chain⟩, ⟨4, .guard⟩], some (4, false)⟩ rfl ?_
  refine wSk 13 ⟨some 64, .unOp .not 4 (.tmp 63), 4, "law.go:69", #[⟨12, .data⟩, ⟨4, .guard⟩], some (4, false)⟩ rfl ?_
  refine wTk 14 ⟨some 65, .pick (.tmp 55) (.const (.bool true)) (.tmp 64), 4, "law.go:69", #[⟨4, .data⟩, ⟨13, .data⟩], none⟩ rfl ?_
  refine wTk 15 ⟨some 2, .assign (.tmp 65), 4, "law.go:69", #[⟨14, .data⟩, ⟨12, .chain⟩, ⟨0, .phase⟩, ⟨1, .phase⟩, ⟨2, .phase⟩, ⟨3, .phase⟩, ⟨4, .phase⟩, ⟨5, .phase⟩, ⟨6, .phase⟩, ⟨7, .phase⟩, ⟨8, .phase⟩, ⟨9, .phase⟩, ⟨10, .phase⟩, ⟨11, .phase⟩, ⟨12, .phase⟩, ⟨13, .phase⟩, ⟨14, .phase⟩], none⟩ rfl ?_
  refine wpAnyH_done (by kernel_rfl) ?_ _
  clear hHeld
  have HBg := hide (HBf.out.trans ((below_drew1 w7).mono HBf.out.size))
  go_wp2_with fail
  go_ret
  exact ⟨rfl, HBg.out⟩
 ·have han : f.an = 1 := by rw [← HFl.out.1, he]; rfl
  obtain ⟨ad, hao, A0⟩ := HF7.out.es.at 0 (by rw [han]; decide)
  rw [he, Nat.zero_mul, K.add_zero] at A0
  have HZ := hide (HXf7.out.cs.1)
  rw [han, hao] at HZ
  have HA0 : Hid (K.EnAt w7 ad e1) := A0
  have HND := hide hnd
  have hsp := World.cell?_spot A0.c0
  obtain ⟨bb, oo, sp⟩ := ad
  have hsp2 : sp = none := hsp
  subst hsp2
  clear A0 hnd hsp
  have HDr := hide (below_drew1 w7)
  have HDk := hide (HB7.out.trans ((below_drew1 w7).mono HB7.out.size))
  refine wp_region_held_drew (S := fun v => (v.cell? ⟨g5, 0, none⟩ = some (.slice (some ⟨bb, oo, none⟩) 1 f.ac) ∧ (ldD (.pointer (some ⟨bb, oo, none⟩))).run Tryz.prog v = .ok (.agg #[.int .i64 e1.rep, .int .i64 e1.num]) v) ∧ (ldP (.pointer (some ⟨G, 1, none⟩))).run Tryz.prog v = .ok (PV x.p) v) (by kernel_rfl) (⟨⟨by rw [HDr.out.cell (World.block_lt_of_cell? _ _ HZ.out)]; exact HZ.out, run_ldD (r := ⟨e1.rep, e1.num⟩) ⟨(HA0.out.on HDr.out).c0, (HA0.out.on HDr.out).c1⟩⟩, run_ldP (HX.out.below HDk.out).past⟩) (fun hHeld => ?_)
  refine wTk 0 ⟨some 51, .fieldAddr 36 (.tmp 5) 0, 0, "law.go:69", #[], none⟩ rfl ?_
  refine wTk 1 ⟨some 52, .load 22 (.tmp 51), 22, "law.go:69", #[⟨0, .data⟩], none⟩ rfl ?_
  refine wTk 2 ⟨some 53, .call ⟨.builtin .len, #[.tmp 52], #[22]⟩, 3, "law.go:69", #[⟨1, .data⟩], none⟩ rfl ?_
  refine wTk 3 ⟨some 54, .binOp .eql 3 (.tmp 53) (.const (.int .i64 0)) 3, 4, "law.go:69", #[⟨2, .data⟩], none⟩ rfl ?_
  refine wTk 4 ⟨some 55, .move (.tmp 54), 4, "law.go:69", #[⟨3, .data⟩], none⟩ rfl ?_
  refine wTk 5 ⟨some 56, .fieldAddr 32 (.tmp 1) 1, 0, "law.go:69", #[⟨4, .guard⟩], some (4, false)⟩ rfl ?_
  refine wTk 6 ⟨some 57, .load 26 (.tmp 56), 26, "law.go:69", #[⟨5, .data⟩, ⟨4, .guard⟩], some (4, false)⟩ rfl ?_
  refine wTk 7 ⟨some 58, .fieldAddr 36 (.tmp 5) 0, 0, "law.go:69", #[⟨4, .guard⟩], some (4, false)⟩ rfl ?_
  refine wTk 8 ⟨some 59, .load 22 (.tmp 58), 22, "law.go:69", #[⟨7, .data⟩, ⟨4, .guard⟩], some (4, false)⟩ rfl ?_
  refine wTk 9 ⟨some 60, .indexAddr 22 (.tmp 59) (.const (.int .i64 0)), 0, "law.go:69", #[⟨8, .data⟩, ⟨4, .guard⟩], some (4, false)⟩ rfl ?_
  refine wTk 10 ⟨some 61, .fieldAddr 46 (.tmp 60) 0, 0, "law.go:69", #[⟨9, .data⟩, ⟨4, .guard⟩], some (4, false)⟩ rfl ?_
  refine wTk 11 ⟨some 62, .load 44 (.tmp 61), 44, "law.go:69", #[⟨10, .data⟩, ⟨4, .guard⟩], some (4, false)⟩ rfl ?_
  refine wpAnyH_ready (rs := [12]) (by kernel_rfl) (by simp) (.cons rfl (fun K hK => ?_) .nil)
  go_simp
  go_wp2_with fail
  refine (refHas_any x.p ⟨e1.rep, e1.num⟩ _ (HW.out.p.below HDk.out)).mono ?_
  rintro e w8 ⟨b, rfl, hb, b8⟩
  obtain rfl : b = false := by
   cases b
   ·rfl
   ·exact absurd (hb.out.1 rfl) HND.out
  have HB8 := hide (HDk.out.trans (b8.mono HDk.out.size))
  have HR8 := hide (HDr.out.trans (b8.mono HDr.out.size))
  refine hK.out _ _ ⟨⟨by rw [HR8.out.cell (World.block_lt_of_cell? _ _ HZ.out)]; exact HZ.out, run_ldD (r := ⟨e1.rep, e1.num⟩) ⟨(HA0.out.on HR8.out).c0, (HA0.out.on HR8.out).c1⟩⟩, run_ldP (HX.out.below HB8.out).past⟩ (fun hHeld => ?_)
  clear hK K hb b8
  refine wTk 13 ⟨some 64, .unOp .not 4 (.tmp 63), 4, "law.go:69", #[⟨12, .data⟩, ⟨4, .guard⟩], some (4, false)⟩ rfl ?_
  refine wTk 14 ⟨some 65, .pick (.tmp 55) (.const (.bool true)) (.tmp 64), 4, "law.go:69", #[⟨4, .data⟩, ⟨13, .data⟩], none⟩ rfl ?_
  refine wTk 15 ⟨some 2, .assign (.tmp 65), 4, "law.go:69", #[⟨14, .data⟩, ⟨12, .chain⟩, ⟨0, .phase⟩, ⟨1, .phase⟩, ⟨2, .phase⟩, ⟨3, .phase⟩, ⟨4, .phase⟩, ⟨5, .phase⟩, ⟨6, .phase⟩, ⟨7, .phase⟩, ⟨8, .phase⟩, ⟨9, .phase⟩, ⟨10, .phase⟩, ⟨11, .phase⟩, ⟨12, .phase⟩, ⟨13, .phase⟩, ⟨14, .phase⟩], none⟩ rfl ?_
  refine wpAnyH_done (by kernel_rfl) ?_ _
  clear hHeld
  have HBg := hide (HBK.out.trans (HB8.out.mono HBK.out.size))
  go_wp2_with fail
  go_ret
  exact ⟨rfl, HBg.out⟩
end Go.Proofs.YtmbkmpeongodbaaGreat
namespace Go.Proofs.YtmbkmpeongodbaaGreat
open Go.ChangeShapes Go.WideShapes Go.ChangeAt Go.RowKit Go.Joins

theorem own : ownKnob Tryz.prog.godebug = none := by kernel_rfl
theorem laidOut : laidOutB Tryz.prog = true := by kernel_rfl
theorem cellsS : Tryz.prog.cellsOf 89 = 3 := by kernel_rfl
theorem cellsI : Tryz.prog.cellsOf 3 = 1 := by kernel_rfl
theorem cellsP : Tryz.prog.cellsOf 26 = 2 := by kernel_rfl
theorem cellsV : Tryz.prog.cellsOf 23 = 1 := by kernel_rfl
theorem cellsC : Tryz.prog.cellsOf 24 = 1 := by kernel_rfl
theorem list2 {α : Type} {l : List α} (h : l.length = 2) : ∃ a b, l = [a, b] := by
 match l, h with
 | [a, b], _ => exact ⟨a, b, rfl⟩
theorem list3 {α : Type} {l : List α} (h : l.length = 3) : ∃ a b c, l = [a, b, c] := by
 match l, h with
 | [a, b, c], _ => exact ⟨a, b, c, rfl⟩
theorem open_span {H : Type} {enc : TypeId × Value → H} {w : World} {base : Nat} {spare : Nat → Bool} {held : Bool} {fuel : Nat} {cs : List Value} {x : DataW H × List MemPlace}
  (h : DataW.trod enc Tryz.prog w base spare held fuel 89 cs = some x) : ∃ e : Sn, cs = (SC e).toList := by
 obtain ⟨xs, m, _, hx, hcl, hxl, hf⟩ := DataW.trod_struct Tryz.underlying89 h
 obtain ⟨v0, v1, v2, rfl⟩ := list3 (hcl.trans cellsS)
 obtain ⟨y0, y1, y2, rfl⟩ := list3 hxl
 have t0 := hf 0 _ rfl
 have t1 := hf 1 _ rfl
 have t2 := hf 2 _ rfl
 simp [cellsI] at t0 t1 t2
 obtain ⟨r, e0, -, _⟩ := DataW.trod_int Tryz.underlying3 t0
 obtain ⟨n, e1, -, _⟩ := DataW.trod_int Tryz.underlying3 t1
 obtain ⟨m', e2, -, _⟩ := DataW.trod_int Tryz.underlying3 t2
 simp only [List.cons.injEq, and_true] at e0 e1 e2
 subst e0 e1 e2
 exact ⟨⟨r, n, m'⟩, rfl⟩
end Go.Proofs.YtmbkmpeongodbaaGreat
namespace Go.Proofs.YtmbkmpeongodbaaGreat
open Go.ChangeShapes Go.WideShapes Go.ChangeAt Go.RowKit Go.Joins

theorem bytesI : Tryz.prog.bytesOf 3 = 8 := by kernel_rfl
theorem bytesS : Tryz.prog.bytesOf 89 = 24 := by kernel_rfl
theorem viewIw {H : Type} {enc : TypeId × Value → H} {W : World} {fuel : Nat} {v : Value} {x : DataW H × List MemPlace}
  (h : DataW.trod enc Tryz.prog W 0 (fun _ => true) true fuel 23 [v] = some x) (hw : ∀ n ∈ x.1.weights Tryz.prog 23, n ≤ reachBytes) : ∃ (ao : Option Addr) (n cap : Nat) (Z : List Int), v = .slice ao n cap ∧ V.Src W ao n cap Z ∧ n ≤ 17592186044415 := by
 have h2 := reachBytes_lt
 rcases DataW.trod_slice Tryz.underlying23 h with h0 | ⟨a, len, cap, elems, rest, n, _, hcs, hx, hb, hl, hm, hlen, hel, hsp, hns⟩
 ·have e : v = .slice none 0 0 := by simpa using h0.1
  exact ⟨none, 0, 0, [], e, ⟨rfl, fun _ => ⟨rfl, rfl⟩, fun ad h => (by cases h)⟩, Nat.zero_le _⟩
 ·subst hx
  have e : v = .slice (some a) len cap := by simpa using hcs
  have h1 := hw (((elems.map (·.1)).length + (rest.map (·.1)).length) * Tryz.prog.bytesOf 3) (by simp [DataW.weights, Tryz.underlying23])
  rw [bytesI] at h1
  simp at h1
  have key : ∀ i, i < len → ∃ z : Int, W.cell? (a.add i) = some (.int .i64 z) := by
   intro i hi
   have he := hel i hi
   obtain ⟨y, hy⟩ : ∃ y, elems[i]? = some y := ⟨_, List.getElem?_eq_getElem (by omega)⟩
   rw [hy, cellsI, Option.bind_eq_some_iff] at he
   obtain ⟨cs', hcs, hy'⟩ := he
   obtain ⟨hl', -, hce⟩ := World.cells?_some hcs
   obtain ⟨z, rfl, -, _⟩ := DataW.trod_int Tryz.underlying3 hy'
   have g0 := hce 0 (by omega)
   rw [add_zero, Nat.mul_one] at g0
   exact ⟨z, g0⟩
  refine ⟨some a, len, cap, (List.range len).map fun i => if h : i < len then Classical.choose (key i h) else 0, e, ⟨by simp, fun h => (by cases h), fun ad h t ht => ?_⟩, by omega⟩
  obtain rfl := Option.some.inj h
  have : ((List.range len).map fun i => if h : i < len then Classical.choose (key i h) else 0).getD t 0 = Classical.choose (key t ht) := by simp [List.getD, ht]
  rw [this]
  exact Classical.choose_spec (key t ht)
theorem viewCw {H : Type} {enc : TypeId × Value → H} {W : World} {fuel : Nat} {v : Value} {x : DataW H × List MemPlace}
  (h : DataW.trod enc Tryz.prog W 0 (fun _ => true) true fuel 24 [v] = some x) (hw : ∀ n ∈ x.1.weights Tryz.prog 24, n ≤ reachBytes) : ∃ (ao : Option Addr) (n cap : Nat) (L : List Sn), v = .slice ao n cap ∧ SSrc W ao n cap L := by
 have h2 := reachBytes_lt
 rcases DataW.trod_slice Tryz.underlying24 h with h0 | ⟨a, len, cap, elems, rest, n, _, hcs, hx, hb, hl, hm, hlen, hel, hsp, hns⟩
 ·have e : v = .slice none 0 0 := by simpa using h0.1
  exact ⟨none, 0, 0, [], e, SSrc.empty _⟩
 ·subst hx
  have e : v = .slice (some a) len cap := by simpa using hcs
  have h1 := hw (((elems.map (·.1)).length + (rest.map (·.1)).length) * Tryz.prog.bytesOf 89) (by simp [DataW.weights, Tryz.underlying24])
  rw [bytesS] at h1
  simp at h1
  have key : ∀ i, i < len → ∃ e : Sn, SnAt W (a.add (i * 3)) e := by
   intro i hi
   have he := hel i hi
   obtain ⟨y, hy⟩ : ∃ y, elems[i]? = some y := ⟨_, List.getElem?_eq_getElem (by omega)⟩
   rw [hy, cellsS, Option.bind_eq_some_iff] at he
   obtain ⟨cs', hcs, hy'⟩ := he
   obtain ⟨_, -, hce⟩ := World.cells?_some hcs
   obtain ⟨e, rfl⟩ := open_span hy'
   have g0 := hce 0 (by omega)
   rw [add_zero] at g0
   exact ⟨e, ⟨g0, hce 1 (by omega), hce 2 (by omega)⟩⟩
  refine ⟨some a, len, cap, (List.range len).map fun i => if h : i < len then Classical.choose (key i h) else sn0, e, ⟨by simp, fun h => (by cases h), fun ad h t ht => ?_, by omega, hl⟩⟩
  obtain rfl := Option.some.inj h
  have : ((List.range len).map fun i => if h : i < len then Classical.choose (key i h) else sn0).getD t sn0 = Classical.choose (key t ht) := by simp [List.getD, ht]
  rw [this]
  exact Classical.choose_spec (key t ht)
theorem viewPw {H : Type} {enc : TypeId × Value → H} {W : World} {fuel : Nat} {cs : List Value} {x : DataW H × List MemPlace}
  (h : DataW.trod enc Tryz.prog W 0 (fun _ => true) true fuel 26 cs = some x) (hw : ∀ n ∈ x.1.weights Tryz.prog 26, n ≤ reachBytes) : ∃ p : Pv, cs = [.slice p.vo p.vn p.vc, .slice p.co p.cn p.cc] ∧ PSrc W p := by
 obtain ⟨xs, m, _, hx, hcl, hxl, hf⟩ := DataW.trod_struct Tryz.underlying26 h
 obtain ⟨v0, v1, rfl⟩ := list2 (hcl.trans cellsP)
 obtain ⟨y0, y1, rfl⟩ := list2 hxl
 have t0 := hf 0 _ rfl
 have t1 := hf 1 _ rfl
 simp [cellsV, cellsC] at t0 t1
 subst hx
 simp only [DataW.weights, Tryz.underlying26] at hw
 obtain ⟨a0, l0, c0, Z, rfl, S0, g0⟩ := viewIw t0 (fun n hn => hw n (DataW.weights_mem_each (j := 0) (t := 23) rfl rfl n hn))
 obtain ⟨a1, l1, c1, L, rfl, S1⟩ := viewCw t1 (fun n hn => hw n (DataW.weights_mem_each (j := 1) (t := 24) rfl rfl n hn))
 exact ⟨⟨a0, l0, c0, a1, l1, c1, ⟨Z, L⟩⟩, rfl, ⟨S0, S1, g0⟩⟩
end Go.Proofs.YtmbkmpeongodbaaGreat
namespace Go.Proofs.YtmbkmpeongodbaaGreat
open Go.ChangeShapes Go.WideShapes Go.ChangeAt Go.RowKit Go.Joins

theorem cellsAc : Tryz.prog.cellsOf 30 = 5 := by kernel_rfl
theorem cellsSt : Tryz.prog.cellsOf 9 = 1 := by kernel_rfl
theorem list4 {α : Type} {l : List α} (h : l.length = 4) : ∃ a b c d, l = [a, b, c, d] := by
 match l, h with
 | [a, b, c, d], _ => exact ⟨a, b, c, d, rfl⟩
theorem list5 {α : Type} {l : List α} (h : l.length = 5) : ∃ a b c d e, l = [a, b, c, d, e] := by
 match l, h with
 | [a, b, c, d, e], _ => exact ⟨a, b, c, d, e, rfl⟩
theorem i64_of_wf' {n : Int} (h : (Lit.int .i64 n).wf = true) : i64ok n := by
 have e1 : IntKind.i64.min = -9223372036854775808 := by decide
 have e2 : IntKind.i64.max = 9223372036854775807 := by decide
 simp only [Lit.wf, e1, e2, Bool.and_eq_true, decide_eq_true_eq] at h
 exact h
theorem open_act {H : Type} {enc : TypeId × Value → H} {W : World} {fuel : Nat} {cs : List Value} {x : DataW H × List MemPlace}
  (h : DataW.trod enc Tryz.prog W 0 (fun _ => true) true fuel 30 cs = some x) (hw : ∀ n ∈ x.1.weights Tryz.prog 30, n ≤ reachBytes) : ∃ (k : Int) (s : ByteArray) (q : Int) (p : Pv), cs = (AcC (mkA k s q p)).toList ∧ PSrc W p ∧ s.size ≤ maxLen ∧ i64ok k := by
 obtain ⟨xs, m, _, hx, hcl, hxl, hf⟩ := DataW.trod_struct Tryz.underlying30 h
 obtain ⟨v0, v1, v2, v3, v4, rfl⟩ := list5 (hcl.trans cellsAc)
 obtain ⟨y0, y1, y2, y3, rfl⟩ := list4 hxl
 have t0 := hf 0 _ rfl
 have t1 := hf 1 _ rfl
 have t2 := hf 2 _ rfl
 have t3 := hf 3 _ rfl
 simp [cellsP, cellsI, cellsSt] at t0 t1 t2 t3
 subst hx
 simp only [DataW.weights, Tryz.underlying30] at hw
 obtain ⟨k, e0, -, wf0⟩ := DataW.trod_int Tryz.underlying3 t0
 obtain ⟨s, e1, -, hs⟩ := DataW.trod_string Tryz.underlying9 t1
 obtain ⟨q, e2, -, _⟩ := DataW.trod_int Tryz.underlying3 t2
 obtain ⟨p, ep, Sp⟩ := viewPw t3 (fun n hn => hw n (DataW.weights_mem_each (j := 3) (t := 26) rfl rfl n hn))
 simp only [List.cons.injEq, and_true] at e0 e1 e2 ep
 obtain ⟨rfl, rfl⟩ := ep
 subst e0 e1 e2
 exact ⟨k, s, q, p, rfl, Sp, hs, i64_of_wf' wf0⟩
end Go.Proofs.YtmbkmpeongodbaaGreat

