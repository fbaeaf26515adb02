/- GOa GAe QLb QNy -/
import Derived.Test.YtaphmhbmhcahaaaGreatTk
import Derived.Test.YtaphmhbmhcahaaaGreatSe18
import Derived.Test.YtaphmhbmhcahaaaGreatSe10
set_option maxRecDepth 100000
set_option maxHeartbeats 1600000
namespace Go.Proofs.YtaphmhbmhcahaaaGreat
section
open Go.RowKit
attribute [local go_sem ↓] ldP_eq stP_eq ldFa_eq stFa_eq ldD_eq stD_eq
attribute [local go_sem] cells_PV PC_size cells_FaV FaC_size cells_RV RC_size zero_RC fold_RC
theorem isOneActs_a (f : Fc) (w : World) (hF : FcOk w f) (han : f.an = 0) (hrn : f.rn = 0) : Calls Tryz.prog 94 #[FaV (mkF f)] w fun e w' => GivB w w' e (OneA f) := by
 have HX := hide (FaBox_new w (mkF f))
 have HBK := hide (below_new w (.cells (FaC (mkF f)) 59))
 have HS := hide (hF.below HBK.out)
 clear hF
 obtain ⟨wk, hwk⟩ : ∃ wk, w.alloc (.cells (FaC (mkF f)) 59) = wk := ⟨_, rfl⟩
 obtain ⟨G, hG⟩ : ∃ G, w.heap.size = G := ⟨_, rfl⟩
 rw [hwk] at HX HBK HS
 rw [hG] at HX
 obtain ⟨c0, c3⟩ := HX.out.cs
 have lp := run_ldP HX.out.past
 have lf := run_ldFa HX.out
 have Han := hide han
 rw [han] at c0
 have Hrn := hide hrn
 rw [hrn] at c3
 clear han hrn
 have HY : Hid (OneA f) := .inl ⟨Han.out, Hrn.out⟩
 go_enter Tryz.func94, Tryz.ntmps94
 go_wp2_with fail
 go_ret
 exact ⟨_, rfl, BIf.yes HY.out, HBK.out⟩
theorem isOneActs_b (f : Fc) (w : World) (hF : FcOk w f) (han : f.an = 0) (hrn : 2 <= f.rn) : Calls Tryz.prog 94 #[FaV (mkF f)] w fun e w' => GivB w w' e (OneA f) := by
 have HX := hide (FaBox_new w (mkF f))
 have HBK := hide (below_new w (.cells (FaC (mkF f)) 59))
 have HS := hide (hF.below HBK.out)
 clear hF
 obtain ⟨wk, hwk⟩ : ∃ wk, w.alloc (.cells (FaC (mkF f)) 59) = wk := ⟨_, rfl⟩
 obtain ⟨G, hG⟩ : ∃ G, w.heap.size = G := ⟨_, rfl⟩
 rw [hwk] at HX HBK HS
 rw [hG] at HX
 obtain ⟨c0, c3⟩ := HX.out.cs
 have lp := run_ldP HX.out.past
 have lf := run_ldFa HX.out
 have Han := hide han
 rw [han] at c0
 have Hrn := hide hrn
 have zrn1 : ((f.rn : Int) == 0) = false := by have := Hrn.out; simp; omega
 have zrn2 : (f.rn == 0) = false := by have := Hrn.out; simp; omega
 have zrn3 : ((f.rn : Int) == 1) = false := by have := Hrn.out; simp; omega
 have zrn4 : (f.rn == 1) = false := by have := Hrn.out; simp; omega
 clear han hrn
 have HN : Hid (¬ OneA f) := fun h => by rcases h with ⟨h1, h2⟩ | ⟨h1, h2, _⟩ | ⟨h1, h2, _⟩ <;> (have := Hrn.out; omega)
 go_enter Tryz.func94, Tryz.ntmps94
 go_wp2_with fail
 go_ret
 exact ⟨_, rfl, BIf.no HN.out, HBK.out⟩
theorem isOneActs_c (f : Fc) (w : World) (hF : FcOk w f) (han : f.an = 1) (hrn : 1 <= f.rn) : Calls Tryz.prog 94 #[FaV (mkF f)] w fun e w' => GivB w w' e (OneA f) := by
 have HX := hide (FaBox_new w (mkF f))
 have HBK := hide (below_new w (.cells (FaC (mkF f)) 59))
 have HS := hide (hF.below HBK.out)
 clear hF
 obtain ⟨wk, hwk⟩ : ∃ wk, w.alloc (.cells (FaC (mkF f)) 59) = wk := ⟨_, rfl⟩
 obtain ⟨G, hG⟩ : ∃ G, w.heap.size = G := ⟨_, rfl⟩
 rw [hwk] at HX HBK HS
 rw [hG] at HX
 obtain ⟨c0, c3⟩ := HX.out.cs
 have lp := run_ldP HX.out.past
 have lf := run_ldFa HX.out
 have Han := hide han
 rw [han] at c0
 have Hrn := hide hrn
 have zrn1 : ((f.rn : Int) == 0) = false := by have := Hrn.out; simp; omega
 have zrn2 : (f.rn == 0) = false := by have := Hrn.out; simp; omega
 clear han hrn
 have HN : Hid (¬ OneA f) := fun h => by rcases h with ⟨h1, h2⟩ | ⟨h1, h2, _⟩ | ⟨h1, h2, _⟩ <;> (have := Hrn.out; have := Han.out; omega)
 go_enter Tryz.func94, Tryz.ntmps94
 go_wp2_with fail
 go_ret
 exact ⟨_, rfl, BIf.no HN.out, HBK.out⟩
theorem isOneActs_d (f : Fc) (w : World) (hF : FcOk w f) (han : 2 <= f.an) : Calls Tryz.prog 94 #[FaV (mkF f)] w fun e w' => GivB w w' e (OneA f) := by
 have HX := hide (FaBox_new w (mkF f))
 have HBK := hide (below_new w (.cells (FaC (mkF f)) 59))
 have HS := hide (hF.below HBK.out)
 clear hF
 obtain ⟨wk, hwk⟩ : ∃ wk, w.alloc (.cells (FaC (mkF f)) 59) = wk := ⟨_, rfl⟩
 obtain ⟨G, hG⟩ : ∃ G, w.heap.size = G := ⟨_, rfl⟩
 rw [hwk] at HX HBK HS
 rw [hG] at HX
 obtain ⟨c0, c3⟩ := HX.out.cs
 have lp := run_ldP HX.out.past
 have lf := run_ldFa HX.out
 have Han := hide han
 have zan1 : ((f.an : Int) == 0) = false := by have := Han.out; simp; omega
 have zan2 : (f.an == 0) = false := by have := Han.out; simp; omega
 have zan3 : ((f.an : Int) == 1) = false := by have := Han.out; simp; omega
 have zan4 : (f.an == 1) = false := by have := Han.out; simp; omega
 clear han
 have HN : Hid (¬ OneA f) := fun h => by rcases h with ⟨h1, h2⟩ | ⟨h1, h2, _⟩ | ⟨h1, h2, _⟩ <;> (have := Han.out; omega)
 go_enter Tryz.func94, Tryz.ntmps94
 go_wp2_with fail
 go_ret
 exact ⟨_, rfl, BIf.no HN.out, HBK.out⟩
theorem isOneActs_e (f : Fc) (w : World) (hF : FcOk w f) (han : f.an = 0) (hrn : f.rn = 1) : Calls Tryz.prog 94 #[FaV (mkF f)] w fun e w' => GivB w w' e (OneA f) := by
 have HX := hide (FaBox_new w (mkF f))
 have HBK := hide (below_new w (.cells (FaC (mkF f)) 59))
 have HS := hide (hF.below HBK.out)
 clear hF
 obtain ⟨wk, hwk⟩ : ∃ wk, w.alloc (.cells (FaC (mkF f)) 59) = wk := ⟨_, rfl⟩
 obtain ⟨G, hG⟩ : ∃ G, w.heap.size = G := ⟨_, rfl⟩
 rw [hwk] at HX HBK HS
 rw [hG] at HX
 obtain ⟨c0, c3⟩ := HX.out.cs
 have lp := run_ldP HX.out.past
 have lf := run_ldFa HX.out
 have Han := hide han
 rw [han] at c0
 have Hrn := hide hrn
 rw [hrn] at c3
 clear han hrn
 go_enter Tryz.func94, Tryz.ntmps94
 go_wp2_with fail
 clear hwk hG
 refine (pastEmpty_any f.p _ HS.out.p).mono ?_
 rintro e w2 ⟨b, rfl, hb, b2⟩
 have HF : Hid (BIf b (OneA f) /\ Below w.heap.size w w2) := ⟨⟨fun h => .inr (.inr ⟨Han.out, Hrn.out, hb.1 h⟩), fun h => by
  have h5 := Han.out
  have h6 := Hrn.out
  rcases h with ⟨h1, h2⟩ | ⟨h1, h2, _⟩ | ⟨h1, h2, h3⟩
  ·omega
  ·omega
  ·exact hb.2 h3⟩, HBK.out.trans (b2.mono HBK.out.size)⟩
 clear hb b2 c0 c3 lp lf
 cases b with
 | true =>
  go_wp2_with fail
  go_ret
  exact ⟨_, rfl, HF.out.1, HF.out.2⟩
 | false =>
  go_wp2_with fail
  go_ret
  exact ⟨_, rfl, HF.out.1, HF.out.2⟩
theorem isOneActs_f (f : Fc) (w : World) (hF : FcOk w f) (han : f.an = 1) (hrn : f.rn = 0) : Calls Tryz.prog 94 #[FaV (mkF f)] w fun e w' => GivB w w' e (OneA f) := by
 have HX := hide (FaBox_new w (mkF f))
 have HBK := hide (below_new w (.cells (FaC (mkF f)) 59))
 have HS := hide (hF.below HBK.out)
 clear hF
 obtain ⟨wk, hwk⟩ : ∃ wk, w.alloc (.cells (FaC (mkF f)) 59) = wk := ⟨_, rfl⟩
 obtain ⟨G, hG⟩ : ∃ G, w.heap.size = G := ⟨_, rfl⟩
 rw [hwk] at HX HBK HS
 rw [hG] at HX
 obtain ⟨c0, c3⟩ := HX.out.cs
 have lp := run_ldP HX.out.past
 have lf := run_ldFa HX.out
 have Han := hide han
 rw [han] at c0
 have Hrn := hide hrn
 rw [hrn] at c3
 clear han hrn
 obtain ⟨ad, e1, A0⟩ := HS.out.es.at 0 (by have := Han.out; omega)
 obtain ⟨x, Hx⟩ : ∃ x, Hid (f.es.getD 0 K.en0 = x) := ⟨_, rfl⟩
 rw [Hx.out, Nat.zero_mul, K.add_zero] at A0
 have R0 : RnAt wk ad ⟨x.rep, x.num⟩ := ⟨A0.c0, A0.c1⟩
 have ld := run_ldD R0
 rw [e1] at c0
 obtain ⟨gd, hgd⟩ : ∃ g, wk.heap.size = g := ⟨_, rfl⟩
 obtain ⟨w1, hst, X1, B1, -⟩ := madeD wk ⟨x.rep, x.num⟩ gd hgd
 have HX1 := hide X1
 have HB1 := hide (HBK.out.trans (B1.mono HBK.out.size))
 have HP1 := hide (HS.out.p.below B1)
 have HF1 := hide (HX.out.below B1)
 clear X1 B1 A0 R0
 go_enter Tryz.func94, Tryz.ntmps94
 go_wp2_with fail
 clear hwk hG hst ld c0 c3 lp lf hgd
 refine wp_region_held_drew (S := fun v => (ldP (.pointer (some ⟨G, 1, none⟩))).run Tryz.prog v = .ok (PV f.p) v /\ v.cell? ⟨gd, 0, none⟩ = some (.int .i64 x.rep) /\ v.cell? ⟨gd, 1, none⟩ = some (.int .i64 x.num)) (by kernel_rfl) (⟨run_ldP (HF1.out.below (below_drew1 w1)).past, (HX1.out.below (below_drew1 w1)).at.c0, (HX1.out.below (below_drew1 w1)).at.c1⟩) (fun hHeld => ?_)
 refine wTk 0 ⟨some 31, .fieldAddr 59 (.tmp 1) 1, 0, "event.go:34", #[], none⟩ rfl ?_
 refine wTk 1 ⟨some 32, .load 26 (.tmp 31), 26, "event.go:34", #[⟨0, .data⟩], none⟩ rfl ?_
 refine wTk 2 ⟨some 33, .fieldAddr 43 (.tmp 3) 0, 0, "event.go:34", #[], none⟩ rfl ?_
 refine wTk 3 ⟨some 34, .load 3 (.tmp 33), 3, "event.go:34", #[⟨2, .data⟩], none⟩ rfl ?_
 refine wTk 5 ⟨some 36, .fieldAddr 43 (.tmp 3) 1, 0, "event.go:34", #[], none⟩ rfl ?_
 refine wTk 6 ⟨some 37, .load 3 (.tmp 36), 3, "event.go:34", #[⟨5, .data⟩], none⟩ rfl ?_
 refine wpAnyH_ready (rs := [4]) (by kernel_rfl) (by simp) (.cons rfl (fun K hK => ?_) .nil)
 go_simp
 go_wp2_with fail
 refine (pastLast_any f.p x.rep _ (HP1.out.below (below_drew1 w1))).mono ?_
 rintro e w2 ⟨k, rfl, hk, b2⟩
 have hB2 : Below w1.heap.size w1 w2 := (below_drew1 w1).trans b2
 have HF : Hid (BIf (decide (k < x.num)) (OneA f) /\ Below w.heap.size w w2) := by
  refine ⟨⟨fun h => .inr (.inl ⟨Han.out, Hrn.out, k, ?_, ?_⟩), fun h => ?_⟩, HB1.out.trans (hB2.mono HB1.out.size)⟩
  ·rw [Hx.out]; exact hk
  ·rw [Hx.out]; exact of_decide_eq_true h
  ·have h5 := Han.out
   have h6 := Hrn.out
   rcases h with ⟨h1, h2⟩ | ⟨h1, h2, k2, h3, h4⟩ | ⟨h1, h2, h3⟩
   ·omega
   ·rw [Hx.out] at h3 h4
    rw [show k = k2 from LastOf.unique hk h3]
    exact decide_eq_true h4
   ·omega
 refine hK.out _ _ (⟨run_ldP (HF1.out.below (hB2)).past, (HX1.out.below (hB2)).at.c0, (HX1.out.below (hB2)).at.c1⟩) (fun hHeld => ?_)
 clear hK K b2 hk hB2
 refine wTk 7 ⟨some 38, .binOp .lss 3 (.tmp 35) (.tmp 37) 3, 4, "event.go:34", #[⟨4, .data⟩, ⟨6, .data⟩], none⟩ rfl ?_
 refine wTk 8 ⟨some 2, .assign (.tmp 38), 4, "event.go:34", #[⟨7, .data⟩, ⟨4, .chain⟩, ⟨0, .phase⟩, ⟨1, .phase⟩, ⟨2, .phase⟩, ⟨3, .phase⟩, ⟨4, .phase⟩, ⟨5, .phase⟩, ⟨6, .phase⟩, ⟨7, .phase⟩], none⟩ rfl ?_
 refine wpAnyH_done (by kernel_rfl) ?_ _
 clear hHeld
 go_wp2_with fail
 go_ret
 exact ⟨_, rfl, HF.out.1, HF.out.2⟩
theorem isOneActs_any (f : Fc) (w : World) (hF : FcOk w f) : Calls Tryz.prog 94 #[FaV (mkF f)] w fun e w' => GivB w w' e (OneA f) := by
 by_cases h0 : f.an = 0
 ·by_cases k0 : f.rn = 0
  ·exact isOneActs_a f w hF h0 k0
  ·by_cases k1 : f.rn = 1
   ·exact isOneActs_e f w hF h0 k1
   ·exact isOneActs_b f w hF h0 (by omega)
 ·by_cases h1 : f.an = 1
  ·by_cases k0 : f.rn = 0
   ·exact isOneActs_f f w hF h1 k0
   ·exact isOneActs_c f w hF h1 (by omega)
  ·exact isOneActs_d f w hF (by omega)
end
section
open Go.RowKit
attribute [local go_sem ↓] ldP_eq stP_eq ldFa_eq stFa_eq ldD_eq stD_eq
attribute [local go_sem] cells_PV PC_size cells_FaV FaC_size cells_RV RC_size zero_RC fold_RC
theorem chk_no {L : List K.En} {n : Nat} (hl : L.length = n) (h : K.okN L n = false) : K.chk L = 1 := by unfold K.chk; rw [hl, h]; rfl
theorem chk_yes {L : List K.En} {n : Nat} (hl : L.length = n) (h : K.okN L n = true) : K.chk L = 0 := by unfold K.chk; rw [hl, h]; rfl
theorem actEvent_any (f : Fc) (w : World) (hF : FcOk w f) : Calls Tryz.prog 51 #[FaV (mkF f)] w fun e w' => GivesK w w' e (EvOf f) := by
 have HX := hide (FaBox_new w (mkF f))
 have HBK := hide (below_new w (.cells (FaC (mkF f)) 59))
 have HS := hide (hF.below HBK.out)
 clear hF
 obtain ⟨wk, hwk⟩ : ∃ wk, w.alloc (.cells (FaC (mkF f)) 59) = wk := ⟨_, rfl⟩
 obtain ⟨G, hG⟩ : ∃ G, w.heap.size = G := ⟨_, rfl⟩
 rw [hwk] at HX HBK HS
 rw [hG] at HX
 obtain ⟨c0, c3⟩ := HX.out.cs
 have lp := run_ldP HX.out.past
 have lf := run_ldFa HX.out
 go_enter Tryz.func51, Tryz.ntmps51
 go_wp2_with fail
 clear hwk hG
 refine (K.lcheck_any f.ao f.an f.ac f.es _ HS.out.es).mono ?_
 rintro e w2 ⟨rfl, b2⟩
 have HB2 := hide (HBK.out.trans (b2.mono HBK.out.size))
 have HX2 := hide (HX.out.below b2)
 have HS2 := hide (HS.out.below b2)
 clear b2 c0 c3 lp lf HX HS HBK
 cases hc : K.okN f.es f.an with
 | false =>
  rw [chk_no HS2.out.es.1 hc]
  have HE : Hid (EvOf f 1) := .inl ⟨(fun h => by have h1 := h.1; rw [hc] at h1; cases h1), rfl⟩
  clear hc
  go_wp2_with fail
  go_ret
  exact ⟨_, rfl, HE.out, HB2.out⟩
 | true =>
  rw [chk_yes HS2.out.es.1 hc]
  have HC := hide hc
  have lp := run_ldP HX2.out.past
  clear hc
  go_wp2_with fail
  refine (isNormP_any f.p _ HS2.out.p).mono ?_
  rintro e w3 ⟨b, rfl, hb, b3⟩
  have HB3 := hide (HB2.out.trans (b3.mono HB2.out.size))
  have HX3 := hide (HX2.out.below b3)
  have HS3 := hide (HS2.out.below b3)
  clear b3 lp HX2 HS2 HB2
  cases b with
  | false =>
   have HE : Hid (EvOf f 1) := .inl ⟨fun h => (by have := hb.out.2 h.2.1; cases this), rfl⟩
   clear hb
   go_wp2_with fail
   go_ret
   exact ⟨_, rfl, HE.out, HB3.out⟩
  | true =>
   have HI : Hid (InForm f.p.P) := hb.out.1 rfl
   have c3 := HX3.out.cs.2
   clear hb
   go_wp2_with fail
   refine (keepCheck_any f.ro f.rn f.rc f.rs _ HS3.out.rs).mono ?_
   rintro e w4 ⟨x, rfl, hx, b4⟩
   have HB4 := hide (HB3.out.trans (b4.mono HB3.out.size))
   have HX4 := hide (HX3.out.below b4)
   have HS4 := hide (HS3.out.below b4)
   clear b4 c3 HX3 HS3 HB3
   rcases hx with ⟨rfl, hr⟩ | ⟨rfl, hr⟩
   ·have HFo : Hid (FormF f) := ⟨HC.out, HI.out, hr⟩
    have lf := run_ldFa HX4.out
    clear hr
    go_wp2_with fail
    refine (isOneActs_any f _ HS4.out).mono ?_
    rintro e w5 ⟨b, rfl, hb, b5⟩
    have HB5 := hide (HB4.out.trans (b5.mono HB4.out.size))
    clear b5 lf
    cases b with
    | true =>
     have HE : Hid (EvOf f 0) := .inr (.inr ⟨HFo.out, hb.out.1 rfl, rfl⟩)
     clear hb
     go_wp2_with fail
     go_ret
     exact ⟨_, rfl, HE.out, HB5.out⟩
    | false =>
     have HE : Hid (EvOf f 2) := .inr (.inl ⟨HFo.out, fun h => (by have := hb.out.2 h; cases this), rfl⟩)
     clear hb
     go_wp2_with fail
     go_ret
     exact ⟨_, rfl, HE.out, HB5.out⟩
   ·have HE : Hid (EvOf f 1) := .inl ⟨fun h => hr h.2.2, rfl⟩
    clear hr
    go_wp2_with fail
    go_ret
    exact ⟨_, rfl, HE.out, HB4.out⟩
end
section
open Go.RowKit
attribute [local go_sem ↓] ldP_eq stP_eq ldJ_eq stJ_eq
attribute [local go_sem] zeros_JA cells_JAv zero_PC cells_PV fold_PC PC_size fold_PC1
theorem tn_most {G N : List Rn} (h : NormOf G N) : (N = [] /\ Most G 0) ∨ (N ≠ [] /\ ∃ t, (tn N).length = t + 2 /\ Most G ((tn N).getD (t + 1) 0 - 1)) := by
 rcases List.eq_nil_or_concat N with e | ⟨i, r, e⟩
 ·subst e
  exact Or.inl ⟨rfl, (Most.start).congr h.2⟩
 ·rw [List.concat_eq_append] at e
  subst e
  refine Or.inr ⟨by simp, 2 * i.length, by rw [tn_length]; simp; omega, ?_⟩
  have e2 : (tn (i ++ [r])).getD (2 * i.length + 1) 0 = r.hi + 1 := by
   rw [tn_snoc, <- tn_length]
   simp [List.getD]
  rw [e2, Int.add_sub_cancel]
  exact (Most.last h.1).congr h.2
theorem refLast_any (a : Pv) (r : Int) (w : World) (hS : PSrc w a) : Calls Tryz.prog 97 #[PV a, .int .i64 r] w fun e w' => GivesZ w w' e (LastOf a.P r) := by
 have b1 := below_new w (.cells (PC a) 26)
 have HX := hide (pbox_new w a)
 have HBK := hide b1
 have HS := hide (hS.below b1)
 have l0 := run_ldP HX.out.at
 clear hS b1
 obtain ⟨wk, hwk⟩ : ∃ wk, w.alloc (.cells (PC a) 26) = wk := ⟨_, rfl⟩
 rw [hwk] at HBK HX HS l0
 by_cases hr0 : 0 <= r
 ·by_cases hr1 : r < 16
  ·obtain ⟨y, rfl⟩ : ∃ y : Nat, r = y := ⟨r.toNat, by omega⟩
   have hy : y < 16 := by omega
   have hrr : ¬ (y : Int) < 0 := by omega
   have hrq : ¬ (16 : Int) <= (y : Int) := by omega
   have HY : Hid (V.isR (y : Int) = true) := by show _ = _; simp [V.isR]; omega
   go_enter Tryz.func97, Tryz.ntmps97
   go_wp2_with fail
   clear hwk
   refine (one_any a _ HS.out).mono ?_
   rintro e w2 ⟨T, N, rfl, hT, b2⟩
   obtain ⟨h1, h2, h3⟩ := hT y hy
   have b3 := below_new w2 (.cells (JA fun _ => si0) 149)
   have X3 := isets_new w2 149 (fun _ => si0)
   have hst := run_stJ (F' := T) X3
   have X4 := ISets.setRow (F' := T) X3
   have b4 := below_setRow (cs := JA T) b3 (Nat.le_refl _)
   have HS4 := hide (h1.below b4)
   have HB4 := hide ((HBK.out.trans (b2.mono HBK.out.size)).trans (b4.mono (Nat.le_trans HBK.out.size b2.size)))
   have HN3 := hide h3
   have c4 := X4.cell y hy
   obtain ⟨ta, tt, tc, hf⟩ : ∃ ta tt tc, (T y).ao = ta /\ (T y).n = tt /\ (T y).cap = tc := ⟨_, _, _, rfl, rfl, rfl⟩
   rw [hf.1, hf.2.1, hf.2.2] at HS4 c4
   have y0 : (0 : Int) <= (y : Int) := by omega
   have y1 : (y : Int) < 16 := by omega
   clear h1 h2 h3 hT b2 b3 b4 X3 X4 l0 hf
   have htl := HS4.out.1
   rcases tn_most HN3.out with ⟨e0, hm⟩ | ⟨e0, t, ht, hm⟩
   ·rw [e0] at htl
    obtain rfl : tt = 0 := htl.symm
    have HF : Hid (LastOf a.P y 0) := Or.inl ⟨HY.out, hm⟩
    clear hm e0 htl
    go_wp2_with fail
    go_ret
    exact ⟨0, rfl, HF.out, HB4.out⟩
   ·have htb : tt <= 1000000002 := by have h1 := form_small (Int.le_refl _) HN3.out.1; have h2 := tn_length (N y); omega
    obtain ⟨u, hu⟩ : ∃ u, u = t + 1 := ⟨_, rfl⟩
    rw [<- hu] at hm
    obtain ⟨ad, had, cz⟩ := isrc_at HS4.out u (by omega)
    subst had
    have hzb := hm.bd
    obtain ⟨z, Hz⟩ : ∃ z, Hid ((tn (N y)).getD u 0 = z) := ⟨_, rfl⟩
    rw [Hz.out] at cz hm hzb
    have HF : Hid (LastOf a.P y (z - 1)) := Or.inl ⟨HY.out, hm⟩
    have ew : IntKind.i64.wrap ((tt : Int) - 1) = (u : Int) := by rw [IntKind.wrap_i64]; omega
    have ez : IntKind.i64.wrap (z - 1) = z - 1 := by rw [IntKind.wrap_i64]; omega
    have hn0 : ¬ (tt : Int) = 0 := by omega
    have hut : (u : Int) < (tt : Int) := by omega
    clear hm e0 ht htl hu t
    go_wp2_with fail
    go_ret
    exact ⟨z - 1, by first | rfl | rw [ez], HF.out, HB4.out⟩
  ·have HF : Hid (LastOf a.P r 0) := Or.inr ⟨by simp [V.isR]; omega, rfl⟩
   have hrr : ¬ r < 0 := by omega
   have hrq : (16 : Int) <= r := by omega
   go_enter Tryz.func97, Tryz.ntmps97
   go_wp2_with fail
   go_ret
   exact ⟨0, rfl, HF.out, HBK.out⟩
 ·have HF : Hid (LastOf a.P r 0) := Or.inr ⟨by simp [V.isR]; omega, rfl⟩
  have hrr : r < 0 := by omega
  go_enter Tryz.func97, Tryz.ntmps97
  go_wp2_with fail
  go_ret
  exact ⟨0, rfl, HF.out, HBK.out⟩
end
section
open Go.RowKit
attribute [local go_sem ↓] ldP_eq stP_eq ldD_eq stD_eq
attribute [local go_sem] zero_PC cells_PV fold_PC PC_size cells_RV RC_size zero_RC fold_RC
theorem build_D (x y : Int) : ((RC rn0).setIfInBounds 0 (.int .i64 x)).setIfInBounds 1 (.int .i64 y) = RC ⟨x, y⟩ := rfl
attribute [local go_sem] build_D
def NxtOf (P : Pst) (r lim : Int) (d : Rn) (x : Int) : Prop := (V.isR r = false /\ d = rn0 /\ x = 3) ∨ (V.isR r = true /\ ∃ k, LastOf P r k /\ ((min lim 1000000000 <= k /\ d = rn0 /\ x = 9) ∨ (k < min lim 1000000000 /\ d = ⟨r, k + 1⟩ /\ x = 0)))
def GivN (w w' : World) (e : Ending) (P : Pst) (r lim : Int) : Prop := ∃ d x, e = .returned (.tuple #[RV d, .int .i64 x]) /\ NxtOf P r lim d x /\ Below w.heap.size w w'
end
end Go.Proofs.YtaphmhbmhcahaaaGreat
