/- GRv SXh -/
import Derived.Test.YtaphmhbmhcahaaaGreatTk
import Derived.Test.YtaphmhbmhcahaaaGreatSe39
import Derived.Test.YtaphmhbmhcahaaaGreatSe40
import Derived.Test.YtaphmhbmhcahaaaGreatSe32
import Derived.Test.YtaphmhbmhcahaaaGreatSe37
import Derived.Test.YtaphmhbmhcahaaaGreatSe38
import Derived.Test.YtaphmhbmhcahaaaGreatSe10
set_option maxRecDepth 100000
set_option maxHeartbeats 3200000
namespace Go.Proofs.YtaphmhbmhcahaaaGreat
section
open Go.RowKit
attribute [local go_sem ↓] ldP_eq stP_eq ldFa_eq stFa_eq ldD_eq stD_eq
attribute [local go_sem] cells_PV PC_size cells_FaV FaC_size cells_RV RC_size zero_RC fold_RC
theorem refEvent_a (f : Fc) (w : World) (hF : FcOk w f) (hFo : FormF f) (han : f.an = 0) (hrn : f.rn = 0) : Calls Tryz.prog 53 #[FaV (mkF f)] w fun e w' => GivesK w w' e (EvOf f) := by
 have HFo := hide hFo
 have HX := hide (FaBox_new w (mkF f))
 have HBK := hide (below_new w (.cells (FaC (mkF f)) 59))
 have HS := hide (hF.below HBK.out)
 clear hF
 obtain ⟨wk, hwk⟩ : ∃ wk, w.alloc (.cells (FaC (mkF f)) 59) = wk := ⟨_, rfl⟩
 obtain ⟨G, hG⟩ : ∃ G, w.heap.size = G := ⟨_, rfl⟩
 rw [hwk] at HX HBK HS
 rw [hG] at HX
 obtain ⟨c0, c3⟩ := HX.out.cs
 have lp := run_ldP HX.out.past
 have lf := run_ldFa HX.out
 go_enter Tryz.func53, Tryz.ntmps53
 go_wp2_with fail
 clear hwk hG hFo
 refine (refFacts_any f _ HS.out).mono ?_
 rintro e w2 ⟨b, rfl, hb, b2⟩
 obtain rfl : b = true := hb.out.2 HFo.out
 have HB2 := hide (HBK.out.trans (b2.mono HBK.out.size))
 have HX2 := hide (HX.out.below b2)
 have HS2 := hide (HS.out.below b2)
 clear b2 hb c0 c3 lp lf HX HS HBK
 have lp := run_ldP HX2.out.past
 go_wp2_with fail
 refine (refEmpty_any f.p _ HS2.out.p).mono ?_
 rintro e w3 ⟨b, rfl, hb, b3⟩
 have HBe : Hid (BIf b (EmptyP f.p.P)) := hb
 have HB3 := hide (HB2.out.trans (b3.mono HB2.out.size))
 have HX3 := hide (HX2.out.below b3)
 have HS3 := hide (HS2.out.below b3)
 clear b3 hb lp HX2 HS2 HB2
 obtain ⟨c0, c3⟩ := HX3.out.cs
 have Han := hide han
 rw [han] at c0
 have Hrn := hide hrn
 rw [hrn] at c3
 clear han hrn
 have HE : Hid (EvOf f 0) := .inr (.inr ⟨HFo.out, .inl ⟨Han.out, Hrn.out⟩, rfl⟩)
 go_wp2_with fail
 go_ret
 exact ⟨_, rfl, HE.out, HB3.out⟩
theorem refEvent_b (f : Fc) (w : World) (hF : FcOk w f) (hFo : FormF f) (han : f.an = 0) (hrn : 2 <= f.rn) : Calls Tryz.prog 53 #[FaV (mkF f)] w fun e w' => GivesK w w' e (EvOf f) := by
 have HFo := hide hFo
 have HX := hide (FaBox_new w (mkF f))
 have HBK := hide (below_new w (.cells (FaC (mkF f)) 59))
 have HS := hide (hF.below HBK.out)
 clear hF
 obtain ⟨wk, hwk⟩ : ∃ wk, w.alloc (.cells (FaC (mkF f)) 59) = wk := ⟨_, rfl⟩
 obtain ⟨G, hG⟩ : ∃ G, w.heap.size = G := ⟨_, rfl⟩
 rw [hwk] at HX HBK HS
 rw [hG] at HX
 obtain ⟨c0, c3⟩ := HX.out.cs
 have lp := run_ldP HX.out.past
 have lf := run_ldFa HX.out
 go_enter Tryz.func53, Tryz.ntmps53
 go_wp2_with fail
 clear hwk hG hFo
 refine (refFacts_any f _ HS.out).mono ?_
 rintro e w2 ⟨b, rfl, hb, b2⟩
 obtain rfl : b = true := hb.out.2 HFo.out
 have HB2 := hide (HBK.out.trans (b2.mono HBK.out.size))
 have HX2 := hide (HX.out.below b2)
 have HS2 := hide (HS.out.below b2)
 clear b2 hb c0 c3 lp lf HX HS HBK
 have lp := run_ldP HX2.out.past
 go_wp2_with fail
 refine (refEmpty_any f.p _ HS2.out.p).mono ?_
 rintro e w3 ⟨b, rfl, hb, b3⟩
 have HBe : Hid (BIf b (EmptyP f.p.P)) := hb
 have HB3 := hide (HB2.out.trans (b3.mono HB2.out.size))
 have HX3 := hide (HX2.out.below b3)
 have HS3 := hide (HS2.out.below b3)
 clear b3 hb lp HX2 HS2 HB2
 obtain ⟨c0, c3⟩ := HX3.out.cs
 have Han := hide han
 rw [han] at c0
 have Hrn := hide hrn
 have zrn1 : ((f.rn : Int) == 0) = false := by have := Hrn.out; simp; omega
 have zrn2 : (f.rn == 0) = false := by have := Hrn.out; simp; omega
 have zrn3 : ((f.rn : Int) == 1) = false := by have := Hrn.out; simp; omega
 have zrn4 : (f.rn == 1) = false := by have := Hrn.out; simp; omega
 clear han hrn
 have HE : Hid (EvOf f 2) := .inr (.inl ⟨HFo.out, fun h => by rcases h with ⟨h1, h2⟩ | ⟨h1, h2, _⟩ | ⟨h1, h2, _⟩ <;> (have := Hrn.out; omega), rfl⟩)
 go_wp2_with fail
 go_ret
 exact ⟨_, rfl, HE.out, HB3.out⟩
theorem refEvent_c (f : Fc) (w : World) (hF : FcOk w f) (hFo : FormF f) (han : f.an = 1) (hrn : 1 <= f.rn) : Calls Tryz.prog 53 #[FaV (mkF f)] w fun e w' => GivesK w w' e (EvOf f) := by
 have HFo := hide hFo
 have HX := hide (FaBox_new w (mkF f))
 have HBK := hide (below_new w (.cells (FaC (mkF f)) 59))
 have HS := hide (hF.below HBK.out)
 clear hF
 obtain ⟨wk, hwk⟩ : ∃ wk, w.alloc (.cells (FaC (mkF f)) 59) = wk := ⟨_, rfl⟩
 obtain ⟨G, hG⟩ : ∃ G, w.heap.size = G := ⟨_, rfl⟩
 rw [hwk] at HX HBK HS
 rw [hG] at HX
 obtain ⟨c0, c3⟩ := HX.out.cs
 have lp := run_ldP HX.out.past
 have lf := run_ldFa HX.out
 go_enter Tryz.func53, Tryz.ntmps53
 go_wp2_with fail
 clear hwk hG hFo
 refine (refFacts_any f _ HS.out).mono ?_
 rintro e w2 ⟨b, rfl, hb, b2⟩
 obtain rfl : b = true := hb.out.2 HFo.out
 have HB2 := hide (HBK.out.trans (b2.mono HBK.out.size))
 have HX2 := hide (HX.out.below b2)
 have HS2 := hide (HS.out.below b2)
 clear b2 hb c0 c3 lp lf HX HS HBK
 have lp := run_ldP HX2.out.past
 go_wp2_with fail
 refine (refEmpty_any f.p _ HS2.out.p).mono ?_
 rintro e w3 ⟨b, rfl, hb, b3⟩
 have HBe : Hid (BIf b (EmptyP f.p.P)) := hb
 have HB3 := hide (HB2.out.trans (b3.mono HB2.out.size))
 have HX3 := hide (HX2.out.below b3)
 have HS3 := hide (HS2.out.below b3)
 clear b3 hb lp HX2 HS2 HB2
 obtain ⟨c0, c3⟩ := HX3.out.cs
 have Han := hide han
 rw [han] at c0
 have Hrn := hide hrn
 have zrn1 : ((f.rn : Int) == 0) = false := by have := Hrn.out; simp; omega
 have zrn2 : (f.rn == 0) = false := by have := Hrn.out; simp; omega
 clear han hrn
 have HE : Hid (EvOf f 2) := .inr (.inl ⟨HFo.out, fun h => by rcases h with ⟨h1, h2⟩ | ⟨h1, h2, _⟩ | ⟨h1, h2, _⟩ <;> (have := Hrn.out; have := Han.out; omega), rfl⟩)
 go_wp2_with fail
 go_ret
 exact ⟨_, rfl, HE.out, HB3.out⟩
theorem refEvent_d (f : Fc) (w : World) (hF : FcOk w f) (hFo : FormF f) (han : 2 <= f.an) : Calls Tryz.prog 53 #[FaV (mkF f)] w fun e w' => GivesK w w' e (EvOf f) := by
 have HFo := hide hFo
 have HX := hide (FaBox_new w (mkF f))
 have HBK := hide (below_new w (.cells (FaC (mkF f)) 59))
 have HS := hide (hF.below HBK.out)
 clear hF
 obtain ⟨wk, hwk⟩ : ∃ wk, w.alloc (.cells (FaC (mkF f)) 59) = wk := ⟨_, rfl⟩
 obtain ⟨G, hG⟩ : ∃ G, w.heap.size = G := ⟨_, rfl⟩
 rw [hwk] at HX HBK HS
 rw [hG] at HX
 obtain ⟨c0, c3⟩ := HX.out.cs
 have lp := run_ldP HX.out.past
 have lf := run_ldFa HX.out
 go_enter Tryz.func53, Tryz.ntmps53
 go_wp2_with fail
 clear hwk hG hFo
 refine (refFacts_any f _ HS.out).mono ?_
 rintro e w2 ⟨b, rfl, hb, b2⟩
 obtain rfl : b = true := hb.out.2 HFo.out
 have HB2 := hide (HBK.out.trans (b2.mono HBK.out.size))
 have HX2 := hide (HX.out.below b2)
 have HS2 := hide (HS.out.below b2)
 clear b2 hb c0 c3 lp lf HX HS HBK
 have lp := run_ldP HX2.out.past
 go_wp2_with fail
 refine (refEmpty_any f.p _ HS2.out.p).mono ?_
 rintro e w3 ⟨b, rfl, hb, b3⟩
 have HBe : Hid (BIf b (EmptyP f.p.P)) := hb
 have HB3 := hide (HB2.out.trans (b3.mono HB2.out.size))
 have HX3 := hide (HX2.out.below b3)
 have HS3 := hide (HS2.out.below b3)
 clear b3 hb lp HX2 HS2 HB2
 obtain ⟨c0, c3⟩ := HX3.out.cs
 have Han := hide han
 have zan1 : ((f.an : Int) == 0) = false := by have := Han.out; simp; omega
 have zan2 : (f.an == 0) = false := by have := Han.out; simp; omega
 have zan3 : ((f.an : Int) == 1) = false := by have := Han.out; simp; omega
 have zan4 : (f.an == 1) = false := by have := Han.out; simp; omega
 clear han
 have HE : Hid (EvOf f 2) := .inr (.inl ⟨HFo.out, fun h => by rcases h with ⟨h1, h2⟩ | ⟨h1, h2, _⟩ | ⟨h1, h2, _⟩ <;> (have := Han.out; omega), rfl⟩)
 go_wp2_with fail
 go_ret
 exact ⟨_, rfl, HE.out, HB3.out⟩
theorem refEvent_e (f : Fc) (w : World) (hF : FcOk w f) (hFo : FormF f) (han : f.an = 0) (hrn : f.rn = 1) : Calls Tryz.prog 53 #[FaV (mkF f)] w fun e w' => GivesK w w' e (EvOf f) := by
 have HFo := hide hFo
 have HX := hide (FaBox_new w (mkF f))
 have HBK := hide (below_new w (.cells (FaC (mkF f)) 59))
 have HS := hide (hF.below HBK.out)
 clear hF
 obtain ⟨wk, hwk⟩ : ∃ wk, w.alloc (.cells (FaC (mkF f)) 59) = wk := ⟨_, rfl⟩
 obtain ⟨G, hG⟩ : ∃ G, w.heap.size = G := ⟨_, rfl⟩
 rw [hwk] at HX HBK HS
 rw [hG] at HX
 obtain ⟨c0, c3⟩ := HX.out.cs
 have lp := run_ldP HX.out.past
 have lf := run_ldFa HX.out
 go_enter Tryz.func53, Tryz.ntmps53
 go_wp2_with fail
 clear hwk hG hFo
 refine (refFacts_any f _ HS.out).mono ?_
 rintro e w2 ⟨b, rfl, hb, b2⟩
 obtain rfl : b = true := hb.out.2 HFo.out
 have HB2 := hide (HBK.out.trans (b2.mono HBK.out.size))
 have HX2 := hide (HX.out.below b2)
 have HS2 := hide (HS.out.below b2)
 clear b2 hb c0 c3 lp lf HX HS HBK
 have lp := run_ldP HX2.out.past
 go_wp2_with fail
 refine (refEmpty_any f.p _ HS2.out.p).mono ?_
 rintro e w3 ⟨b, rfl, hb, b3⟩
 have HBe : Hid (BIf b (EmptyP f.p.P)) := hb
 have HB3 := hide (HB2.out.trans (b3.mono HB2.out.size))
 have HX3 := hide (HX2.out.below b3)
 have HS3 := hide (HS2.out.below b3)
 clear b3 hb lp HX2 HS2 HB2
 obtain ⟨c0, c3⟩ := HX3.out.cs
 have Han := hide han
 rw [han] at c0
 have Hrn := hide hrn
 rw [hrn] at c3
 clear han hrn
 cases b with
 | true =>
  have HE : Hid (EvOf f 0) := .inr (.inr ⟨HFo.out, .inr (.inr ⟨Han.out, Hrn.out, HBe.out.out.1 rfl⟩), rfl⟩)
  go_wp2_with fail
  go_ret
  exact ⟨_, rfl, HE.out, HB3.out⟩
 | false =>
  have HNo : Hid (¬ OneA f) := fun h => by
   have h5 := Han.out
   have h6 := Hrn.out
   rcases h with ⟨h1, h2⟩ | ⟨h1, h2, _⟩ | ⟨h1, h2, h3⟩
   ·omega
   ·omega
   ·have := HBe.out.out.2 h3
    cases this
  have HE : Hid (EvOf f 2) := .inr (.inl ⟨HFo.out, HNo.out, rfl⟩)
  go_wp2_with fail
  go_ret
  exact ⟨_, rfl, HE.out, HB3.out⟩
theorem refEvent_f (f : Fc) (w : World) (hF : FcOk w f) (hFo : FormF f) (han : f.an = 1) (hrn : f.rn = 0) : Calls Tryz.prog 53 #[FaV (mkF f)] w fun e w' => GivesK w w' e (EvOf f) := by
 have HFo := hide hFo
 have HX := hide (FaBox_new w (mkF f))
 have HBK := hide (below_new w (.cells (FaC (mkF f)) 59))
 have HS := hide (hF.below HBK.out)
 clear hF
 obtain ⟨wk, hwk⟩ : ∃ wk, w.alloc (.cells (FaC (mkF f)) 59) = wk := ⟨_, rfl⟩
 obtain ⟨G, hG⟩ : ∃ G, w.heap.size = G := ⟨_, rfl⟩
 rw [hwk] at HX HBK HS
 rw [hG] at HX
 obtain ⟨c0, c3⟩ := HX.out.cs
 have lp := run_ldP HX.out.past
 have lf := run_ldFa HX.out
 go_enter Tryz.func53, Tryz.ntmps53
 go_wp2_with fail
 clear hwk hG hFo
 refine (refFacts_any f _ HS.out).mono ?_
 rintro e w2 ⟨b, rfl, hb, b2⟩
 obtain rfl : b = true := hb.out.2 HFo.out
 have HB2 := hide (HBK.out.trans (b2.mono HBK.out.size))
 have HX2 := hide (HX.out.below b2)
 have HS2 := hide (HS.out.below b2)
 clear b2 hb c0 c3 lp lf HX HS HBK
 have lp := run_ldP HX2.out.past
 go_wp2_with fail
 refine (refEmpty_any f.p _ HS2.out.p).mono ?_
 rintro e w3 ⟨b, rfl, hb, b3⟩
 have HBe : Hid (BIf b (EmptyP f.p.P)) := hb
 have HB3 := hide (HB2.out.trans (b3.mono HB2.out.size))
 have HX3 := hide (HX2.out.below b3)
 have HS3 := hide (HS2.out.below b3)
 clear b3 hb lp HX2 HS2 HB2
 obtain ⟨c0, c3⟩ := HX3.out.cs
 have Han := hide han
 rw [han] at c0
 have Hrn := hide hrn
 rw [hrn] at c3
 clear han hrn
 obtain ⟨ad, e1, A0⟩ := HS3.out.es.at 0 (by have := Han.out; omega)
 obtain ⟨x, Hx⟩ : ∃ x, Hid (f.es.getD 0 K.en0 = x) := ⟨_, rfl⟩
 rw [Hx.out, Nat.zero_mul, K.add_zero] at A0
 obtain ⟨ab, ao, asp⟩ := ad
 obtain rfl : asp = none := by
  have h := A0.c0
  cases asp with
  | none => rfl
  | some _ => unfold World.cell? at h; split at h <;> simp at h
 have q0 : w3.cell? ⟨ab, ao, none⟩ = some (.int .i64 x.rep) := A0.c0
 have q1 : w3.cell? ⟨ab, ao + 1, none⟩ = some (.int .i64 x.num) := A0.c1
 have HQ := hide (And.intro q0 q1)
 rw [e1] at c0
 have HP3 := hide HS3.out.p
 have HC0 := hide c0
 clear A0 q0 q1
 go_wp2_with fail
 clear c0 c3
 refine wp_region_held_drew (S := fun v => (ldP (.pointer (some ⟨G, 1, none⟩))).run Tryz.prog v = .ok (PV f.p) v /\ v.cell? ⟨G, 0, none⟩ = some (.slice (some ⟨ab, ao, none⟩) 1 f.ac) /\ v.cell? ⟨ab, ao, none⟩ = some (.int .i64 x.rep) /\ v.cell? ⟨ab, ao + 1, none⟩ = some (.int .i64 x.num)) (by kernel_rfl) (⟨run_ldP (HX3.out.below (below_drew1 w3)).past, ((below_drew1 w3).cell (World.block_lt_of_cell? _ _ HC0.out)).trans HC0.out, ((below_drew1 w3).cell (World.block_lt_of_cell? _ _ HQ.out.1)).trans HQ.out.1, ((below_drew1 w3).cell (World.block_lt_of_cell? _ _ HQ.out.2)).trans HQ.out.2⟩) (fun hHeld => ?_)
 refine wTk 0 ⟨some 22, .fieldAddr 59 (.tmp 1) 1, 0, "ref.go:225", #[], none⟩ rfl ?_
 refine wTk 1 ⟨some 23, .load 26 (.tmp 22), 26, "ref.go:225", #[⟨0, .data⟩], none⟩ rfl ?_
 refine wTk 2 ⟨some 24, .fieldAddr 59 (.tmp 1) 0, 0, "ref.go:225", #[], none⟩ rfl ?_
 refine wTk 3 ⟨some 25, .load 22 (.tmp 24), 22, "ref.go:225", #[⟨2, .data⟩], none⟩ rfl ?_
 refine wTk 4 ⟨some 26, .indexAddr 22 (.tmp 25) (.const (.int .i64 0)), 0, "ref.go:225", #[⟨3, .data⟩], none⟩ rfl ?_
 refine wTk 5 ⟨some 27, .fieldAddr 66 (.tmp 26) 0, 0, "ref.go:225", #[⟨4, .data⟩], none⟩ rfl ?_
 refine wTk 6 ⟨some 28, .fieldAddr 43 (.tmp 27) 0, 0, "ref.go:225", #[⟨5, .data⟩], none⟩ rfl ?_
 refine wTk 7 ⟨some 29, .load 3 (.tmp 28), 3, "ref.go:225", #[⟨6, .data⟩], none⟩ rfl ?_
 refine wTk 9 ⟨some 31, .fieldAddr 59 (.tmp 1) 0, 0, "ref.go:225", #[], none⟩ rfl ?_
 refine wTk 10 ⟨some 32, .load 22 (.tmp 31), 22, "ref.go:225", #[⟨9, .data⟩], none⟩ rfl ?_
 refine wTk 11 ⟨some 33, .indexAddr 22 (.tmp 32) (.const (.int .i64 0)), 0, "ref.go:225", #[⟨10, .data⟩], none⟩ rfl ?_
 refine wTk 12 ⟨some 34, .fieldAddr 66 (.tmp 33) 0, 0, "ref.go:225", #[⟨11, .data⟩], none⟩ rfl ?_
 refine wTk 13 ⟨some 35, .fieldAddr 43 (.tmp 34) 1, 0, "ref.go:225", #[⟨12, .data⟩], none⟩ rfl ?_
 refine wTk 14 ⟨some 36, .load 3 (.tmp 35), 3, "ref.go:225", #[⟨13, .data⟩], none⟩ rfl ?_
 refine wpAnyH_ready (rs := [8]) (by kernel_rfl) (by simp) (.cons rfl (fun K hK => ?_) .nil)
 go_simp
 go_wp2_with fail
 refine (refLast_any f.p x.rep _ (HP3.out.below (below_drew1 w3))).mono ?_
 rintro e w4 ⟨k, rfl, hk, b4⟩
 have hB4 : Below w3.heap.size w3 w4 := (below_drew1 w3).trans b4
 have HB4 := hide (HB3.out.trans (hB4.mono HB3.out.size))
 have HK := hide hk
 refine hK.out _ _ (⟨run_ldP (HX3.out.below (hB4)).past, ((hB4).cell (World.block_lt_of_cell? _ _ HC0.out)).trans HC0.out, ((hB4).cell (World.block_lt_of_cell? _ _ HQ.out.1)).trans HQ.out.1, ((hB4).cell (World.block_lt_of_cell? _ _ HQ.out.2)).trans HQ.out.2⟩) (fun hHeld => ?_)
 clear hK K b4 hk hB4
 by_cases hkx : x.num <= k
 ·have hd : decide (x.num <= k) = true := decide_eq_true hkx
  have HE : Hid (EvOf f 2) := .inr (.inl ⟨HFo.out, fun h => by
   have h5 := Han.out
   have h6 := Hrn.out
   rcases h with ⟨h1, h2⟩ | ⟨h1, h2, k2, h3, h4⟩ | ⟨h1, h2, h3⟩
   ·omega
   ·rw [Hx.out] at h3 h4
    have := LastOf.unique HK.out h3
    omega
   ·omega, rfl⟩)
  clear hkx
  refine wTk 15 ⟨some 37, .binOp .geq 3 (.tmp 30) (.tmp 36) 3, 4, "ref.go:225", #[⟨8, .data⟩, ⟨14, .data⟩], none⟩ rfl ?_
  refine wpAnyH_done (by kernel_rfl) ?_ _
  clear hHeld
  go_wp2_with fail
  go_ret
  exact ⟨_, rfl, HE.out, HB4.out⟩
 ·have hd : decide (x.num <= k) = false := decide_eq_false hkx
  have HE : Hid (EvOf f 0) := .inr (.inr ⟨HFo.out, .inr (.inl ⟨Han.out, Hrn.out, k, by rw [Hx.out]; exact HK.out, by rw [Hx.out]; omega⟩), rfl⟩)
  clear hkx
  refine wTk 15 ⟨some 37, .binOp .geq 3 (.tmp 30) (.tmp 36) 3, 4, "ref.go:225", #[⟨8, .data⟩, ⟨14, .data⟩], none⟩ rfl ?_
  refine wpAnyH_done (by kernel_rfl) ?_ _
  clear hHeld
  go_wp2_with fail
  go_ret
  exact ⟨_, rfl, HE.out, HB4.out⟩
theorem refEvent_no (f : Fc) (w : World) (hF : FcOk w f) (hN : ¬ FormF f) : Calls Tryz.prog 53 #[FaV (mkF f)] w fun e w' => GivesK w w' e (EvOf f) := by
 have HN := hide hN
 have HX := hide (FaBox_new w (mkF f))
 have HBK := hide (below_new w (.cells (FaC (mkF f)) 59))
 have HS := hide (hF.below HBK.out)
 clear hF
 obtain ⟨wk, hwk⟩ : ∃ wk, w.alloc (.cells (FaC (mkF f)) 59) = wk := ⟨_, rfl⟩
 obtain ⟨G, hG⟩ : ∃ G, w.heap.size = G := ⟨_, rfl⟩
 rw [hwk] at HX HBK HS
 rw [hG] at HX
 obtain ⟨c0, c3⟩ := HX.out.cs
 have lp := run_ldP HX.out.past
 have lf := run_ldFa HX.out
 go_enter Tryz.func53, Tryz.ntmps53
 go_wp2_with fail
 clear hwk hG hN
 refine (refFacts_any f _ HS.out).mono ?_
 rintro e w2 ⟨b, rfl, hb, b2⟩
 obtain rfl : b = false := by
  cases b with
  | false => rfl
  | true => exact absurd (hb.out.1 rfl) HN.out
 have HE : Hid (EvOf f 1 /\ Below w.heap.size w w2) := ⟨.inl ⟨HN.out, rfl⟩, HBK.out.trans (b2.mono HBK.out.size)⟩
 clear b2 hb
 go_wp2_with fail
 go_ret
 exact ⟨_, rfl, HE.out.1, HE.out.2⟩
theorem refEvent_any (f : Fc) (w : World) (hF : FcOk w f) : Calls Tryz.prog 53 #[FaV (mkF f)] w fun e w' => GivesK w w' e (EvOf f) := by
 by_cases hFo : FormF f
 ·by_cases h0 : f.an = 0
  ·by_cases k0 : f.rn = 0
   ·exact refEvent_a f w hF hFo h0 k0
   ·by_cases k1 : f.rn = 1
    ·exact refEvent_e f w hF hFo h0 k1
    ·exact refEvent_b f w hF hFo h0 (by omega)
  ·by_cases h1 : f.an = 1
   ·by_cases k0 : f.rn = 0
    ·exact refEvent_f f w hF hFo h1 k0
    ·exact refEvent_c f w hF hFo h1 (by omega)
   ·exact refEvent_d f w hF hFo (by omega)
 ·exact refEvent_no f w hF hFo
end
section
open Go.RowKit
theorem dsB_all (L : List K.En) : L.filter (dsB ⟨#[]⟩ (-1)) = L := List.filter_eq_self.2 fun e _ => by unfold dsB; rfl
def HeardOf (f : Fc) (P : Pst) : Prop := InForm P /\ ∀ r, r < 16 -> ∀ n, mem (runsAt P r) n ↔ mem (dotsG (f.es.map dotOf) r) n ∨ mem (runsAt f.p.P r) n
theorem HeardOf.one {f : Fc} {P Q : Pst} (h : HeardOf f P) (k : HeardOf f Q) : P = Q :=
 (canon_iff.2 h.1).unique (canon_iff.2 k.1) fun r hr n => (h.2 r hr n).trans (k.2 r hr n).symm
def StOf (f s : Fc) : Prop := s.es = f.es /\ HeardOf f s.p.P /\ WtOf f.rs s.p.P s.rs
theorem StOf.one {f s t : Fc} (h : StOf f s) (k : StOf f t) : s.es = t.es /\ s.p.P = t.p.P /\ plR s.rs = plR t.rs := by
 have e := h.2.1.one k.2.1
 refine ⟨h.1.trans k.1.symm, e, ?_⟩
 have h3 := h.2.2
 rw [e] at h3
 exact h3.one k.2.2
def EvS (f s : Fc) (er : Int) : Prop := (EvOf f er /\ er ≠ 0 /\ s = fz0) ∨ (EvOf f 0 /\ er = 0 /\ StOf f s)
theorem EvS.one {f s t : Fc} {x y : Int} (h : EvS f s x) (k : EvS f t y) : x = y /\ s.es = t.es /\ s.p.P = t.p.P /\ plR s.rs = plR t.rs := by
 rcases h with ⟨h1, h2, rfl⟩ | ⟨h1, rfl, h3⟩ <;> rcases k with ⟨k1, k2, rfl⟩ | ⟨k1, rfl, k3⟩
 ·exact ⟨h1.unique k1, rfl, rfl, rfl⟩
 ·exact absurd (h1.unique k1) h2
 ·exact absurd (k1.unique h1) k2
 ·exact ⟨rfl, h3.one k3⟩
theorem EvOf.zero {f : Fc} (h : EvOf f 0) : FormF f /\ OneA f := by
 rcases h with ⟨_, h⟩ | ⟨_, _, h⟩ | ⟨h1, h2, _⟩
 ·cases h
 ·cases h
 ·exact ⟨h1, h2⟩
theorem one_live {f : Fc} (h : OneA f) : ∀ k, k < f.an -> f.rn = 0 /\ inB f.p.P (f.es.getD k K.en0) = false := by
 intro k hk
 rcases h with ⟨h1, h2⟩ | ⟨h1, h2, j, hj, hlt⟩ | ⟨h1, h2, h3⟩
 ·omega
 ·obtain rfl : k = 0 := by omega
  refine ⟨h2, ?_⟩
  cases hb : inB f.p.P (f.es.getD 0 K.en0)
  ·rfl
  ·exfalso
   have h4 := (inB_iff _ _).1 hb
   obtain ⟨h5, h6⟩ : V.isR (f.es.getD 0 K.en0).rep = true /\ mem (runsAt f.p.P (f.es.getD 0 K.en0).rep.toNat) (f.es.getD 0 K.en0).num := h4
   rcases hj with ⟨_, ⟨_, hm⟩ | ⟨_, hm⟩⟩ | ⟨hn, _⟩
   ·exact hm _ h6
   ·have := hm _ h6; omega
   ·rw [h5] at hn; cases hn
 ·omega
attribute [local go_sem ↓] ldP_eq stP_eq ldFa_eq stFa_eq ldSw_eq stSw_eq bldS_eq bsPs_eq
attribute [local go_sem] cells_PV PC_size cells_FaV FaC_size zero_FaZ run_bsPs run_bldS run_bldS0 zero_PC
theorem refHeard_any (f : Fc) (w : World) (hF : FcOk w f) (hFo : FormF f) : Calls Tryz.prog 64 #[FaV (mkF f)] w fun e w' => GivesP w w' e (HeardOf f) := by
 have HFo := hide hFo
 clear hFo
 have b1 := below_new w (.cells (FaC (mkF f)) 59)
 have X1 := FaBox_new w (mkF f)
 obtain ⟨w1, hw1⟩ : ∃ w1, w.alloc (.cells (FaC (mkF f)) 59) = w1 := ⟨_, rfl⟩
 have hs1 : w1.heap.size = w.heap.size + 1 := by rw [<- hw1]; simp
 rw [hw1] at b1 X1
 have x2 : PBox (w1.alloc (.cells (PC pv0) 26)) w1.heap.size pv0 := pbox_new w1 pv0
 have b2 := below_new w1 (.cells (PC pv0) 26)
 obtain ⟨w2, hw2⟩ : ∃ w2, w1.alloc (.cells (PC pv0) 26) = w2 := ⟨_, rfl⟩
 rw [hw2] at x2 b2
 rw [hs1] at x2
 obtain ⟨G, hG0⟩ : ∃ G, w.heap.size = G := ⟨_, rfl⟩
 rw [hG0] at X1 x2 hs1
 have HX := hide (X1.below b2)
 have HZ := hide x2
 have HBK := hide (b1.trans (b2.mono b1.size))
 have HF := hide (hF.below HBK.out)
 have HGs : Hid (w.heap.size = G) := hG0
 clear hF b1 b2 X1 x2
 have HSt : Hid (∀ W, FaBox W G (mkF f) -> W.cell? ⟨G, 0, none⟩ = some (.slice f.ao f.an f.ac) /\ (ldP (.pointer (some ⟨G, 1, none⟩))).run Tryz.prog W = .ok (PV f.p) W) := fun W h => ⟨h.cs.1, run_ldP h.past⟩
 go_enter Tryz.func64, Tryz.ntmps64
 go_upto_region 1 with fail
 clear hw1 hw2 hs1 hG0
 refine wp_region_held_drew (S := fun W => W.cell? ⟨G, 0, none⟩ = some (.slice f.ao f.an f.ac) /\ (ldP (.pointer (some ⟨G, 1, none⟩))).run Tryz.prog W = .ok (PV f.p) W) (by kernel_rfl) (HSt.out _ (HX.out.below (below_drew1 w2))) (fun hHeld => ?_)
 refine wTk 0 ⟨some 3, .fieldAddr 59 (.tmp 1) 0, 0, "ref.go:132", #[], none⟩ rfl ?_
 refine wTk 1 ⟨some 4, .load 22 (.tmp 3), 22, "ref.go:132", #[⟨0, .data⟩], none⟩ rfl ?_
 refine wTk 3 ⟨some 6, .fieldAddr 59 (.tmp 1) 1, 0, "ref.go:132", #[], none⟩ rfl ?_
 refine wTk 4 ⟨some 7, .load 26 (.tmp 6), 26, "ref.go:132", #[⟨3, .data⟩], none⟩ rfl ?_
 refine wpAnyH_ready (rs := [2]) (by kernel_rfl) (by simp) (.cons rfl (fun K hK => ?_) .nil)
 go_simp
 go_wp2_with fail
 refine (refDots8_any f.ao f.an f.ac f.es ⟨#[]⟩ (-1) _ (HF.out.es.below (below_drew1 w2))).mono ?_
 rintro x w4 ⟨d, rfl, Sd, -, b4, Cd⟩
 rw [dsB_all] at Cd
 have HB4 := hide ((below_drew1 w2).trans (b4.mono (below_drew1 w2).size))
 have HD := hide Sd
 have HCd := hide Cd
 clear Sd Cd b4
 refine hK.out _ _ (HSt.out _ (HX.out.below HB4.out)) (fun hHeld => ?_)
 clear hK K
 refine wpAnyH_ready (rs := [5]) (by kernel_rfl) (by simp) (.cons rfl (fun K hK => ?_) .nil)
 have hPR := prow2 w4 d f.p HD.out (HF.out.p.below HB4.out)
 have b7 := below_new w4 (.cells #[.slice d.vo d.vn d.vc, .slice d.co d.cn d.cc, .slice f.p.vo f.p.vn f.p.vc, .slice f.p.co f.p.cn f.p.cc] 26)
 obtain ⟨w7, hw7⟩ : ∃ w7, w4.alloc (.cells #[.slice d.vo d.vn d.vc, .slice d.co d.cn d.cc, .slice f.p.vo f.p.vn f.p.vc, .slice f.p.co f.p.cn f.p.cc] 26) = w7 := ⟨_, rfl⟩
 rw [hw7] at hPR b7
 have HPR := hide hPR
 have HB7 := hide (HB4.out.trans (b7.mono HB4.out.size))
 clear hPR b7
 go_simp
 refine hK.out _ _ (HSt.out _ (HX.out.below HB7.out)) (fun hHeld => ?_)
 clear hK K
 clear hw7
 refine wpAnyH_ready (rs := [6]) (by kernel_rfl) (by simp) (.cons rfl (fun K hK => ?_) .nil)
 go_simp
 go_wp2_with fail
 refine (refJoin_any (some ⟨w4.heap.size, 0, none⟩) 2 2 [d, f.p] _ HPR.out (bsP2_wt (canon_iff.1 HCd.out.canon) HFo.out.2.1) (by decide)).mono ?_
 rintro x w8 ⟨q, rfl, S8, n8, b8, C8⟩
 have HB8 := hide (HB7.out.trans (b8.mono HB7.out.size))
 have hz : G + 1 + 1 <= w7.heap.size := by have := HZ.out.lt; have := HB7.out.size; omega
 obtain ⟨s1, e1, e2, e3, e4⟩ := past_end (w := w) (HZ.out.below HB8.out) S8 (n8.mono hz) (HBK.out.trans (HB8.out.mono HBK.out.size)) (by rw [HGs.out]; omega)
 have HE1 := hide e1
 have HXe : Hid (FaBox (w8.setRow (G + 1) (PC q)) G (mkF f)) := (setRow_other _ _ _ _ (by omega)).trans (HX.out.below HB8.out)
 have HE : Hid (GivesP w (w8.setRow (G + 1) (PC q)) (.returned (PV q)) (HeardOf f)) := ⟨q, rfl, e2, e3, e4, canon_iff.1 C8.canon, fun r hr n => by
  rw [canon_mem C8 r hr n]
  show mem (runsAt d.P r ++ (runsAt f.p.P r ++ [])) n ↔ _
  rw [List.append_nil, mem_append, canon_mem HCd.out r hr n]⟩
 clear S8 n8 b8 C8 e1 e2 e3 e4 hz
 refine hK.out _ _ (HSt.out _ (HX.out.below HB8.out)) (fun hHeld => ?_)
 clear hK K
 refine wpAnyH_ready (rs := [7]) (by kernel_rfl) (by simp) (.cons rfl (fun K hK => ?_) .nil)
 go_simp
 refine hK.out _ _ (HSt.out _ HXe.out) (fun hHeld => ?_)
 clear hK K
 refine wpAnyH_done (by kernel_rfl) ?_ _
 clear hHeld
 go_wp2_with fail
 refine bodyPost_ret (resP1 rfl rfl HE1.out) rfl ?_
 exact HE.out
theorem refState_one (f : Fc) (w : World) (hF : FcOk w f) (hFo : FormF f) (hO : OneA f) : Calls Tryz.prog 33 #[FaV (mkF f)] w fun e w' => SwS w w' e (StOf f) := by
 have HFo := hide hFo
 have HOn := hide (one_live hO)
 clear hFo hO
 have b1 := below_new w (.cells (FaC (mkF f)) 59)
 have X1 := FaBox_new w (mkF f)
 obtain ⟨w1, hw1⟩ : ∃ w1, w.alloc (.cells (FaC (mkF f)) 59) = w1 := ⟨_, rfl⟩
 have hs1 : w1.heap.size = w.heap.size + 1 := by rw [<- hw1]; simp
 rw [hw1] at b1 X1
 have x2 : SwBox (w1.alloc (.cells (FaC (mkF fz0)) 29)) w1.heap.size (mkF fz0) := SwBox_new w1 (mkF fz0)
 have b2 := below_new w1 (.cells (FaC (mkF fz0)) 29)
 obtain ⟨w2, hw2⟩ : ∃ w2, w1.alloc (.cells (FaC (mkF fz0)) 29) = w2 := ⟨_, rfl⟩
 rw [hw2] at x2 b2
 rw [hs1] at x2
 obtain ⟨G, hG0⟩ : ∃ G, w.heap.size = G := ⟨_, rfl⟩
 rw [hG0] at X1 x2 hs1
 have HX := hide (X1.below b2)
 have HZ := hide x2
 have HBK := hide (b1.trans (b2.mono b1.size))
 have HF := hide (hF.below HBK.out)
 have HGs : Hid (w.heap.size = G) := hG0
 clear hF b1 b2 X1 x2
 have lf := run_ldFa HX.out
 go_enter Tryz.func33, Tryz.ntmps33
 go_wp2_with fail
 clear hw1 hw2 hs1 hG0 lf
 refine (refHeard_any f _ HF.out HFo.out).mono ?_
 rintro x wq ⟨p, rfl, Sp, -, bq, He⟩
 obtain ⟨g3, hg3⟩ : ∃ g, wq.heap.size = g := ⟨_, rfl⟩
 obtain ⟨w3, hst, X3, B3, -⟩ := madeP wq p g3 hg3
 have b23 := bq.trans (B3.mono bq.size)
 have HX3 := hide (HX.out.below b23)
 have HZ3 := hide (HZ.out.below b23)
 have HF3 := hide (HF.out.below b23)
 have HBK3 := hide (HBK.out.trans (b23.mono HBK.out.size))
 have HP3 := hide X3
 have HSp := hide (Sp.below B3)
 have HHe := hide He
 have HG3 : Hid (G + 1 < g3) := by
  have h1 := HZ.out.lt
  have h2 := bq.size
  show G + 1 < g3
  omega
 have HSt : Hid (∀ W, FaBox W G (mkF f) -> PBox W g3 p -> (ldFa (.pointer (some ⟨G, 0, none⟩))).run Tryz.prog W = .ok (FaV (mkF f)) W /\ (ldP (.pointer (some ⟨g3, 0, none⟩))).run Tryz.prog W = .ok (PV p) W /\ W.cell? ⟨G, 3, none⟩ = some (.slice f.ro f.rn f.rc)) := fun W h k => ⟨run_ldFa h, run_ldP k.at, h.cs.2⟩
 clear Sp bq He X3 B3 b23
 go_upto_region 2 with fail
 clear hst hg3
 refine wp_region_held_drew (S := fun W => (ldFa (.pointer (some ⟨G, 0, none⟩))).run Tryz.prog W = .ok (FaV (mkF f)) W /\ (ldP (.pointer (some ⟨g3, 0, none⟩))).run Tryz.prog W = .ok (PV p) W /\ W.cell? ⟨G, 3, none⟩ = some (.slice f.ro f.rn f.rc)) (by kernel_rfl) (HSt.out _ (HX3.out.below (below_drew1 w3)) (HP3.out.below (below_drew1 w3))) (fun hHeld => ?_)
 refine wTk 0 ⟨some 6, .load 59 (.tmp 1), 59, "ref.go:164", #[], none⟩ rfl ?_
 refine wTk 2 ⟨some 8, .load 26 (.tmp 3), 26, "ref.go:164", #[], none⟩ rfl ?_
 refine wTk 3 ⟨some 9, .fieldAddr 59 (.tmp 1) 2, 0, "ref.go:164", #[], none⟩ rfl ?_
 refine wTk 4 ⟨some 10, .load 27 (.tmp 9), 27, "ref.go:164", #[⟨3, .data⟩], none⟩ rfl ?_
 refine wTk 5 ⟨some 11, .load 26 (.tmp 3), 26, "ref.go:164", #[], none⟩ rfl ?_
 refine wpAnyH_ready (rs := [1]) (by kernel_rfl) (by simp) (.cons rfl (fun K hK => ?_) .nil)
 go_simp
 go_wp2_with fail
 refine (refLive11_one f _ (HF3.out.below (below_drew1 w3)) HOn.out).mono ?_
 rintro x w5 ⟨la, ln, lc, rfl, SL, b5⟩
 have HB5 := hide ((below_drew1 w3).trans (b5.mono (below_drew1 w3).size))
 have HSL := hide SL
 clear SL b5
 refine hK.out _ _ (HSt.out _ (HX3.out.below HB5.out) (HP3.out.below HB5.out)) (fun hHeld => ?_)
 clear hK K
 refine wpAnyH_ready (rs := [6]) (by kernel_rfl) (by simp) (.cons rfl (fun K hK => ?_) .nil)
 go_simp
 go_wp2_with fail
 refine (refWaits11_any f.ro f.rn f.rc f.rs p _ (HF3.out.rs.below HB5.out) HFo.out.2.2 (HSp.out.below HB5.out)).mono ?_
 rintro x w6 ⟨h, F, rfl, SF, b6, WF⟩
 have HB6 := hide (HB5.out.trans (b6.mono HB5.out.size))
 have A6 := HZ3.out.below HB6.out
 have st := run_stSw (m' := mkF ⟨la, ln, lc, [], p, h.o, h.n, h.c, []⟩) A6
 have HE1 : Hid (SwBox (w6.setRow (G + 1) (FaC (mkF ⟨la, ln, lc, [], p, h.o, h.n, h.c, []⟩))) (G + 1) (mkF ⟨la, ln, lc, f.es, p, h.o, h.n, h.c, F⟩)) := A6.setRow
 have HXe : Hid (FaBox (w6.setRow (G + 1) (FaC (mkF ⟨la, ln, lc, [], p, h.o, h.n, h.c, []⟩))) G (mkF f)) := (setRow_other _ _ _ _ (by omega)).trans (HX3.out.below HB6.out)
 have HPe : Hid (PBox (w6.setRow (G + 1) (FaC (mkF ⟨la, ln, lc, [], p, h.o, h.n, h.c, []⟩))) g3 p) := (setRow_other _ _ _ _ (by have := HG3.out; omega)).trans (HP3.out.below HB6.out)
 have HE : Hid (SwS w (w6.setRow (G + 1) (FaC (mkF ⟨la, ln, lc, [], p, h.o, h.n, h.c, []⟩))) (.returned (FaV (mkF ⟨la, ln, lc, f.es, p, h.o, h.n, h.c, F⟩))) (StOf f)) :=
  ⟨_, rfl, FcOk.offW (f := ⟨la, ln, lc, f.es, p, h.o, h.n, h.c, F⟩) ⟨HSL.out.below b6, HSp.out.below HB6.out, SF⟩ A6 _, below_setRow (HBK3.out.trans (HB6.out.mono HBK3.out.size)) (by rw [HGs.out]; omega), rfl, HHe.out, WF⟩
 clear SF b6 WF A6
 refine hK.out _ _ (HSt.out _ (HX3.out.below HB6.out) (HP3.out.below HB6.out)) (fun hHeld => ?_)
 clear hK K
 refine wTk 7 ⟨some 13, .build 29 #[(0, .tmp 7), (1, .tmp 8), (2, .tmp 12)], 29, "ref.go:164", #[⟨1, .data⟩, ⟨2, .data⟩, ⟨6, .data⟩], none⟩ rfl ?_
 refine wpAnyH_ready (rs := [8]) (by kernel_rfl) (by simp) (.cons rfl (fun K hK => ?_) .nil)
 go_simp
 refine hK.out _ _ (HSt.out _ HXe.out HPe.out) (fun hHeld => ?_)
 clear hK K
 clear st
 refine wpAnyH_done (by kernel_rfl) ?_ _
 clear hHeld
 go_wp2_with fail
 refine bodyPost_ret (res1Sw rfl rfl HE1.out) rfl ?_
 exact HE.out
theorem refEvent11_any (f : Fc) (w : World) (hF : FcOk w f) : Calls Tryz.prog 26 #[FaV (mkF f)] w fun e w' => SwE w w' e (EvS f) := by
 have b1 := below_new w (.cells (FaC (mkF f)) 59)
 have X1 := FaBox_new w (mkF f)
 obtain ⟨w1, hw1⟩ : ∃ w1, w.alloc (.cells (FaC (mkF f)) 59) = w1 := ⟨_, rfl⟩
 have hs1 : w1.heap.size = w.heap.size + 1 := by rw [<- hw1]; simp
 rw [hw1] at b1 X1
 have x2 : SwBox (w1.alloc (.cells (FaC (mkF fz0)) 29)) w1.heap.size (mkF fz0) := SwBox_new w1 (mkF fz0)
 have b2 := below_new w1 (.cells (FaC (mkF fz0)) 29)
 obtain ⟨w2, hw2⟩ : ∃ w2, w1.alloc (.cells (FaC (mkF fz0)) 29) = w2 := ⟨_, rfl⟩
 rw [hw2] at x2 b2
 rw [hs1] at x2
 obtain ⟨G, hG0⟩ : ∃ G, w.heap.size = G := ⟨_, rfl⟩
 rw [hG0] at X1 x2 hs1
 have HX := hide (X1.below b2)
 have HZ := hide x2
 have HBK := hide (b1.trans (b2.mono b1.size))
 have HF := hide (hF.below HBK.out)
 have HGs : Hid (w.heap.size = G) := hG0
 clear hF b1 b2 X1 x2
 have lf := run_ldFa HX.out
 go_enter Tryz.func26, Tryz.ntmps26
 go_wp2_with fail
 clear hw1 hw2 hs1 hG0 lf
 refine (refEvent_any f _ HF.out).mono ?_
 rintro x w3 ⟨z, rfl, hz, b3⟩
 have HZ3 := hide (HZ.out.below b3)
 have HX3 := hide (HX.out.below b3)
 have HF3 := hide (HF.out.below b3)
 have HB3 := hide (HBK.out.trans (b3.mono HBK.out.size))
 have Hz := hide hz
 clear b3 hz
 by_cases h0 : z = 0
 ·subst h0
  obtain ⟨hFo, hOn⟩ := Hz.out.zero
  have HFo := hide hFo
  have HOn := hide hOn
  have lf := run_ldFa HX3.out
  clear hFo hOn
  go_wp2_with fail
  clear lf
  refine (refState_one f _ HF3.out HFo.out HOn.out).mono ?_
  rintro x w4 ⟨s, rfl, Fs, b4, St⟩
  have A4 := HZ3.out.below b4
  have st := run_stSw (m' := mkF s) A4
  have HE1 : Hid (SwBox (w4.setRow (G + 1) (FaC (mkF s))) (G + 1) (mkF s)) := A4.setRow
  have HE : Hid (SwE w (w4.setRow (G + 1) (FaC (mkF s))) (.returned (.tuple #[FaV (mkF s), .int .i64 0])) (EvS f)) := ⟨s, 0, rfl, Fs.offW A4 _, below_setRow (HB3.out.trans (b4.mono HB3.out.size)) (by rw [HGs.out]; omega), .inr ⟨Hz.out, rfl, St⟩⟩
  clear Fs b4 St A4
  go_wp2_with fail
  clear st
  refine bodyPost_ret (res2Sw rfl rfl rfl HE1.out) rfl ?_
  exact HE.out
 ·have hz1 : ((z : Int) == 0) = false := by simpa using h0
  have hz2 : decide ((z : Int) = 0) = false := by simpa using h0
  have st := run_stSw (m' := mkF fz0) HZ3.out
  have HE1 : Hid (SwBox (w3.setRow (G + 1) (FaC (mkF fz0))) (G + 1) (mkF fz0)) := HZ3.out.setRow
  have HE : Hid (SwE w (w3.setRow (G + 1) (FaC (mkF fz0))) (.returned (.tuple #[FaV (mkF fz0), .int .i64 z])) (EvS f)) := ⟨fz0, z, rfl, fz0_ok _, below_setRow HB3.out (by rw [HGs.out]; omega), .inl ⟨Hz.out, h0, rfl⟩⟩
  go_wp2_with fail
  clear st
  refine bodyPost_ret (res2Sw rfl rfl rfl HE1.out) rfl ?_
  exact HE.out
end
end Go.Proofs.YtaphmhbmhcahaaaGreat
