/- GRf QLb QNy GRv -/
import Derived.Test.YtcnciccljblkfaaGreatTk
import Derived.Test.YtcnciccljblkfaaGreatEf34
import Derived.Test.YtcnciccljblkfaaGreatEf37
import Derived.Test.YtcnciccljblkfaaGreatEf38
import Derived.Test.YtcnciccljblkfaaGreatEf11
import Derived.Test.YtcnciccljblkfaaGreatEf20
namespace Go.Proofs.YtcnciccljblkfaaGreat
open Go.RowKit
attribute [local go_sem ↓] ldP_eq stP_eq ldFa_eq stFa_eq ldD_eq stD_eq
attribute [local go_sem] cells_PV PC_size cells_FaV FaC_size cells_RV RC_size zero_RC fold_RC
set_option maxRecDepth 100000 in
set_option maxHeartbeats 1600000 in
theorem refFacts_any (f : Fc) (w : World) (hF : FcOk w f) : Calls Tryz.prog 14 #[FaV (mkF f)] w fun e w' => GivB w w' e (FormF f) := by
 have HX := hide (FaBox_new w (mkF f))
 have HBK := hide (below_new w (.cells (FaC (mkF f)) 29))
 have HS := hide (hF.below HBK.out)
 clear hF
 obtain ⟨wk, hwk⟩ : ∃ wk, w.alloc (.cells (FaC (mkF f)) 29) = wk := ⟨_, rfl⟩
 obtain ⟨G, hG⟩ : ∃ G, w.heap.size = G := ⟨_, rfl⟩
 rw [hwk] at HX HBK HS
 rw [hG] at HX
 obtain ⟨c0, c3⟩ := HX.out.cs
 have lp := run_ldP HX.out.past
 have lf := run_ldFa HX.out
 go_enter Tryz.func14, Tryz.ntmps14
 go_wp2_with fail
 clear hwk hG
 refine (K.refEntries_any f.ao f.an f.ac f.es _ HS.out.es).mono ?_
 rintro e w2 ⟨rfl, b2⟩
 have HB2 := hide (HBK.out.trans (b2.mono HBK.out.size))
 have HX2 := hide (HX.out.below b2)
 have HS2 := hide (HS.out.below b2)
 clear b2 c0 c3 lp lf HX HS HBK
 cases hc : K.okN f.es f.an with
 | false =>
  have HN : Hid (¬ FormF f) := fun h => by have h1 := h.1; rw [hc] at h1; cases h1
  clear hc
  go_wp2_with fail
  go_ret
  exact ⟨_, rfl, BIf.no HN.out, HB2.out⟩
 | true =>
  have HC := hide hc
  have lp := run_ldP HX2.out.past
  clear hc
  go_wp2_with fail
  refine (refIsNorm_any f.p _ HS2.out.p).mono ?_
  rintro e w3 ⟨b, rfl, hb, b3⟩
  have HB3 := hide (HB2.out.trans (b3.mono HB2.out.size))
  have HX3 := hide (HX2.out.below b3)
  have HS3 := hide (HS2.out.below b3)
  clear b3 lp HX2 HS2 HB2
  cases b with
  | false =>
   have HN : Hid (¬ FormF f) := fun h => (by have := hb.out.2 h.2.1; cases this)
   clear hb
   go_wp2_with fail
   go_ret
   exact ⟨_, rfl, BIf.no HN.out, HB3.out⟩
  | true =>
   have HI : Hid (InForm f.p.P) := hb.out.1 rfl
   have c3 := HX3.out.cs.2
   clear hb
   go_wp2_with fail
   refine (refRecords_any f.ro f.rn f.rc f.rs _ HS3.out.rs).mono ?_
   rintro e w4 ⟨b, rfl, hb, b4⟩
   have HF : Hid (BIf b (FormF f) ∧ Below w.heap.size w w4) := ⟨⟨fun h => ⟨HC.out, HI.out, hb.out.1 h⟩, fun h => hb.out.2 h.2.2⟩, HB3.out.trans (b4.mono HB3.out.size)⟩
   clear hb b4 c3
   cases b with
   | true =>
    go_wp2_with fail
    go_ret
    exact ⟨_, rfl, HF.out.1, HF.out.2⟩
   | false =>
    go_wp2_with fail
    go_ret
    exact ⟨_, rfl, HF.out.1, HF.out.2⟩
end Go.Proofs.YtcnciccljblkfaaGreat
namespace Go.Proofs.YtcnciccljblkfaaGreat
open Go.RowKit
attribute [local go_sem ↓] ldP_eq stP_eq ldJ_eq stJ_eq
attribute [local go_sem] zeros_JA cells_JAv zero_PC cells_PV fold_PC PC_size fold_PC1
theorem tn_most {G N : List Rn} (h : NormOf G N) : (N = [] ∧ Most G 0) ∨ (N ≠ [] ∧ ∃ t, (tn N).length = t + 2 ∧ Most G ((tn N).getD (t + 1) 0 - 1)) := by
 rcases List.eq_nil_or_concat N with e | ⟨i, r, e⟩
 ·subst e
  exact Or.inl ⟨rfl, (Most.start).congr h.2⟩
 ·rw [List.concat_eq_append] at e
  subst e
  refine Or.inr ⟨by simp, 2 * i.length, by rw [tn_length]; simp; omega, ?_⟩
  have e2 : (tn (i ++ [r])).getD (2 * i.length + 1) 0 = r.hi + 1 := by
   rw [tn_snoc, ← tn_length]
   simp [List.getD]
  rw [e2, Int.add_sub_cancel]
  exact (Most.last h.1).congr h.2
set_option maxRecDepth 100000 in
set_option maxHeartbeats 400000 in
theorem refLast_any (a : Pv) (r : Int) (w : World) (hS : PSrc w a) : Calls Tryz.prog 39 #[PV a, .int .i64 r] w fun e w' => GivesZ w w' e (LastOf a.P r) := by
 have b1 := below_new w (.cells (PC a) 26)
 have HX := hide (pbox_new w a)
 have HBK := hide b1
 have HS := hide (hS.below b1)
 have l0 := run_ldP HX.out.at
 clear hS b1
 obtain ⟨wk, hwk⟩ : ∃ wk, w.alloc (.cells (PC a) 26) = wk := ⟨_, rfl⟩
 rw [hwk] at HBK HX HS l0
 by_cases hr0 : 0 ≤ r
 ·by_cases hr1 : r < 16
  ·obtain ⟨y, rfl⟩ : ∃ y : Nat, r = y := ⟨r.toNat, by omega⟩
   have hy : y < 16 := by omega
   have hrr : ¬ (y : Int) < 0 := by omega
   have hrq : ¬ (16 : Int) ≤ (y : Int) := by omega
   have HY : Hid (V.isR (y : Int) = true) := by show _ = _; simp [V.isR]; omega
   go_enter Tryz.func39, Tryz.ntmps39
   go_wp2_with fail
   clear hwk
   refine (one_any a _ HS.out).mono ?_
   rintro e w2 ⟨T, N, rfl, hT, b2⟩
   obtain ⟨h1, h2, h3⟩ := hT y hy
   have b3 := below_new w2 (.cells (JA fun _ => si0) 115)
   have X3 := isets_new w2 115 (fun _ => si0)
   have hst := run_stJ (F' := T) X3
   have X4 := ISets.setRow (F' := T) X3
   have b4 := below_setRow (cs := JA T) b3 (Nat.le_refl _)
   have HS4 := hide (h1.below b4)
   have HB4 := hide ((HBK.out.trans (b2.mono HBK.out.size)).trans (b4.mono (Nat.le_trans HBK.out.size b2.size)))
   have HN3 := hide h3
   have c4 := X4.cell y hy
   obtain ⟨ta, tt, tc, hf⟩ : ∃ ta tt tc, (T y).ao = ta ∧ (T y).n = tt ∧ (T y).cap = tc := ⟨_, _, _, rfl, rfl, rfl⟩
   rw [hf.1, hf.2.1, hf.2.2] at HS4 c4
   have y0 : (0 : Int) ≤ (y : Int) := by omega
   have y1 : (y : Int) < 16 := by omega
   clear h1 h2 h3 hT b2 b3 b4 X3 X4 l0 hf
   have htl := HS4.out.1
   rcases tn_most HN3.out with ⟨e0, hm⟩ | ⟨e0, t, ht, hm⟩
   ·rw [e0] at htl
    obtain rfl : tt = 0 := htl.symm
    have HF : Hid (LastOf a.P y 0) := Or.inl ⟨HY.out, hm⟩
    clear hm e0 htl
    go_wp2_with fail
    go_ret
    exact ⟨0, rfl, HF.out, HB4.out⟩
   ·have htb : tt ≤ 1000000002 := by have h1 := form_small (Int.le_refl _) HN3.out.1; have h2 := tn_length (N y); omega
    obtain ⟨u, hu⟩ : ∃ u, u = t + 1 := ⟨_, rfl⟩
    rw [← hu] at hm
    obtain ⟨ad, had, cz⟩ := isrc_at HS4.out u (by omega)
    subst had
    have hzb := hm.bd
    obtain ⟨z, Hz⟩ : ∃ z, Hid ((tn (N y)).getD u 0 = z) := ⟨_, rfl⟩
    rw [Hz.out] at cz hm hzb
    have HF : Hid (LastOf a.P y (z - 1)) := Or.inl ⟨HY.out, hm⟩
    have ew : IntKind.i64.wrap ((tt : Int) - 1) = (u : Int) := by rw [IntKind.wrap_i64]; omega
    have ez : IntKind.i64.wrap (z - 1) = z - 1 := by rw [IntKind.wrap_i64]; omega
    have hn0 : ¬ (tt : Int) = 0 := by omega
    have hut : (u : Int) < (tt : Int) := by omega
    clear hm e0 ht htl hu t
    go_wp2_with fail
    go_ret
    exact ⟨z - 1, by first | rfl | rw [ez], HF.out, HB4.out⟩
  ·have HF : Hid (LastOf a.P r 0) := Or.inr ⟨by simp [V.isR]; omega, rfl⟩
   have hrr : ¬ r < 0 := by omega
   have hrq : (16 : Int) ≤ r := by omega
   go_enter Tryz.func39, Tryz.ntmps39
   go_wp2_with fail
   go_ret
   exact ⟨0, rfl, HF.out, HBK.out⟩
 ·have HF : Hid (LastOf a.P r 0) := Or.inr ⟨by simp [V.isR]; omega, rfl⟩
  have hrr : r < 0 := by omega
  go_enter Tryz.func39, Tryz.ntmps39
  go_wp2_with fail
  go_ret
  exact ⟨0, rfl, HF.out, HBK.out⟩
end Go.Proofs.YtcnciccljblkfaaGreat
namespace Go.Proofs.YtcnciccljblkfaaGreat
open Go.RowKit
attribute [local go_sem ↓] ldP_eq stP_eq ldD_eq stD_eq
attribute [local go_sem] zero_PC cells_PV fold_PC PC_size cells_RV RC_size zero_RC fold_RC
theorem build_D (x y : Int) : ((RC rn0).setIfInBounds 0 (.int .i64 x)).setIfInBounds 1 (.int .i64 y) = RC ⟨x, y⟩ := rfl
attribute [local go_sem] build_D
def NxtOf (P : Pst) (r lim : Int) (d : Rn) (x : Int) : Prop := (V.isR r = false ∧ d = rn0 ∧ x = 3) ∨ (V.isR r = true ∧ ∃ k, LastOf P r k ∧ ((min lim 1000000000 ≤ k ∧ d = rn0 ∧ x = 9) ∨ (k < min lim 1000000000 ∧ d = ⟨r, k + 1⟩ ∧ x = 0)))
def GivN (w w' : World) (e : Ending) (P : Pst) (r lim : Int) : Prop := ∃ d x, e = .returned (.tuple #[RV d, .int .i64 x]) ∧ NxtOf P r lim d x ∧ Below w.heap.size w w'
end Go.Proofs.YtcnciccljblkfaaGreat
namespace Go.Proofs.YtcnciccljblkfaaGreat
open Go.RowKit
attribute [local go_sem ↓] ldP_eq stP_eq ldFa_eq stFa_eq ldD_eq stD_eq
attribute [local go_sem] cells_PV PC_size cells_FaV FaC_size cells_RV RC_size zero_RC fold_RC
set_option maxRecDepth 100000 in
set_option maxHeartbeats 1600000 in
theorem refEvent_a (f : Fc) (w : World) (hF : FcOk w f) (hFo : FormF f) (han : f.an = 0) (hrn : f.rn = 0) : Calls Tryz.prog 15 #[FaV (mkF f)] w fun e w' => GivesK w w' e (EvOf f) := by
 have HFo := hide hFo
 have HX := hide (FaBox_new w (mkF f))
 have HBK := hide (below_new w (.cells (FaC (mkF f)) 29))
 have HS := hide (hF.below HBK.out)
 clear hF
 obtain ⟨wk, hwk⟩ : ∃ wk, w.alloc (.cells (FaC (mkF f)) 29) = wk := ⟨_, rfl⟩
 obtain ⟨G, hG⟩ : ∃ G, w.heap.size = G := ⟨_, rfl⟩
 rw [hwk] at HX HBK HS
 rw [hG] at HX
 obtain ⟨c0, c3⟩ := HX.out.cs
 have lp := run_ldP HX.out.past
 have lf := run_ldFa HX.out
 go_enter Tryz.func15, Tryz.ntmps15
 go_wp2_with fail
 clear hwk hG hFo
 refine (refFacts_any f _ HS.out).mono ?_
 rintro e w2 ⟨b, rfl, hb, b2⟩
 obtain rfl : b = true := hb.out.2 HFo.out
 have HB2 := hide (HBK.out.trans (b2.mono HBK.out.size))
 have HX2 := hide (HX.out.below b2)
 have HS2 := hide (HS.out.below b2)
 clear b2 hb c0 c3 lp lf HX HS HBK
 have lp := run_ldP HX2.out.past
 go_wp2_with fail
 refine (refEmpty_any f.p _ HS2.out.p).mono ?_
 rintro e w3 ⟨b, rfl, hb, b3⟩
 have HBe : Hid (BIf b (EmptyP f.p.P)) := hb
 have HB3 := hide (HB2.out.trans (b3.mono HB2.out.size))
 have HX3 := hide (HX2.out.below b3)
 have HS3 := hide (HS2.out.below b3)
 clear b3 hb lp HX2 HS2 HB2
 obtain ⟨c0, c3⟩ := HX3.out.cs
 have Han := hide han
 rw [han] at c0
 have Hrn := hide hrn
 rw [hrn] at c3
 clear han hrn
 have HE : Hid (EvOf f 0) := .inr (.inr ⟨HFo.out, .inl ⟨Han.out, Hrn.out⟩, rfl⟩)
 go_wp2_with fail
 go_ret
 exact ⟨_, rfl, HE.out, HB3.out⟩
set_option maxRecDepth 100000 in
set_option maxHeartbeats 1600000 in
theorem refEvent_b (f : Fc) (w : World) (hF : FcOk w f) (hFo : FormF f) (han : f.an = 0) (hrn : 2 ≤ f.rn) : Calls Tryz.prog 15 #[FaV (mkF f)] w fun e w' => GivesK w w' e (EvOf f) := by
 have HFo := hide hFo
 have HX := hide (FaBox_new w (mkF f))
 have HBK := hide (below_new w (.cells (FaC (mkF f)) 29))
 have HS := hide (hF.below HBK.out)
 clear hF
 obtain ⟨wk, hwk⟩ : ∃ wk, w.alloc (.cells (FaC (mkF f)) 29) = wk := ⟨_, rfl⟩
 obtain ⟨G, hG⟩ : ∃ G, w.heap.size = G := ⟨_, rfl⟩
 rw [hwk] at HX HBK HS
 rw [hG] at HX
 obtain ⟨c0, c3⟩ := HX.out.cs
 have lp := run_ldP HX.out.past
 have lf := run_ldFa HX.out
 go_enter Tryz.func15, Tryz.ntmps15
 go_wp2_with fail
 clear hwk hG hFo
 refine (refFacts_any f _ HS.out).mono ?_
 rintro e w2 ⟨b, rfl, hb, b2⟩
 obtain rfl : b = true := hb.out.2 HFo.out
 have HB2 := hide (HBK.out.trans (b2.mono HBK.out.size))
 have HX2 := hide (HX.out.below b2)
 have HS2 := hide (HS.out.below b2)
 clear b2 hb c0 c3 lp lf HX HS HBK
 have lp := run_ldP HX2.out.past
 go_wp2_with fail
 refine (refEmpty_any f.p _ HS2.out.p).mono ?_
 rintro e w3 ⟨b, rfl, hb, b3⟩
 have HBe : Hid (BIf b (EmptyP f.p.P)) := hb
 have HB3 := hide (HB2.out.trans (b3.mono HB2.out.size))
 have HX3 := hide (HX2.out.below b3)
 have HS3 := hide (HS2.out.below b3)
 clear b3 hb lp HX2 HS2 HB2
 obtain ⟨c0, c3⟩ := HX3.out.cs
 have Han := hide han
 rw [han] at c0
 have Hrn := hide hrn
 have zrn1 : ((f.rn : Int) == 0) = false := by have := Hrn.out; simp; omega
 have zrn2 : (f.rn == 0) = false := by have := Hrn.out; simp; omega
 have zrn3 : ((f.rn : Int) == 1) = false := by have := Hrn.out; simp; omega
 have zrn4 : (f.rn == 1) = false := by have := Hrn.out; simp; omega
 clear han hrn
 have HE : Hid (EvOf f 2) := .inr (.inl ⟨HFo.out, fun h => by rcases h with ⟨h1, h2⟩ | ⟨h1, h2, _⟩ | ⟨h1, h2, _⟩ <;> (have := Hrn.out; omega), rfl⟩)
 go_wp2_with fail
 go_ret
 exact ⟨_, rfl, HE.out, HB3.out⟩
set_option maxRecDepth 100000 in
set_option maxHeartbeats 1600000 in
theorem refEvent_c (f : Fc) (w : World) (hF : FcOk w f) (hFo : FormF f) (han : f.an = 1) (hrn : 1 ≤ f.rn) : Calls Tryz.prog 15 #[FaV (mkF f)] w fun e w' => GivesK w w' e (EvOf f) := by
 have HFo := hide hFo
 have HX := hide (FaBox_new w (mkF f))
 have HBK := hide (below_new w (.cells (FaC (mkF f)) 29))
 have HS := hide (hF.below HBK.out)
 clear hF
 obtain ⟨wk, hwk⟩ : ∃ wk, w.alloc (.cells (FaC (mkF f)) 29) = wk := ⟨_, rfl⟩
 obtain ⟨G, hG⟩ : ∃ G, w.heap.size = G := ⟨_, rfl⟩
 rw [hwk] at HX HBK HS
 rw [hG] at HX
 obtain ⟨c0, c3⟩ := HX.out.cs
 have lp := run_ldP HX.out.past
 have lf := run_ldFa HX.out
 go_enter Tryz.func15, Tryz.ntmps15
 go_wp2_with fail
 clear hwk hG hFo
 refine (refFacts_any f _ HS.out).mono ?_
 rintro e w2 ⟨b, rfl, hb, b2⟩
 obtain rfl : b = true := hb.out.2 HFo.out
 have HB2 := hide (HBK.out.trans (b2.mono HBK.out.size))
 have HX2 := hide (HX.out.below b2)
 have HS2 := hide (HS.out.below b2)
 clear b2 hb c0 c3 lp lf HX HS HBK
 have lp := run_ldP HX2.out.past
 go_wp2_with fail
 refine (refEmpty_any f.p _ HS2.out.p).mono ?_
 rintro e w3 ⟨b, rfl, hb, b3⟩
 have HBe : Hid (BIf b (EmptyP f.p.P)) := hb
 have HB3 := hide (HB2.out.trans (b3.mono HB2.out.size))
 have HX3 := hide (HX2.out.below b3)
 have HS3 := hide (HS2.out.below b3)
 clear b3 hb lp HX2 HS2 HB2
 obtain ⟨c0, c3⟩ := HX3.out.cs
 have Han := hide han
 rw [han] at c0
 have Hrn := hide hrn
 have zrn1 : ((f.rn : Int) == 0) = false := by have := Hrn.out; simp; omega
 have zrn2 : (f.rn == 0) = false := by have := Hrn.out; simp; omega
 clear han hrn
 have HE : Hid (EvOf f 2) := .inr (.inl ⟨HFo.out, fun h => by rcases h with ⟨h1, h2⟩ | ⟨h1, h2, _⟩ | ⟨h1, h2, _⟩ <;> (have := Hrn.out; have := Han.out; omega), rfl⟩)
 go_wp2_with fail
 go_ret
 exact ⟨_, rfl, HE.out, HB3.out⟩
set_option maxRecDepth 100000 in
set_option maxHeartbeats 1600000 in
theorem refEvent_d (f : Fc) (w : World) (hF : FcOk w f) (hFo : FormF f) (han : 2 ≤ f.an) : Calls Tryz.prog 15 #[FaV (mkF f)] w fun e w' => GivesK w w' e (EvOf f) := by
 have HFo := hide hFo
 have HX := hide (FaBox_new w (mkF f))
 have HBK := hide (below_new w (.cells (FaC (mkF f)) 29))
 have HS := hide (hF.below HBK.out)
 clear hF
 obtain ⟨wk, hwk⟩ : ∃ wk, w.alloc (.cells (FaC (mkF f)) 29) = wk := ⟨_, rfl⟩
 obtain ⟨G, hG⟩ : ∃ G, w.heap.size = G := ⟨_, rfl⟩
 rw [hwk] at HX HBK HS
 rw [hG] at HX
 obtain ⟨c0, c3⟩ := HX.out.cs
 have lp := run_ldP HX.out.past
 have lf := run_ldFa HX.out
 go_enter Tryz.func15, Tryz.ntmps15
 go_wp2_with fail
 clear hwk hG hFo
 refine (refFacts_any f _ HS.out).mono ?_
 rintro e w2 ⟨b, rfl, hb, b2⟩
 obtain rfl : b = true := hb.out.2 HFo.out
 have HB2 := hide (HBK.out.trans (b2.mono HBK.out.size))
 have HX2 := hide (HX.out.below b2)
 have HS2 := hide (HS.out.below b2)
 clear b2 hb c0 c3 lp lf HX HS HBK
 have lp := run_ldP HX2.out.past
 go_wp2_with fail
 refine (refEmpty_any f.p _ HS2.out.p).mono ?_
 rintro e w3 ⟨b, rfl, hb, b3⟩
 have HBe : Hid (BIf b (EmptyP f.p.P)) := hb
 have HB3 := hide (HB2.out.trans (b3.mono HB2.out.size))
 have HX3 := hide (HX2.out.below b3)
 have HS3 := hide (HS2.out.below b3)
 clear b3 hb lp HX2 HS2 HB2
 obtain ⟨c0, c3⟩ := HX3.out.cs
 have Han := hide han
 have zan1 : ((f.an : Int) == 0) = false := by have := Han.out; simp; omega
 have zan2 : (f.an == 0) = false := by have := Han.out; simp; omega
 have zan3 : ((f.an : Int) == 1) = false := by have := Han.out; simp; omega
 have zan4 : (f.an == 1) = false := by have := Han.out; simp; omega
 clear han
 have HE : Hid (EvOf f 2) := .inr (.inl ⟨HFo.out, fun h => by rcases h with ⟨h1, h2⟩ | ⟨h1, h2, _⟩ | ⟨h1, h2, _⟩ <;> (have := Han.out; omega), rfl⟩)
 go_wp2_with fail
 go_ret
 exact ⟨_, rfl, HE.out, HB3.out⟩
set_option maxRecDepth 100000 in
set_option maxHeartbeats 1600000 in
theorem refEvent_e (f : Fc) (w : World) (hF : FcOk w f) (hFo : FormF f) (han : f.an = 0) (hrn : f.rn = 1) : Calls Tryz.prog 15 #[FaV (mkF f)] w fun e w' => GivesK w w' e (EvOf f) := by
 have HFo := hide hFo
 have HX := hide (FaBox_new w (mkF f))
 have HBK := hide (below_new w (.cells (FaC (mkF f)) 29))
 have HS := hide (hF.below HBK.out)
 clear hF
 obtain ⟨wk, hwk⟩ : ∃ wk, w.alloc (.cells (FaC (mkF f)) 29) = wk := ⟨_, rfl⟩
 obtain ⟨G, hG⟩ : ∃ G, w.heap.size = G := ⟨_, rfl⟩
 rw [hwk] at HX HBK HS
 rw [hG] at HX
 obtain ⟨c0, c3⟩ := HX.out.cs
 have lp := run_ldP HX.out.past
 have lf := run_ldFa HX.out
 go_enter Tryz.func15, Tryz.ntmps15
 go_wp2_with fail
 clear hwk hG hFo
 refine (refFacts_any f _ HS.out).mono ?_
 rintro e w2 ⟨b, rfl, hb, b2⟩
 obtain rfl : b = true := hb.out.2 HFo.out
 have HB2 := hide (HBK.out.trans (b2.mono HBK.out.size))
 have HX2 := hide (HX.out.below b2)
 have HS2 := hide (HS.out.below b2)
 clear b2 hb c0 c3 lp lf HX HS HBK
 have lp := run_ldP HX2.out.past
 go_wp2_with fail
 refine (refEmpty_any f.p _ HS2.out.p).mono ?_
 rintro e w3 ⟨b, rfl, hb, b3⟩
 have HBe : Hid (BIf b (EmptyP f.p.P)) := hb
 have HB3 := hide (HB2.out.trans (b3.mono HB2.out.size))
 have HX3 := hide (HX2.out.below b3)
 have HS3 := hide (HS2.out.below b3)
 clear b3 hb lp HX2 HS2 HB2
 obtain ⟨c0, c3⟩ := HX3.out.cs
 have Han := hide han
 rw [han] at c0
 have Hrn := hide hrn
 rw [hrn] at c3
 clear han hrn
 cases b with
 | true =>
  have HE : Hid (EvOf f 0) := .inr (.inr ⟨HFo.out, .inr (.inr ⟨Han.out, Hrn.out, HBe.out.out.1 rfl⟩), rfl⟩)
  go_wp2_with fail
  go_ret
  exact ⟨_, rfl, HE.out, HB3.out⟩
 | false =>
  have HNo : Hid (¬ OneA f) := fun h => by
   have h5 := Han.out
   have h6 := Hrn.out
   rcases h with ⟨h1, h2⟩ | ⟨h1, h2, _⟩ | ⟨h1, h2, h3⟩
   ·omega
   ·omega
   ·have := HBe.out.out.2 h3
    cases this
  have HE : Hid (EvOf f 2) := .inr (.inl ⟨HFo.out, HNo.out, rfl⟩)
  go_wp2_with fail
  go_ret
  exact ⟨_, rfl, HE.out, HB3.out⟩
set_option maxRecDepth 100000 in
set_option maxHeartbeats 1600000 in
theorem refEvent_f (f : Fc) (w : World) (hF : FcOk w f) (hFo : FormF f) (han : f.an = 1) (hrn : f.rn = 0) : Calls Tryz.prog 15 #[FaV (mkF f)] w fun e w' => GivesK w w' e (EvOf f) := by
 have HFo := hide hFo
 have HX := hide (FaBox_new w (mkF f))
 have HBK := hide (below_new w (.cells (FaC (mkF f)) 29))
 have HS := hide (hF.below HBK.out)
 clear hF
 obtain ⟨wk, hwk⟩ : ∃ wk, w.alloc (.cells (FaC (mkF f)) 29) = wk := ⟨_, rfl⟩
 obtain ⟨G, hG⟩ : ∃ G, w.heap.size = G := ⟨_, rfl⟩
 rw [hwk] at HX HBK HS
 rw [hG] at HX
 obtain ⟨c0, c3⟩ := HX.out.cs
 have lp := run_ldP HX.out.past
 have lf := run_ldFa HX.out
 go_enter Tryz.func15, Tryz.ntmps15
 go_wp2_with fail
 clear hwk hG hFo
 refine (refFacts_any f _ HS.out).mono ?_
 rintro e w2 ⟨b, rfl, hb, b2⟩
 obtain rfl : b = true := hb.out.2 HFo.out
 have HB2 := hide (HBK.out.trans (b2.mono HBK.out.size))
 have HX2 := hide (HX.out.below b2)
 have HS2 := hide (HS.out.below b2)
 clear b2 hb c0 c3 lp lf HX HS HBK
 have lp := run_ldP HX2.out.past
 go_wp2_with fail
 refine (refEmpty_any f.p _ HS2.out.p).mono ?_
 rintro e w3 ⟨b, rfl, hb, b3⟩
 have HBe : Hid (BIf b (EmptyP f.p.P)) := hb
 have HB3 := hide (HB2.out.trans (b3.mono HB2.out.size))
 have HX3 := hide (HX2.out.below b3)
 have HS3 := hide (HS2.out.below b3)
 clear b3 hb lp HX2 HS2 HB2
 obtain ⟨c0, c3⟩ := HX3.out.cs
 have Han := hide han
 rw [han] at c0
 have Hrn := hide hrn
 rw [hrn] at c3
 clear han hrn
 obtain ⟨ad, e1, A0⟩ := HS3.out.es.at 0 (by have := Han.out; omega)
 obtain ⟨x, Hx⟩ : ∃ x, Hid (f.es.getD 0 K.en0 = x) := ⟨_, rfl⟩
 rw [Hx.out, Nat.zero_mul, K.add_zero] at A0
 obtain ⟨ab, ao, asp⟩ := ad
 obtain rfl : asp = none := by
  have h := A0.c0
  cases asp with
  | none => rfl
  | some _ => unfold World.cell? at h; split at h <;> simp at h
 have q0 : w3.cell? ⟨ab, ao, none⟩ = some (.int .i64 x.rep) := A0.c0
 have q1 : w3.cell? ⟨ab, ao + 1, none⟩ = some (.int .i64 x.num) := A0.c1
 have HQ := hide (And.intro q0 q1)
 rw [e1] at c0
 have HP3 := hide HS3.out.p
 have HC0 := hide c0
 clear A0 q0 q1
 go_wp2_with fail
 clear c0 c3
 refine wp_region_held_drew (S := fun v => (ldP (.pointer (some ⟨G, 1, none⟩))).run Tryz.prog v = .ok (PV f.p) v ∧ v.cell? ⟨G, 0, none⟩ = some (.slice (some ⟨ab, ao, none⟩) 1 f.ac) ∧ v.cell? ⟨ab, ao, none⟩ = some (.int .i64 x.rep) ∧ v.cell? ⟨ab, ao + 1, none⟩ = some (.int .i64 x.num)) (by kernel_rfl) (⟨run_ldP (HX3.out.below (below_drew1 w3)).past, ((below_drew1 w3).cell (World.block_lt_of_cell? _ _ HC0.out)).trans HC0.out, ((below_drew1 w3).cell (World.block_lt_of_cell? _ _ HQ.out.1)).trans HQ.out.1, ((below_drew1 w3).cell (World.block_lt_of_cell? _ _ HQ.out.2)).trans HQ.out.2⟩) (fun hHeld => ?_)
 refine wTk 0 ⟨some 22, .fieldAddr 29 (.tmp 1) 1, 0, "ref.go:225", #[], none⟩ rfl ?_
 refine wTk 1 ⟨some 23, .load 26 (.tmp 22), 26, "ref.go:225", #[⟨0, .data⟩], none⟩ rfl ?_
 refine wTk 2 ⟨some 24, .fieldAddr 29 (.tmp 1) 0, 0, "ref.go:225", #[], none⟩ rfl ?_
 refine wTk 3 ⟨some 25, .load 22 (.tmp 24), 22, "ref.go:225", #[⟨2, .data⟩], none⟩ rfl ?_
 refine wTk 4 ⟨some 26, .indexAddr 22 (.tmp 25) (.const (.int .i64 0)), 0, "ref.go:225", #[⟨3, .data⟩], none⟩ rfl ?_
 refine wTk 5 ⟨some 27, .fieldAddr 36 (.tmp 26) 0, 0, "ref.go:225", #[⟨4, .data⟩], none⟩ rfl ?_
 refine wTk 6 ⟨some 28, .fieldAddr 34 (.tmp 27) 0, 0, "ref.go:225", #[⟨5, .data⟩], none⟩ rfl ?_
 refine wTk 7 ⟨some 29, .load 3 (.tmp 28), 3, "ref.go:225", #[⟨6, .data⟩], none⟩ rfl ?_
 refine wTk 9 ⟨some 31, .fieldAddr 29 (.tmp 1) 0, 0, "ref.go:225", #[], none⟩ rfl ?_
 refine wTk 10 ⟨some 32, .load 22 (.tmp 31), 22, "ref.go:225", #[⟨9, .data⟩], none⟩ rfl ?_
 refine wTk 11 ⟨some 33, .indexAddr 22 (.tmp 32) (.const (.int .i64 0)), 0, "ref.go:225", #[⟨10, .data⟩], none⟩ rfl ?_
 refine wTk 12 ⟨some 34, .fieldAddr 36 (.tmp 33) 0, 0, "ref.go:225", #[⟨11, .data⟩], none⟩ rfl ?_
 refine wTk 13 ⟨some 35, .fieldAddr 34 (.tmp 34) 1, 0, "ref.go:225", #[⟨12, .data⟩], none⟩ rfl ?_
 refine wTk 14 ⟨some 36, .load 3 (.tmp 35), 3, "ref.go:225", #[⟨13, .data⟩], none⟩ rfl ?_
 refine wpAnyH_ready (rs := [8]) (by kernel_rfl) (by simp) (.cons rfl (fun K hK => ?_) .nil)
 go_simp
 go_wp2_with fail
 refine (refLast_any f.p x.rep _ (HP3.out.below (below_drew1 w3))).mono ?_
 rintro e w4 ⟨k, rfl, hk, b4⟩
 have hB4 : Below w3.heap.size w3 w4 := (below_drew1 w3).trans b4
 have HB4 := hide (HB3.out.trans (hB4.mono HB3.out.size))
 have HK := hide hk
 refine hK.out _ _ (⟨run_ldP (HX3.out.below (hB4)).past, ((hB4).cell (World.block_lt_of_cell? _ _ HC0.out)).trans HC0.out, ((hB4).cell (World.block_lt_of_cell? _ _ HQ.out.1)).trans HQ.out.1, ((hB4).cell (World.block_lt_of_cell? _ _ HQ.out.2)).trans HQ.out.2⟩) (fun hHeld => ?_)
 clear hK K b4 hk hB4
 by_cases hkx : x.num ≤ k
 ·have hd : decide (x.num ≤ k) = true := decide_eq_true hkx
  have HE : Hid (EvOf f 2) := .inr (.inl ⟨HFo.out, fun h => by
   have h5 := Han.out
   have h6 := Hrn.out
   rcases h with ⟨h1, h2⟩ | ⟨h1, h2, k2, h3, h4⟩ | ⟨h1, h2, h3⟩
   ·omega
   ·rw [Hx.out] at h3 h4
    have := LastOf.unique HK.out h3
    omega
   ·omega, rfl⟩)
  clear hkx
  refine wTk 15 ⟨some 37, .binOp .geq 3 (.tmp 30) (.tmp 36) 3, 4, "ref.go:225", #[⟨8, .data⟩, ⟨14, .data⟩], none⟩ rfl ?_
  refine wpAnyH_done (by kernel_rfl) ?_ _
  clear hHeld
  go_wp2_with fail
  go_ret
  exact ⟨_, rfl, HE.out, HB4.out⟩
 ·have hd : decide (x.num ≤ k) = false := decide_eq_false hkx
  have HE : Hid (EvOf f 0) := .inr (.inr ⟨HFo.out, .inr (.inl ⟨Han.out, Hrn.out, k, by rw [Hx.out]; exact HK.out, by rw [Hx.out]; omega⟩), rfl⟩)
  clear hkx
  refine wTk 15 ⟨some 37, .binOp .geq 3 (.tmp 30) (.tmp 36) 3, 4, "ref.go:225", #[⟨8, .data⟩, ⟨14, .data⟩], none⟩ rfl ?_
  refine wpAnyH_done (by kernel_rfl) ?_ _
  clear hHeld
  go_wp2_with fail
  go_ret
  exact ⟨_, rfl, HE.out, HB4.out⟩
set_option maxRecDepth 100000 in
theorem refEvent_no (f : Fc) (w : World) (hF : FcOk w f) (hN : ¬ FormF f) : Calls Tryz.prog 15 #[FaV (mkF f)] w fun e w' => GivesK w w' e (EvOf f) := by
 have HN := hide hN
 have HX := hide (FaBox_new w (mkF f))
 have HBK := hide (below_new w (.cells (FaC (mkF f)) 29))
 have HS := hide (hF.below HBK.out)
 clear hF
 obtain ⟨wk, hwk⟩ : ∃ wk, w.alloc (.cells (FaC (mkF f)) 29) = wk := ⟨_, rfl⟩
 obtain ⟨G, hG⟩ : ∃ G, w.heap.size = G := ⟨_, rfl⟩
 rw [hwk] at HX HBK HS
 rw [hG] at HX
 obtain ⟨c0, c3⟩ := HX.out.cs
 have lp := run_ldP HX.out.past
 have lf := run_ldFa HX.out
 go_enter Tryz.func15, Tryz.ntmps15
 go_wp2_with fail
 clear hwk hG hN
 refine (refFacts_any f _ HS.out).mono ?_
 rintro e w2 ⟨b, rfl, hb, b2⟩
 obtain rfl : b = false := by
  cases b with
  | false => rfl
  | true => exact absurd (hb.out.1 rfl) HN.out
 have HE : Hid (EvOf f 1 ∧ Below w.heap.size w w2) := ⟨.inl ⟨HN.out, rfl⟩, HBK.out.trans (b2.mono HBK.out.size)⟩
 clear b2 hb
 go_wp2_with fail
 go_ret
 exact ⟨_, rfl, HE.out.1, HE.out.2⟩
theorem refEvent_any (f : Fc) (w : World) (hF : FcOk w f) : Calls Tryz.prog 15 #[FaV (mkF f)] w fun e w' => GivesK w w' e (EvOf f) := by
 by_cases hFo : FormF f
 ·by_cases h0 : f.an = 0
  ·by_cases k0 : f.rn = 0
   ·exact refEvent_a f w hF hFo h0 k0
   ·by_cases k1 : f.rn = 1
    ·exact refEvent_e f w hF hFo h0 k1
    ·exact refEvent_b f w hF hFo h0 (by omega)
  ·by_cases h1 : f.an = 1
   ·by_cases k0 : f.rn = 0
    ·exact refEvent_f f w hF hFo h1 k0
    ·exact refEvent_c f w hF hFo h1 (by omega)
   ·exact refEvent_d f w hF hFo (by omega)
 ·exact refEvent_no f w hF hFo
end Go.Proofs.YtcnciccljblkfaaGreat

