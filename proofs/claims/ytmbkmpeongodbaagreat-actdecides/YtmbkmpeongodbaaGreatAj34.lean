/- QCd QRm QRu ORo -/
import Derived.Test.YtmbkmpeongodbaaGreatTk
import Derived.Test.YtmbkmpeongodbaaGreatAj33
import Derived.Test.YtmbkmpeongodbaaGreatAj00
import Derived.Test.YtmbkmpeongodbaaGreatAj03
import Derived.Deep.RegionHeldLaw
import Derived.Test.YtmbkmpeongodbaaGreatAj09
import Derived.Test.YtmbkmpeongodbaaGreatAj32
import Derived.Test.YtmbkmpeongodbaaGreatAj20
namespace Go.Proofs.YtmbkmpeongodbaaGreat
open Go.RowKit
attribute [local go_sem ↓] ldJ_eq stJ_eq
attribute [local go_sem] zeros_JA cells_JAv
def GivesSC (w w' : World) (e : Ending) (k : Int) (N1 N2 : Nat → List Rn) : Prop := ∃ (T : Nat → Si) (N : Nat → List Rn), e = .returned (JAv T) ∧ (∀ r, r < 16 → V.Src w' (T r).ao (T r).n (T r).cap (tn (N r)) ∧ (∀ ad, (T r).ao = some ad → w.heap.size ≤ ad.block) ∧ CombOf k (N1 r) (N2 r) (N r)) ∧ Below w.heap.size w w'
structure CbJ (w W : World) (k : Int) (T1 T2 : Nat → Si) (N1 N2 : Nat → List Rn) (T : Nat → Si) (N : Nat → List Rn) (j : Nat) : Prop where
 a : ISets W w.heap.size 105 T1
 b : ISets W (w.heap.size + 1) 105 T2
 z : ISets W (w.heap.size + 1 + 1) 105 (fun _ => si0)
 s : ISets W (w.heap.size + 1 + 1 + 1) 105 T
 bl : Below w.heap.size w W
 t : ∀ r, r < j → V.Src W (T r).ao (T r).n (T r).cap (tn (N r)) ∧ (∀ ad, (T r).ao = some ad → w.heap.size + 1 + 1 + 1 < ad.block) ∧ CombOf k (N1 r) (N2 r) (N r)
theorem CbJ.start (w : World) (k : Int) (T1 T2 : Nat → Si) (N1 N2 : Nat → List Rn) : CbJ w ((((w.alloc (.cells (JA T1) 105)).alloc (.cells (JA T2) 105)).alloc (.cells (JA fun _ => si0) 105)).alloc (.cells (JA fun _ => si0) 105)) k T1 T2 N1 N2 (fun _ => si0) (fun _ => []) 0 := by
 have b1 := below_new w (.cells (JA T1) 105)
 have b2 := below_new (w.alloc (.cells (JA T1) 105)) (.cells (JA T2) 105)
 have b3 := below_new ((w.alloc (.cells (JA T1) 105)).alloc (.cells (JA T2) 105)) (.cells (JA fun _ => si0) 105)
 have b4 := below_new (((w.alloc (.cells (JA T1) 105)).alloc (.cells (JA T2) 105)).alloc (.cells (JA fun _ => si0) 105)) (.cells (JA fun _ => si0) 105)
 have i1 := isets_new w 105 T1
 have i2 := isets_new (w.alloc (.cells (JA T1) 105)) 105 T2
 have i3 := isets_new ((w.alloc (.cells (JA T1) 105)).alloc (.cells (JA T2) 105)) 105 (fun _ => si0)
 have i4 := isets_new (((w.alloc (.cells (JA T1) 105)).alloc (.cells (JA T2) 105)).alloc (.cells (JA fun _ => si0) 105)) 105 (fun _ => si0)
 have j1 := ((i1.below b2).below b3).below b4
 have j2 := (i2.below b3).below b4
 have j3 := i3.below b4
 simp only [World.size_alloc] at j1 j2 j3 i4
 exact ⟨j1, j2, j3, i4, b1.trans ((b2.mono b1.size).trans ((b3.mono (b1.trans (b2.mono b1.size)).size).trans (b4.mono (b1.trans ((b2.mono b1.size).trans (b3.mono (b1.trans (b2.mono b1.size)).size))).size))), fun r h => absurd h (by omega)⟩
theorem CbJ.on {w W W' : World} {k : Int} {T1 T2 : Nat → Si} {N1 N2 : Nat → List Rn} {T : Nat → Si} {N : Nat → List Rn} {j : Nat} (I : CbJ w W k T1 T2 N1 N2 T N j) (hb : Below W.heap.size W W') : CbJ w W' k T1 T2 N1 N2 T N j :=
 ⟨I.a.below hb, I.b.below hb, I.z.below hb, I.s.below hb, I.bl.trans (hb.mono I.bl.size), fun r hr => ⟨(I.t r hr).1.below hb, (I.t r hr).2⟩⟩
theorem CbJ.push {w W W' : World} {k : Int} {T1 T2 : Nat → Si} {N1 N2 : Nat → List Rn} {T : Nat → Si} {N : Nat → List Rn} {j : Nat} (I : CbJ w W k T1 T2 N1 N2 T N j) (hb : Below W.heap.size W W') {ao : Option Addr} {n c : Nat} {X : List Rn} (S : V.Src W' ao n c (tn X)) (hf : ∀ ad, ao = some ad → W.heap.size ≤ ad.block) (hN : CombOf k (N1 j) (N2 j) X) :
  CbJ w (W'.setCell ⟨w.heap.size + 1 + 1 + 1, j, none⟩ (.slice ao n c)) k T1 T2 N1 N2 (Jset T j ⟨ao, n, c, []⟩) (fun r => if r = j then X else N r) (j + 1) := by
 have hl := I.s.lt
 have J := I.on hb
 have hs : ∀ {q : Nat}, q ≠ w.heap.size + 1 + 1 + 1 → (W'.setCell ⟨w.heap.size + 1 + 1 + 1, j, none⟩ (.slice ao n c)).heap[q]? = W'.heap[q]? := fun h => setCell_other h
 refine ⟨(hs (by omega)).trans J.a, (hs (by omega)).trans J.b, (hs (by omega)).trans J.z, (I.s.below hb).set j ⟨ao, n, c, []⟩ _ rfl, V.below_setCell J.bl (by simp; omega), fun r hr => ?_⟩
 by_cases h : r = j
 ·subst h
  rw [Jset_same, if_pos rfl]
  exact ⟨src_off S (fun ad h => hs (by have := hf ad h; omega)), fun ad h => by have := hf ad h; omega, hN⟩
 ·rw [Jset_other _ _ _ _ h, if_neg h]
  obtain ⟨h1, h2, h3⟩ := I.t r (by omega)
  exact ⟨src_off (h1.below hb) (fun ad h => hs (by have := h2 ad h; omega)), h2, h3⟩
set_option maxRecDepth 100000 in
set_option maxHeartbeats 2000000 in
theorem combined_any (T1 T2 : Nat → Si) (N1 N2 : Nat → List Rn) (k : Int) (w : World) (hS1 : ∀ r, r < 16 → V.Src w (T1 r).ao (T1 r).n (T1 r).cap (tn (N1 r)) ∧ form 1 (N1 r)) (hS2 : ∀ r, r < 16 → V.Src w (T2 r).ao (T2 r).n (T2 r).cap (tn (N2 r)) ∧ form 1 (N2 r)) (hk : k = 1 ∨ k = 2) :
  Calls Tryz.prog 105 #[JAv T1, JAv T2, .int .i64 k] w fun e w' => GivesSC w w' e k N1 N2 := by
 have HS1 := hide hS1
 have HS2 := hide hS2
 have HK := hide hk
 clear hS1 hS2 hk
 have HJ0 := hide (CbJ.start w k T1 T2 N1 N2)
 go_enter Tryz.func105, Tryz.ntmps105
 go_wp2_with fail
 go_loopw [8] (fun i wr => ∃ (j : Nat) (T : Nat → Si) (N : Nat → List Rn), j ≤ 16 ∧ i = .int .i64 j ∧ Hid (CbJ w wr k T1 T2 N1 N2 T N j)) (fun i _ => 16 - (intOf i).toNat)
 case atStart => exact ⟨0, _, _, Nat.zero_le _, rfl, HJ0⟩
 case round =>
  obtain ⟨y, T, N, hy16, rfl, HJ⟩ := hrel
  rename World => w6
  clear HJ0
  by_cases hy : y < 16
  ·have HGL := hide HJ.out.s.lt
   have sA := (HS1.out y hy).1.below HJ.out.bl
   have sB := (HS2.out y hy).1.below HJ.out.bl
   have HFA := hide (HS1.out y hy).2
   have HFB := hide (HS2.out y hy).2
   have c1 := HJ.out.a.cell y hy
   have c2 := HJ.out.b.cell y hy
   obtain ⟨sa, n, ca, sb, m, cb, hf⟩ : ∃ sa n ca sb m cb, (T1 y).ao = sa ∧ (T1 y).n = n ∧ (T1 y).cap = ca ∧ (T2 y).ao = sb ∧ (T2 y).n = m ∧ (T2 y).cap = cb := ⟨_, _, _, _, _, _, rfl, rfl, rfl, rfl, rfl, rfl⟩
   rw [hf.1, hf.2.1, hf.2.2.1] at sA c1
   rw [hf.2.2.2.1, hf.2.2.2.2.1, hf.2.2.2.2.2] at sB c2
   have HSA := hide (sA.below (below_drew1 w6))
   have HSB := hide (sB.below (below_drew1 w6))
   have HSW : Hid (∀ W' : World, (∀ q, q < w.heap.size + 1 + 1 + 1 → W'.heap[q]? = w6.heap[q]?) → W'.cell? ⟨w.heap.size, y, none⟩ = some (.slice sa n ca) ∧ W'.cell? ⟨w.heap.size + 1, y, none⟩ = some (.slice sb m cb)) := fun W' h => ⟨(World.cell?_of_block (h _ (by show w.heap.size < _; omega))).trans c1, (World.cell?_of_block (h _ (by show w.heap.size + 1 < _; omega))).trans c2⟩
   clear sA sB hf
   have y0 : (0 : Int) ≤ (y : Int) := by omega
   have y1 : (y : Int) < 16 := by omega
   go_wp2_with fail
   refine wp_region_held_drew (S := fun W => W.cell? ⟨w.heap.size, y, none⟩ = some (.slice sa n ca) ∧ W.cell? ⟨w.heap.size + 1, y, none⟩ = some (.slice sb m cb)) (by kernel_rfl) (HSW.out _ (fun q _ => rfl)) (fun hHeld => ?_)
   refine wTk 0 ⟨some 13, .move (.tmp 8), 3, "ref.go:159", #[], none⟩ rfl ?_
   refine wTk 1 ⟨some 14, .move (.tmp 8), 3, "ref.go:159", #[], none⟩ rfl ?_
   refine wTk 2 ⟨some 15, .fieldAddr 105 (.tmp 3) 0, 0, "ref.go:159", #[], none⟩ rfl ?_
   refine wTk 3 ⟨some 16, .indexAddr 103 (.tmp 15) (.tmp 14), 0, "ref.go:159", #[⟨2, .data⟩, ⟨1, .data⟩], none⟩ rfl ?_
   refine wTk 4 ⟨some 17, .load 23 (.tmp 16), 23, "ref.go:159", #[⟨3, .data⟩], none⟩ rfl ?_
   refine wTk 5 ⟨some 18, .move (.tmp 8), 3, "ref.go:159", #[], none⟩ rfl ?_
   refine wTk 6 ⟨some 19, .fieldAddr 105 (.tmp 4) 0, 0, "ref.go:159", #[], none⟩ rfl ?_
   refine wTk 7 ⟨some 20, .indexAddr 103 (.tmp 19) (.tmp 18), 0, "ref.go:159", #[⟨6, .data⟩, ⟨5, .data⟩], none⟩ rfl ?_
   refine wTk 8 ⟨some 21, .load 23 (.tmp 20), 23, "ref.go:159", #[⟨7, .data⟩], none⟩ rfl ?_
   refine wTk 9 ⟨some 22, .move (.tmp 2), 3, "ref.go:159", #[], none⟩ rfl ?_
   refine wTk 11 ⟨some 24, .fieldAddr 105 (.tmp 7) 0, 0, "ref.go:159", #[], none⟩ rfl ?_
   refine wpAnyH_ready (rs := [10]) (by kernel_rfl) (by simp) (.cons rfl (fun K hK => ?_) .nil)
   go_simp
   go_wp2_with fail
   have HJD := hide (HJ.out.on (below_drew1 w6))
   refine (combine_any _ _ _ _ _ _ _ _ _ _ HSA.out HSB.out HFA.out HFB.out HK.out).mono ?_
   rintro e w8 ⟨t9, tt, tc, TX, rfl, S8, f8, b8, N8⟩
   have HP := hide (HJD.out.push b8 S8 f8 N8)
   have HKA : Hid (∀ q, q < w6.heap.size → w8.heap[q]? = w6.heap[q]?) := fun q hq => b8.block q hq
   have HS8 := (HJD.out.s.below b8)
   have e2 := HS8.frozen y
   have e1 := HS8.cell y hy
   have HKB : Hid (∀ q, q < w.heap.size + 1 + 1 + 1 → (w8.setCell ⟨w.heap.size + 1 + 1 + 1, y, none⟩ (.slice t9 tt tc)).heap[q]? = w6.heap[q]?) := fun q hq => (setCell_other (by omega)).trans (HKA.out q (by have := HGL.out; omega))
   refine hK.out _ _ (HSW.out _ (fun q hq => HKA.out q (by have := HGL.out; omega))) (fun hHeld => ?_)
   clear hK K
   refine wTk 12 ⟨some 25, .indexAddr 103 (.tmp 24) (.tmp 13), 0, "ref.go:159", #[⟨11, .data⟩, ⟨0, .data⟩, ⟨0, .phase⟩, ⟨1, .phase⟩, ⟨2, .phase⟩, ⟨3, .phase⟩, ⟨4, .phase⟩, ⟨5, .phase⟩, ⟨6, .phase⟩, ⟨7, .phase⟩, ⟨8, .phase⟩, ⟨9, .phase⟩, ⟨10, .phase⟩], none⟩ rfl ?_
   refine wpAnyH_ready (rs := [13]) (by kernel_rfl) (by simp) (.cons rfl (fun K hK => ?_) .nil)
   go_simp
   refine hK.out _ _ (HSW.out _ HKB.out) (fun hHeld => ?_)
   clear hK K
   refine wpAnyH_done (by kernel_rfl) ?_ _
   clear hHeld S8 f8 b8 N8 HKA HKB HS8 e1 e2
   go_wp2_with fail
   go_roundw
   case rel => exact ⟨y + 1, _, _, by omega, by go_num, HP⟩
   case measure => simp [intOf]; omega
  ·obtain rfl : y = 16 := by omega
   have hld := run_ldJ HJ.out.s
   have hst := run_stJ (F' := T) HJ.out.z
   have HRes := hide (ISets.setRow (F' := T) HJ.out.z)
   have HFin : Hid (GivesSC w (w6.setRow (w.heap.size + 1 + 1) (JA T)) (.returned (JAv T)) k N1 N2) := by
    refine ⟨T, N, rfl, fun r hr => ?_, below_setRow HJ.out.bl (by omega)⟩
    obtain ⟨h1, h2, h3⟩ := HJ.out.t r hr
    exact ⟨src_off h1 (fun ad h => setRow_other _ _ _ _ (fun e => by have := h2 ad h; omega)), fun ad h => by have := h2 ad h; omega, h3⟩
   clear HJ
   go_wp2_with fail
   exact bodyPost_ret (v := JAv T) (resJ Tryz.results105 rfl HRes.out) rfl HFin.out
end Go.Proofs.YtmbkmpeongodbaaGreat
namespace Go.Proofs.YtmbkmpeongodbaaGreat
open Go.RowKit
attribute [local go_sem ↓] ldP_eq stP_eq ldJ_eq stJ_eq
attribute [local go_sem] zeros_JA cells_JAv zero_PC cells_PV fold_PC PC_size fold_PC1
theorem comb_minus {A B a b c : List Rn} (ha : NormOf A a) (hb : NormOf B b) (h : CombOf 2 a b c) : MinusOf A B c := ⟨h.1, fun n => by rw [h.2 n, ha.2 n, hb.2 n]; simp⟩
set_option maxRecDepth 100000 in
set_option maxHeartbeats 1000000 in
theorem refMinus_any (a b : Pv) (w : World) (hA : PSrc w a) (hB : PSrc w b) :
  Calls Tryz.prog 61 #[PV a, PV b] w fun e w' => GivesP w w' e (fun P => ∃ C : Nat → List Rn, (∀ r, r < 16 → MinusOf (runsAt a.P r) (runsAt b.P r) (C r)) ∧ CanonOf C P) := by
 have b1 := below_new w (.cells (PC a) 26)
 have b2 := below_new (w.alloc (.cells (PC a) 26)) (.cells (PC b) 26)
 have b3 := below_new ((w.alloc (.cells (PC a) 26)).alloc (.cells (PC b) 26)) (.cells (PC pv0) 26)
 have p2 := pbox_new (w.alloc (.cells (PC a) 26)) b
 have p3 := pbox_new ((w.alloc (.cells (PC a) 26)).alloc (.cells (PC b) 26)) pv0
 simp only [World.size_alloc] at p2 p3
 have HX1 := hide (((pbox_new w a).below b2).below b3)
 have HX2 := hide (p2.below b3)
 have HX3 := hide p3
 have HBK := hide (b1.trans ((b2.trans (b3.mono b2.size)).mono b1.size))
 have HAS := hide (hA.below HBK.out)
 have HBS := hide (hB.below HBK.out)
 clear hA hB b1 b2 b3 p2 p3
 obtain ⟨wk, hwk⟩ : ∃ wk, ((w.alloc (.cells (PC a) 26)).alloc (.cells (PC b) 26)).alloc (.cells (PC pv0) 26) = wk := ⟨_, rfl⟩
 have HWZ : Hid (wk.heap.size = w.heap.size + 1 + 1 + 1) := by show _ = _; rw [← hwk]; simp
 rw [hwk] at HX1 HX2 HX3 HBK HAS HBS
 have HCK : Hid (Below wk.heap.size wk wk) := Below.refl _ _
 have HSW : Hid (∀ W' : World, Below wk.heap.size wk W' → (ldP (.pointer (some ⟨w.heap.size, 0, none⟩))).run Tryz.prog W' = .ok (PV a) W' ∧ (ldP (.pointer (some ⟨w.heap.size + 1, 0, none⟩))).run Tryz.prog W' = .ok (PV b) W') := fun W' h => ⟨run_ldP (HX1.out.below h).at, run_ldP (HX2.out.below h).at⟩
 have HSR : Hid (∀ (W' : World) (p : Pv), Below wk.heap.size wk W' → (ldP (.pointer (some ⟨w.heap.size, 0, none⟩))).run Tryz.prog (W'.setRow (w.heap.size + 1 + 1) (PC p)) = .ok (PV a) (W'.setRow (w.heap.size + 1 + 1) (PC p)) ∧ (ldP (.pointer (some ⟨w.heap.size + 1, 0, none⟩))).run Tryz.prog (W'.setRow (w.heap.size + 1 + 1) (PC p)) = .ok (PV b) (W'.setRow (w.heap.size + 1 + 1) (PC p))) := fun W' p h => ⟨run_ldP (show PBox _ _ _ from (setRow_other _ _ _ _ (by omega)).trans (HX1.out.below h)).at, run_ldP (show PBox _ _ _ from (setRow_other _ _ _ _ (by omega)).trans (HX2.out.below h)).at⟩
 go_enter Tryz.func61, Tryz.ntmps61
 go_wp2_with fail
 clear hwk
 refine wp_region_held_drew (S := fun W => (ldP (.pointer (some ⟨w.heap.size, 0, none⟩))).run Tryz.prog W = .ok (PV a) W ∧ (ldP (.pointer (some ⟨w.heap.size + 1, 0, none⟩))).run Tryz.prog W = .ok (PV b) W) (by kernel_rfl) (HSW.out _ (below_drew1 _)) (fun hHeld => ?_)
 refine wTk 0 ⟨some 5, .load 26 (.tmp 2), 26, "ref.go:168", #[], none⟩ rfl ?_
 refine wTk 2 ⟨some 7, .load 26 (.tmp 3), 26, "ref.go:168", #[], none⟩ rfl ?_
 refine wpAnyH_ready (rs := [1]) (by kernel_rfl) (by simp) (.cons rfl (fun K hK => ?_) .nil)
 go_simp
 go_wp2_with fail
 refine (one_any a _ (by exact HAS.out.below (HCK.out.trans ((below_drew1 wk).mono HCK.out.size)))).mono ?_
 rintro e w2 ⟨Ta, Na, rfl, hT, hb⟩
 have HBw2 := hide ((below_drew1 wk).trans (hb.mono (below_drew1 wk).size))
 have HCw2 := hide (HCK.out.trans (HBw2.out.mono HCK.out.size))
 have HTa := hide hT
 clear hT hb
 refine hK.out _ _ (HSW.out _ HCw2.out) (fun hHeld => ?_)
 clear hK K
 refine wpAnyH_ready (rs := [3]) (by kernel_rfl) (by simp) (.cons rfl (fun K hK => ?_) .nil)
 go_simp
 go_wp2_with fail
 refine (one_any b _ (by exact HBS.out.below HCw2.out)).mono ?_
 rintro e w3 ⟨Tb, Nb, rfl, hT, hb⟩
 have HBw3 := hide hb
 have HCw3 := hide (HCw2.out.trans (HBw3.out.mono HCw2.out.size))
 have HTb := hide hT
 clear hT hb
 refine hK.out _ _ (HSW.out _ HCw3.out) (fun hHeld => ?_)
 clear hK K
 have HFa : Hid (∀ r, r < 16 → V.Src w3 (Ta r).ao (Ta r).n (Ta r).cap (tn (Na r)) ∧ NormOf (runsAt a.P r) (Na r)) := fun r hr => ⟨(HTa.out r hr).1.below HBw3.out, (HTa.out r hr).2.2⟩
 have HFb : Hid (∀ r, r < 16 → V.Src w3 (Tb r).ao (Tb r).n (Tb r).cap (tn (Nb r)) ∧ NormOf (runsAt b.P r) (Nb r)) := fun r hr => ⟨(HTb.out r hr).1, (HTb.out r hr).2.2⟩
 refine wpAnyH_ready (rs := [4]) (by kernel_rfl) (by simp) (.cons rfl (fun K hK => ?_) .nil)
 go_simp
 go_wp2_with fail
 refine (combined_any Ta Tb Na Nb 2 _ (fun r hr => ⟨(HFa.out r hr).1, (HFa.out r hr).2.1⟩) (fun r hr => ⟨(HFb.out r hr).1, (HFb.out r hr).2.1⟩) (Or.inr rfl)).mono ?_
 rintro e w5 ⟨T, N, rfl, hT, hb⟩
 have HBw5 := hide hb
 have HCw5 := hide (HCw3.out.trans (HBw5.out.mono HCw3.out.size))
 have HT := hide hT
 clear hT hb
 refine hK.out _ _ (HSW.out _ HCw5.out) (fun hHeld => ?_)
 clear hK K
 refine wpAnyH_ready (rs := [5]) (by kernel_rfl) (by simp) (.cons rfl (fun K hK => ?_) .nil)
 go_simp
 go_wp2_with fail
 refine (refForm_any T N _ (fun r hr => ⟨(HT.out r hr).1, (HT.out r hr).2.2.1⟩)).mono ?_
 rintro e w6 ⟨p, rfl, S6, n6, b6, c6⟩
 have HBw6 := hide b6
 have HCw6 := hide (HCw5.out.trans (HBw6.out.mono HCw5.out.size))
 have hsz := HCw5.out.size
 have hwz := HWZ.out
 obtain ⟨e1, e2, e3, e4, e5⟩ := past_end (w := w) (HX3.out.below HCw6.out) S6 (n6.mono (by show _ ≤ w5.heap.size; omega)) (HBK.out.trans (HCw6.out.mono HBK.out.size)) (by omega)
 have HRes := hide e2
 have HFin : Hid (GivesP w _ (.returned (PV p)) (fun P => ∃ C : Nat → List Rn, (∀ r, r < 16 → MinusOf (runsAt a.P r) (runsAt b.P r) (C r)) ∧ CanonOf C P)) := ⟨p, rfl, e3, e4, e5, N, fun r hr => comb_minus (HFa.out r hr).2 (HFb.out r hr).2 (HT.out r hr).2.2, N, fun r hr => ⟨(HT.out r hr).2.2.1, fun _ => Iff.rfl⟩, c6⟩
 have HSL := hide (HSW.out _ HCw6.out)
 clear S6 n6 b6 c6 e2 e3 e4 e5
 refine hK.out _ _ HSL.out (fun hHeld => ?_)
 clear hK K
 refine wpAnyH_ready (rs := [6]) (by kernel_rfl) (by simp) (.cons rfl (fun K hK => ?_) .nil)
 go_simp
 refine hK.out _ _ (HSR.out _ _ HCw6.out) (fun hHeld => ?_)
 clear hK K
 refine wpAnyH_done (by kernel_rfl) ?_ _
 clear hHeld hsz hwz
 go_wp2_with fail
 exact bodyPost_ret (v := PV p) (resP Tryz.results61 rfl HRes.out) rfl HFin.out
end Go.Proofs.YtmbkmpeongodbaaGreat
namespace Go.Proofs.YtmbkmpeongodbaaGreat
open Go.RowKit
attribute [local go_sem ↓] ldP_eq stP_eq ldJ_eq stJ_eq
attribute [local go_sem] zeros_JA cells_JAv zero_PC cells_PV fold_PC PC_size fold_PC1
set_option maxRecDepth 100000 in
theorem refWithin_any (a b : Pv) (w : World) (hA : PSrc w a) (hB : PSrc w b) : Calls Tryz.prog 24 #[PV a, PV b] w fun e w' => ∃ x, e = .returned (.bool x) ∧ (x = true ↔ ∀ r, r < 16 → ∀ n, mem (runsAt a.P r) n → mem (runsAt b.P r) n) ∧ Below w.heap.size w w' := by
 have b1 := below_new w (.cells (PC a) 26)
 have b2 := below_new (w.alloc (.cells (PC a) 26)) (.cells (PC b) 26)
 have p2 := pbox_new (w.alloc (.cells (PC a) 26)) b
 simp only [World.size_alloc] at p2
 have l1 := run_ldP ((pbox_new w a).below b2).at
 have l2 := run_ldP p2.at
 have HBK := hide (b1.trans (b2.mono b1.size))
 have HA := hide (hA.below HBK.out)
 have HB := hide (hB.below HBK.out)
 clear hA hB b1 b2 p2
 go_enter Tryz.func24, Tryz.ntmps24
 go_wp2_with fail
 refine (refMinus_any a b _ HA.out HB.out).mono ?_
 rintro e w3 ⟨p, rfl, S3, n3, b3, C, hC, c3⟩
 have HS3 := hide S3
 have HB3 := hide (HBK.out.trans (b3.mono HBK.out.size))
 have HC := hide (And.intro hC c3)
 clear S3 n3 b3 hC c3 l1 l2
 go_wp2_with fail
 refine (refEmpty_any p _ HS3.out).mono ?_
 rintro e w4 ⟨x, rfl, hx, b4⟩
 have HFin : Hid (∃ y, (Ending.returned (.bool x) : Ending) = .returned (.bool y) ∧ (y = true ↔ ∀ r, r < 16 → ∀ n, mem (runsAt a.P r) n → mem (runsAt b.P r) n) ∧ Below w.heap.size w w4) := by
  refine ⟨x, rfl, ?_, HB3.out.trans (b4.mono HB3.out.size)⟩
  rw [hx]
  have key : ∀ r, r < 16 → ∀ n, (mem (runsAt p.P r) n ↔ mem (runsAt a.P r) n ∧ ¬ mem (runsAt b.P r) n) := fun r hr n => (canon_mem HC.out.2 r hr n).trans ((HC.out.1 r hr).2 n)
  constructor
  ·intro h r hr n hm
   by_cases hb : mem (runsAt b.P r) n
   ·exact hb
   ·exact absurd ((key r hr n).2 ⟨hm, hb⟩) (h r hr n)
  ·intro h r hr n hm
   obtain ⟨h1, h2⟩ := (key r hr n).1 hm
   exact h2 (h r hr n h1)
 clear hx b4
 go_wp2_with fail
 go_ret
 exact HFin.out
end Go.Proofs.YtmbkmpeongodbaaGreat
namespace Go.Proofs.YtmbkmpeongodbaaGreat
open Go.RowKit
attribute [local go_sem ↓] ldP_eq stP_eq
attribute [local go_sem] cells_PV PC_size
variable {w w' w2 W W' : World} {g : Nat}

theorem rnat_fields {p : Addr} {r : Rn} (A : RnAt W p r) : W.cell? ⟨p.block, p.off, none⟩ = some (.int .i64 r.lo) ∧ W.cell? ⟨p.block, p.off + 1, none⟩ = some (.int .i64 r.hi) := by
 have hs := World.cell?_spot A.c0
 have c1 := A.c1
 have c0 := A.c0
 obtain ⟨b, o, k⟩ := p
 obtain rfl : k = none := hs
 rw [Addr.add_lit] at c1
 exact ⟨c0, c1⟩
def spOf (d : Rn) : Sn := ⟨d.lo, d.hi, d.hi⟩
theorem runs_dots (D : List Rn) (r : Nat) (hr : r < 16) (n : Int) : mem (runsAt ⟨[], D.map spOf⟩ r) n ↔ mem (dotsG D r) n := by
 rw [mem_runs _ r hr, dotsG_mem]
 constructor
 ·rintro ⟨h1, h2, h3 | ⟨c, hc, h4, h5, h6⟩⟩
  ·simp at h3; omega
  ·obtain ⟨d, hd, rfl⟩ := List.mem_map.1 hc
   unfold spOf at h4 h5 h6
   simp only at h4 h5 h6
   refine ⟨d, hd, ?_, h4, by omega⟩
   unfold okD V.isR
   simp only [Bool.and_eq_true, decide_eq_true_eq]
   omega
 ·rintro ⟨d, hd, h1, h2, rfl⟩
  unfold okD at h1
  simp only [Bool.and_eq_true, decide_eq_true_eq] at h1
  exact ⟨h1.2.1, h1.2.2, .inr ⟨spOf d, List.mem_map.2 ⟨d, hd, rfl⟩, h2, Int.le_refl _, Int.le_refl _⟩⟩
structure RO (w2 W : World) (g3 : Nat) (ao : Option Addr) (k cap : Nat) (acc : List Sn) : Prop where
 own : OwnS g3 (g3 + 1) w2 W ao cap acc
 box : W.heap[g3]? = some (.cells #[.slice none 0 0, .slice ao k cap] 26 (0, 0))
 len : acc.length = k
theorem RO.blk {w2 W : World} {g3 : Nat} {ao : Option Addr} {k cap : Nat} {acc : List Sn} (h : RO w2 W g3 ao k cap acc) : (Value.slice ao acc.length cap).ownBlock ≠ some g3 := fun e => by
 have := (h.own.own.lt g3 e).1
 omega
theorem box2 {b : Nat} {x y : Value} (h : W.heap[b]? = some (.cells #[x, y] 26 (0, 0))) : W.cell? ⟨b, 0, none⟩ = some x ∧ W.cell? ⟨b, 1, none⟩ = some y ∧ ∀ j, W.frozen? ⟨b, j, none⟩ = false :=
 ⟨by simp [World.cell?, h], by simp [World.cell?, h], fun j => by simp [World.frozen?, h]⟩
theorem RO.push {w2 W W2 : World} {g3 : Nat} {ao : Option Addr} {k cap : Nat} {acc : List Sn} {e : Sn} {g6 c6 : Nat} (h : RO w2 W g3 ao k cap acc) (O : OwnS g3 (g3 + 1) w2 W2 (some ⟨g6, 0, none⟩) c6 (acc ++ [e])) (hk : W2.heap[g3]? = W.heap[g3]?) : RO w2 (W2.setCell ⟨g3, 1, none⟩ (.slice (some ⟨g6, 0, none⟩) (k + 1) c6)) g3 (some ⟨g6, 0, none⟩) (k + 1) c6 (acc ++ [e]) := by
 have hb : W2.heap[g3]? = some (.cells #[.slice none 0 0, .slice ao k cap] 26 (0, 0)) := hk.trans h.box
 refine ⟨⟨⟨O.own.1, ?_⟩, ?_, by simpa [World.setCell] using O.hB, O.hB0⟩, ?_, by rw [List.length_append, h.len]; rfl⟩
 ·rcases O.own.2 with ⟨h0, _⟩ | ⟨q, cap2, cur, hv, hbg, hgg, r⟩
  ·cases h0
  ·refine Or.inr ⟨q, cap2, cur, hv, hbg, ?_, r⟩
   rw [← hgg]
   simp [World.setCell, Array.getElem?_modify, show ¬ g3 = q by omega]
 ·exact V.below_setCell O.below (Nat.le_refl _)
 ·simp [World.setCell, Array.getElem?_modify, hb]
set_option maxRecDepth 100000 in
set_option maxHeartbeats 3200000 in
theorem refOf_any (ao : Option Addr) (n c : Nat) (D : List Rn) (w : World) (hS : RSrc w ao n c D) (hnb : n ≤ 5864062014804) :
  Calls Tryz.prog 62 #[.slice ao n c] w fun e w' => GivesP w w' e (CanonOf (dotsG D)) := by
 have b1 := below_new w (.cells #[.slice none 0 0, .slice none 0 0] 26)
 have x1 : PBox (w.alloc (.cells #[.slice none 0 0, .slice none 0 0] 26)) w.heap.size pv0 := pbox_new w pv0
 have s1 := World.size_alloc w (.cells #[.slice none 0 0, .slice none 0 0] 26)
 obtain ⟨w1, hw1⟩ : ∃ w1, w.alloc (.cells #[.slice none 0 0, .slice none 0 0] 26) = w1 := ⟨_, rfl⟩
 rw [hw1] at b1 x1 s1
 have b2 := below_new w1 (.cells #[.slice none 0 0, .slice none 0 0] 26)
 have x2 := heap_alloc_new w1 (.cells #[.slice none 0 0, .slice none 0 0] 26)
 have s2 := World.size_alloc w1 (.cells #[.slice none 0 0, .slice none 0 0] 26)
 obtain ⟨w2, hw2⟩ : ∃ w2, w1.alloc (.cells #[.slice none 0 0, .slice none 0 0] 26) = w2 := ⟨_, rfl⟩
 obtain ⟨g3, hg3⟩ : ∃ g3, w1.heap.size = g3 := ⟨_, rfl⟩
 rw [hw2] at b2 x2 s2
 rw [hg3] at x2 s2
 have HX : Hid (PBox w1 w.heap.size pv0 ∧ Below w.heap.size w w1 ∧ RSrc w1 ao n c D ∧ w1.heap.size = g3 ∧ w.heap.size < g3) := ⟨x1, b1, hS.below b1, hg3, by omega⟩
 have HR0 : Hid (RO w1 w2 g3 none 0 0 []) := ⟨⟨World.ownsRow_nil _ _ _ _, hg3 ▸ b2, by omega, by omega⟩, x2, rfl⟩
 have HD : Hid (D.length = n) := hS.len
 clear b1 b2 x1 x2 hS s1 s2
 go_enter Tryz.func62, Tryz.ntmps62
 go_wp2_with fail
 clear hw1 hw2 hg3
 go_loopw [4] (fun i wr => ∃ (k : Nat) (ap : Option Addr) (cp : Nat), k ≤ n ∧ i = .int .i64 (k : Int) ∧ Hid (RO w1 wr g3 ap k cp ((D.take k).map spOf))) (fun i _ => n - (intOf i).toNat)
 case atStart => exact ⟨0, none, 0, Nat.zero_le _, rfl, HR0⟩
 case round =>
  obtain ⟨k, ap, cp, hk, rfl, HI⟩ := hrel
  rename World => wr
  clear HR0
  by_cases hlt : k < n
  ·have hlti : (k : Int) < (n : Int) := by omega
   obtain ⟨ad, hao, A0⟩ : ∃ ad, ao = some ad ∧ RnAt w1 (ad.add (k * 2)) (D.getD k rn0) := by
    cases ao with
    | none => have := (HX.out.2.2.1.nil rfl).1; omega
    | some ad => exact ⟨ad, rfl, HX.out.2.2.1.cell ad rfl k hlt⟩
   subst hao
   obtain ⟨d, hd⟩ : ∃ d, D.getD k rn0 = d := ⟨_, rfl⟩
   rw [hd] at A0
   have hlb : (ad.add (k * 2)).block < w1.heap.size := World.block_lt_of_cell? _ _ A0.c0
   obtain ⟨q0, q1⟩ := rnat_fields A0
   have HT : Hid ((D.take (k + 1)).map spOf = (D.take k).map spOf ++ [spOf d]) := by
    show _ = _
    rw [List.take_add_one, ← hd, List.getD_eq_getElem?_getD, List.getElem?_eq_getElem (by have := HD.out; omega), List.map_append]
    rfl
   obtain ⟨acc, hacc⟩ : ∃ acc, (D.take k).map spOf = acc := ⟨_, rfl⟩
   rw [hacc] at HI HT
   obtain ⟨lo, hi⟩ := d
   dsimp only at q0 q1
   have HSW : Hid (∀ W : World, (∀ j, j < w1.heap.size → W.heap[j]? = w1.heap[j]?) → W.cell? (ad.add (k * 2)) = some (.int .i64 lo) ∧ W.cell? ⟨(ad.add (k * 2)).block, (ad.add (k * 2)).off, none⟩ = some (.int .i64 lo) ∧ W.cell? ⟨(ad.add (k * 2)).block, (ad.add (k * 2)).off + 1, none⟩ = some (.int .i64 hi)) := fun W e =>
    ⟨(World.cell?_of_block (e _ hlb)).trans A0.c0, (by rw [← q0]; simp only [World.cell?, e _ hlb]), (by rw [← q1]; simp only [World.cell?, e _ hlb])⟩
   have Hw1 : Hid (w1.heap.size = g3) := HX.out.2.2.2.1
   have HSr : Hid (∀ j, j < w1.heap.size → wr.heap[j]? = w1.heap[j]?) := fun j hj => HI.out.own.below.block j (by have := Hw1.out; omega)
   have Hrg : Hid (g3 < wr.heap.size) := by show _ < _; have := HI.out.own.hB; omega
   have y1 : wr.drew.cell? ⟨g3, 1, none⟩ = some (.slice ap k cp) := (box2 HI.out.box).2.1
   have y2 : (wr.drew.alloc (.cells #[.int .i64 lo, .int .i64 hi, .int .i64 hi] 89)).cell? ⟨g3, 1, none⟩ = some (.slice ap k cp) := ((below_new wr.drew _).cell (p := ⟨g3, 1, none⟩) Hrg.out).trans y1
   have y3 : (wr.alloc (.cells #[.int .i64 lo, .int .i64 hi, .int .i64 hi] 89)).cell? ⟨g3, 1, none⟩ = some (.slice ap k cp) := y2
   have HLN : Hid (acc.length < 5864062014805) := by show _ < _; rw [HI.out.len]; omega
   have Hlt := hide hlt
   have HK1 : Hid (∀ j, j < w1.heap.size → (wr.drew.alloc (.cells #[.int .i64 lo, .int .i64 hi, .int .i64 hi] 89)).heap[j]? = w1.heap[j]?) := fun j hj => (Below.heap_alloc wr.drew _ j (show j < wr.heap.size by have := Hw1.out; have := Hrg.out; omega)).trans (HSr.out j hj)
   clear A0 q0 q1 hlb hd hacc hlt hk
   go_upto_region 5 with fail
   refine wp_region_held_drew (S := fun W => W.cell? (ad.add (k * 2)) = some (.int .i64 lo) ∧ W.cell? ⟨(ad.add (k * 2)).block, (ad.add (k * 2)).off, none⟩ = some (.int .i64 lo) ∧ W.cell? ⟨(ad.add (k * 2)).block, (ad.add (k * 2)).off + 1, none⟩ = some (.int .i64 hi)) (by kernel_rfl) (HSW.out _ HSr.out) (fun hHeld => ?_)
   refine wTk 0 ⟨some 11, .fieldAddr 26 (.tmp 3) 1, 0, "ref.go:178", #[], none⟩ rfl ?_
   refine wTk 2 ⟨some 13, .move (.tmp 0), 59, "ref.go:178", #[], none⟩ rfl ?_
   refine wTk 3 ⟨some 14, .move (.tmp 4), 3, "ref.go:178", #[], none⟩ rfl ?_
   refine wTk 4 ⟨some 15, .indexAddr 59 (.tmp 13) (.tmp 14), 0, "ref.go:178", #[⟨2, .data⟩, ⟨3, .data⟩], none⟩ rfl ?_
   refine wTk 5 ⟨some 16, .fieldAddr 44 (.tmp 15) 0, 0, "ref.go:178", #[⟨4, .data⟩], none⟩ rfl ?_
   refine wTk 6 ⟨some 17, .load 3 (.tmp 16), 3, "ref.go:178", #[⟨5, .data⟩], none⟩ rfl ?_
   refine wTk 7 ⟨some 18, .move (.tmp 0), 59, "ref.go:178", #[], none⟩ rfl ?_
   refine wTk 8 ⟨some 19, .move (.tmp 4), 3, "ref.go:178", #[], none⟩ rfl ?_
   refine wTk 9 ⟨some 20, .indexAddr 59 (.tmp 18) (.tmp 19), 0, "ref.go:178", #[⟨7, .data⟩, ⟨8, .data⟩], none⟩ rfl ?_
   refine wTk 10 ⟨some 21, .fieldAddr 44 (.tmp 20) 1, 0, "ref.go:178", #[⟨9, .data⟩], none⟩ rfl ?_
   refine wTk 11 ⟨some 22, .load 3 (.tmp 21), 3, "ref.go:178", #[⟨10, .data⟩], none⟩ rfl ?_
   refine wTk 12 ⟨some 23, .move (.tmp 0), 59, "ref.go:178", #[], none⟩ rfl ?_
   refine wTk 13 ⟨some 24, .move (.tmp 4), 3, "ref.go:178", #[], none⟩ rfl ?_
   refine wTk 14 ⟨some 25, .indexAddr 59 (.tmp 23) (.tmp 24), 0, "ref.go:178", #[⟨12, .data⟩, ⟨13, .data⟩], none⟩ rfl ?_
   refine wTk 15 ⟨some 26, .fieldAddr 44 (.tmp 25) 1, 0, "ref.go:178", #[⟨14, .data⟩], none⟩ rfl ?_
   refine wTk 16 ⟨some 27, .load 3 (.tmp 26), 3, "ref.go:178", #[⟨15, .data⟩], none⟩ rfl ?_
   refine wTk 17 ⟨some 28, .build 89 #[(0, .tmp 17), (1, .tmp 22), (2, .tmp 27)], 89, "ref.go:178", #[⟨6, .data⟩, ⟨11, .data⟩, ⟨16, .data⟩], none⟩ rfl ?_
   refine wpAnyH_ready (rs := [1, 18]) (by kernel_rfl) (by simp) ?_
   refine AllReadyH.cons rfl (fun K hK => ?_) ?_
   ·go_simp
    refine hK.out _ _ (HSW.out _ HSr.out) (fun hHeld => ?_)
    clear hK K
    refine wpAnyH_ready (rs := [18]) (by kernel_rfl) (by simp) (.cons rfl (fun K hK => ?_) .nil)
    go_simp
    refine hK.out _ _ (HSW.out _ HK1.out) (fun hHeld => ?_)
    clear hK K
    refine wpAnyH_ready (rs := [19]) (by kernel_rfl) (by simp) (.cons rfl (fun K hK => ?_) .nil)
    refine HI.out.own.step (spOf ⟨lo, hi⟩) _ (by rfl) HLN.out (by rfl) (.tmp 12) (.tmp 29) (by rfl) k HI.out.len (by rfl) _ (by rfl) (by rfl) ?_
    intro g6 c6 w9 O6 h6
    have e9 : w9.heap[g3]? = wr.heap[g3]? := h6 g3 Hrg.out HI.out.blk
    have f9 := (box2 (e9.trans HI.out.box)).2.2 1
    have d9 := (box2 (e9.trans HI.out.box)).2.1
    have HP := hide (HI.out.push O6 e9)
    have HK2 : Hid (∀ j, j < w1.heap.size → w9.heap[j]? = w1.heap[j]?) := fun j hj => O6.below.block j (by have := Hw1.out; omega)
    have HK3 : Hid (∀ j, j < w1.heap.size → (w9.setCell ⟨g3, 1, none⟩ (.slice (some ⟨g6, 0, none⟩) (k + 1) c6)).heap[j]? = w1.heap[j]?) := fun j hj => HP.out.own.below.block j (by have := Hw1.out; omega)
    refine hK.out _ _ (HSW.out _ HK2.out) (fun hHeld => ?_)
    clear hK K
    refine wTk 20 ⟨some 31, .fieldAddr 26 (.tmp 3) 1, 0, "ref.go:178", #[⟨0, .phase⟩, ⟨1, .phase⟩, ⟨2, .phase⟩, ⟨3, .phase⟩, ⟨4, .phase⟩, ⟨5, .phase⟩, ⟨6, .phase⟩, ⟨7, .phase⟩, ⟨8, .phase⟩, ⟨9, .phase⟩, ⟨10, .phase⟩, ⟨11, .phase⟩, ⟨12, .phase⟩, ⟨13, .phase⟩, ⟨14, .phase⟩, ⟨15, .phase⟩, ⟨16, .phase⟩, ⟨17, .phase⟩, ⟨18, .phase⟩, ⟨19, .phase⟩], none⟩ rfl ?_
    refine wpAnyH_ready (rs := [21]) (by kernel_rfl) (by simp) (.cons rfl (fun K hK => ?_) .nil)
    go_simp
    refine hK.out _ _ (HSW.out _ HK3.out) (fun hHeld => ?_)
    clear hK K
    refine wpAnyH_done (by kernel_rfl) ?_ _
    clear hHeld
    clear O6 h6 e9 f9 d9
    go_wp2_with fail
    go_roundw
    case rel => exact ⟨k + 1, some ⟨g6, 0, none⟩, c6, Hlt.out, by simp, by rw [HT.out]; exact HP⟩
    case measure => simp [intOf]; have := Hlt.out; omega
   ·refine AllReadyH.cons rfl (fun K hK => ?_) ?_
    rotate_left
    ·exact AllReadyH.nil
    go_simp
    refine hK.out _ _ (HSW.out _ HK1.out) (fun hHeld => ?_)
    clear hK K
    refine wpAnyH_ready (rs := [1]) (by kernel_rfl) (by simp) (.cons rfl (fun K hK => ?_) .nil)
    go_simp
    refine hK.out _ _ (HSW.out _ HK1.out) (fun hHeld => ?_)
    clear hK K
    refine wpAnyH_ready (rs := [19]) (by kernel_rfl) (by simp) (.cons rfl (fun K hK => ?_) .nil)
    refine HI.out.own.step (spOf ⟨lo, hi⟩) _ (by rfl) HLN.out (by rfl) (.tmp 12) (.tmp 29) (by rfl) k HI.out.len (by rfl) _ (by rfl) (by rfl) ?_
    intro g6 c6 w9 O6 h6
    have e9 : w9.heap[g3]? = wr.heap[g3]? := h6 g3 Hrg.out HI.out.blk
    have f9 := (box2 (e9.trans HI.out.box)).2.2 1
    have d9 := (box2 (e9.trans HI.out.box)).2.1
    have HP := hide (HI.out.push O6 e9)
    have HK2 : Hid (∀ j, j < w1.heap.size → w9.heap[j]? = w1.heap[j]?) := fun j hj => O6.below.block j (by have := Hw1.out; omega)
    have HK3 : Hid (∀ j, j < w1.heap.size → (w9.setCell ⟨g3, 1, none⟩ (.slice (some ⟨g6, 0, none⟩) (k + 1) c6)).heap[j]? = w1.heap[j]?) := fun j hj => HP.out.own.below.block j (by have := Hw1.out; omega)
    refine hK.out _ _ (HSW.out _ HK2.out) (fun hHeld => ?_)
    clear hK K
    refine wTk 20 ⟨some 31, .fieldAddr 26 (.tmp 3) 1, 0, "ref.go:178", #[⟨0, .phase⟩, ⟨1, .phase⟩, ⟨2, .phase⟩, ⟨3, .phase⟩, ⟨4, .phase⟩, ⟨5, .phase⟩, ⟨6, .phase⟩, ⟨7, .phase⟩, ⟨8, .phase⟩, ⟨9, .phase⟩, ⟨10, .phase⟩, ⟨11, .phase⟩, ⟨12, .phase⟩, ⟨13, .phase⟩, ⟨14, .phase⟩, ⟨15, .phase⟩, ⟨16, .phase⟩, ⟨17, .phase⟩, ⟨18, .phase⟩, ⟨19, .phase⟩], none⟩ rfl ?_
    refine wpAnyH_ready (rs := [21]) (by kernel_rfl) (by simp) (.cons rfl (fun K hK => ?_) .nil)
    go_simp
    refine hK.out _ _ (HSW.out _ HK3.out) (fun hHeld => ?_)
    clear hK K
    refine wpAnyH_done (by kernel_rfl) ?_ _
    clear hHeld
    clear O6 h6 e9 f9 d9
    go_wp2_with fail
    go_roundw
    case rel => exact ⟨k + 1, some ⟨g6, 0, none⟩, c6, Hlt.out, by simp, by rw [HT.out]; exact HP⟩
    case measure => simp [intOf]; have := Hlt.out; omega
  ·have hlti : ¬ (k : Int) < (n : Int) := by omega
   obtain rfl : k = n := by omega
   obtain ⟨pq, hpq⟩ : ∃ pq : Pv, (⟨none, 0, 0, ap, k, cp, ⟨[], D.map spOf⟩⟩ : Pv) = pq := ⟨_, rfl⟩
   have hacc : (D.take k).map spOf = D.map spOf := by rw [List.take_of_length_le (by have := HD.out; omega)]
   rw [hacc] at HI
   have hl := HI.out.len
   have HPS : Hid (PSrc wr pq) := by
    rw [← hpq]
    have h1 := (HI.out.own.src (by rw [hl]; omega)).1
    rw [hl] at h1
    exact ⟨⟨rfl, fun _ => ⟨rfl, rfl⟩, fun ad h => by cases h⟩, h1, by simp⟩
   have l9 : (ldP (.pointer (some ⟨g3, 0, none⟩))).run Tryz.prog wr = .ok (PV pq) wr := by
    rw [← hpq]
    exact run_ldP (PBox.at (p := ⟨none, 0, 0, ap, k, cp, ⟨[], D.map spOf⟩⟩) HI.out.box)
   have HP : Hid (pq.P = ⟨[], D.map spOf⟩) := by show _ = _; rw [← hpq]
   have hb3 := HI.out.own.below
   have hX := HX.out
   have HB : Hid (PBox wr w.heap.size pv0 ∧ Below w.heap.size w wr ∧ w.heap.size + 1 ≤ wr.heap.size) := ⟨(hb3.block _ hX.2.2.2.2).trans hX.1, hX.2.1.trans (hb3.mono (by omega)), by have := HI.out.own.hB; omega⟩
   clear hpq hacc hl hb3 hX hlt
   go_wp2_with fail
   refine (refNorm_any pq _ HPS.out).mono ?_
   rintro e w8 ⟨p, rfl, S2, n2, b2, c2'⟩
   obtain ⟨s1, e1, e2, e3, e4⟩ := past_end (w := w) (HB.out.1.below b2) S2 (n2.mono (by have := HB.out.2.2; omega)) (HB.out.2.1.trans (b2.mono HB.out.2.1.size)) (Nat.le_refl _)
   have HE1 := hide e1
   have HE2 : Hid (GivesP w (w8.setRow w.heap.size (PC p)) (.returned (PV p)) (CanonOf (dotsG D))) := ⟨p, rfl, e2, e3, e4, canonOf_mem (HP.out ▸ c2') (fun r hr n => runs_dots D r hr n)⟩
   clear S2 n2 b2 c2' e1 e2 e3 e4 l9
   go_wp2_with fail
   exact bodyPost_ret (v := PV p) (resP Tryz.results62 rfl HE1.out) rfl HE2.out
end Go.Proofs.YtmbkmpeongodbaaGreat

