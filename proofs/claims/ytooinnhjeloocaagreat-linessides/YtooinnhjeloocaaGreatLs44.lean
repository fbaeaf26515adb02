/- OLs LView PVw -/
import Derived.Test.YtooinnhjeloocaaGreatLs40
import Derived.Test.YtooinnhjeloocaaGreatLs42
import Derived.Test.YtooinnhjeloocaaGreatLs43
import Derived.Test.YtooinnhjeloocaaGreatLs15
import Derived.Test.YtooinnhjeloocaaGreatLs29
import Derived.ProofKit
import Derived.OpenShut
import Derived.Lib.SmallJoins
import Derived.HandedShaped
import Derived.SizedLaws
import Derived.ChangeMaps5
import Derived.Test.YtooinnhjeloocaaGreatLs02
import Derived.JoinedCond
namespace Go.Proofs.YtooinnhjeloocaaGreat
open Go.RowKit
attribute [local go_sem ↓] ldP_eq stP_eq
attribute [local go_sem] cells_PV PC_size cells_CaV CaC_size
variable {w w' w2 W W' : World} {g : Nat}
/-- the dots of the fixed lines -/
theorem some_dot {P : Pst} (h : CanonOf (dotsG (K.someL.map dotOf)) P) : dotIn P ⟨1, 4⟩ ∧ ¬ dotIn P ⟨1, 3⟩ := by
  refine ⟨⟨by decide, (canon_mem h 1 (by omega) 4).2 ((dotsG_mem _ _ _).2 ⟨⟨1, 4⟩, by simp [K.someL, dotOf], by decide, rfl, rfl⟩)⟩, fun hx => ?_⟩
  obtain ⟨d, hd, -, h1, h2⟩ := (dotsG_mem _ _ _).1 ((canon_mem h 1 (by omega) 3).1 hx.2)
  simp only [K.someL, dotOf, List.map_cons, List.map_nil, List.mem_cons, List.not_mem_nil, or_false] at hd
  rcases hd with rfl | rfl | rfl
  · simp at h1
  · simp at h2
  · simp at h2
/-- what Dots hands back, as a relation of the past and the error -/
def DtR (L : List K.En) (P : Pst) (er : Int) : Prop := (K.chk L = 0 ∧ er = 0 ∧ CanonOf (dotsG (L.map dotOf)) P) ∨ (¬ K.chk L = 0 ∧ er = 1 ∧ P = pv0.P)
theorem DtR.same {L : List K.En} {P Q : Pst} {e f : Int} (h : DtR L P e) (k : DtR L Q f) : e = f ∧ P = Q := by
  rcases h with ⟨a, rfl, h⟩ | ⟨a, rfl, rfl⟩
  · rcases k with ⟨-, rfl, k⟩ | ⟨b, -⟩
    · exact ⟨rfl, h.unique k fun _ _ _ => Iff.rfl⟩
    · exact absurd a b
  · rcases k with ⟨b, -⟩ | ⟨-, rfl, rfl⟩
    · exact absurd b a
    · exact ⟨rfl, rfl⟩
theorem DtA.gives {L : List K.En} {x : Ending} (h : DtA w w' x L) : ∃ (p : Pv) (er : Int), x = .returned (.tuple #[PV p, .int .i64 er]) ∧ PSrc w' p ∧ PNew w.heap.size p ∧ DtR L p.P er ∧ Below w.heap.size w w' := by
  obtain ⟨b, ⟨hc, p, rfl, S, N, C⟩ | ⟨hc, rfl⟩⟩ := h
  · exact ⟨p, 0, rfl, S, N, .inl ⟨hc, rfl, C⟩, b⟩
  · exact ⟨pv0, 1, rfl, PSrc.zero _, ⟨fun ad h => (by cases h), fun ad h => (by cases h)⟩, .inr ⟨hc, rfl, rfl⟩, b⟩
/-- what Inside and Outside hand back -/
def PtR (L : List K.En) (P : Pst) (ins : Bool) (X : List K.En) (er : Int) : Prop := (K.chk L = 0 ∧ InForm P ∧ X = L.filter (pkB P ins) ∧ er = 0) ∨ (¬ (K.chk L = 0 ∧ InForm P) ∧ X = [] ∧ er = 1)
theorem PtR.same {L X Y : List K.En} {P : Pst} {ins : Bool} {e f : Int} (h : PtR L P ins X e) (k : PtR L P ins Y f) : e = f ∧ X = Y := by
  rcases h with ⟨a, b, rfl, rfl⟩ | ⟨a, rfl, rfl⟩
  · rcases k with ⟨-, -, rfl, rfl⟩ | ⟨c, -⟩
    · exact ⟨rfl, rfl⟩
    · exact absurd ⟨a, b⟩ c
  · rcases k with ⟨b, c, -⟩ | ⟨-, rfl, rfl⟩
    · exact absurd ⟨b, c⟩ a
    · exact ⟨rfl, rfl⟩
theorem PtA.gives {L : List K.En} {P : Pst} {ins : Bool} {x : Ending} (h : PtA w w' x L P ins) : ∃ X er ao n c, x = .returned (.tuple #[.slice ao n c, .int .i64 er]) ∧ K.ESrc w' ao n c X ∧ Below w.heap.size w w' ∧ (∀ ad, ao = some ad → w.heap.size ≤ ad.block) ∧ PtR L P ins X er := by
  rcases h with ⟨a, b, ao, n, c, rfl, S, hb, hn⟩ | ⟨a, ao, n, c, rfl, S, hb, hn⟩
  · exact ⟨_, _, ao, n, c, rfl, S, hb, hn, .inl ⟨a, b, rfl, rfl⟩⟩
  · exact ⟨_, _, ao, n, c, rfl, S, hb, hn, .inr ⟨a, rfl, rfl⟩⟩
/-- a past apart from a variable -/
theorem psrc_row {p : Pv} {n : Nat} (h : PSrc W p) (hn : PNew n p) (hg : g < n) (cs : Array Value) : PSrc (W.setRow g cs) p := by
  have hk : ∀ q, q ≠ g → (W.setRow g cs).heap[q]? = W.heap[q]? := fun q hq => setRow_other _ _ _ _ hq
  have ev : ∀ ad, p.vo = some ad → ∀ m, (W.setRow g cs).cell? (ad.add m) = W.cell? (ad.add m) := fun ad e m => by unfold World.cell?; rw [block_add, hk _ (by have := hn.1 ad e; omega)]
  have ec : ∀ ad, p.co = some ad → ∀ m, (W.setRow g cs).cell? (ad.add m) = W.cell? (ad.add m) := fun ad e m => by unfold World.cell?; rw [block_add, hk _ (by have := hn.2 ad e; omega)]
  refine ⟨⟨h.vec.1, h.vec.2.1, fun ad e t ht => by rw [ev ad e]; exact h.vec.2.2 ad e t ht⟩, ⟨h.cloud.len, h.cloud.nil, fun ad e t ht => ?_, h.cloud.big, h.cloud.cap⟩, h.big⟩
  have A := h.cloud.cell ad e t ht
  have e' := ec ad e
  exact ⟨by rw [e']; exact A.c0, by have := A.c1; rw [add_add] at this ⊢; rw [e']; exact this, by have := A.c2; rw [add_add] at this ⊢; rw [e']; exact this⟩
theorem esrc_row {ao : Option Addr} {m c n : Nat} {L : List K.En} (h : K.ESrc W ao m c L) (hn : ∀ ad, ao = some ad → n ≤ ad.block) (hg : g < n) (cs : Array Value) : K.ESrc (W.setRow g cs) ao m c L :=
  h.kept fun ad e => setRow_other _ _ _ _ (by have := hn ad e; omega)

set_option maxRecDepth 100000 in
set_option maxHeartbeats 6400000 in
theorem linesSides_any (m : Ca) (A B : List K.En) (w : World) (hS : CaS w m A B) :
    Calls Tryz.prog 4 #[CaV m] w fun e w' => e = .returned (.bool true) ∧ Below w.heap.size w w' := by
  have b1 := below_new w (.cells (CaC m) 30)
  have x1 := CaBox_new w m
  obtain ⟨w1, hw1⟩ : ∃ w1, w.alloc (.cells (CaC m) 30) = w1 := ⟨_, rfl⟩
  obtain ⟨g1, hg1⟩ : ∃ g1, w.heap.size = g1 := ⟨_, rfl⟩
  rw [hw1] at b1 x1
  have Hg1 := hide hg1
  rw [hg1] at x1
  have HX : Hid (CaBox w1 g1 m ∧ Below w.heap.size w w1) := ⟨x1, b1⟩
  have HS := hide hS
  clear b1 x1 hS
  go_enter Tryz.func4, Tryz.ntmps4
  go_wp2_with fail
  clear hw1 hg1
  refine (K.some_any _).mono ?_
  rintro x w2 ⟨so, sn, sc, rfl, S2, b2, -⟩
  have HX2 : Hid (CaBox w2 g1 m ∧ Below w.heap.size w w2) := ⟨HX.out.1.below b2, HX.out.2.trans (b2.mono HX.out.2.size)⟩
  clear HX b2
  have HS2 := hide S2
  clear S2
  go_wp2_with fail
  refine (dots_any so sn sc K.someL _ HS2.out).mono ?_
  rintro x w3 hx
  obtain ⟨b3, p, rfl, Sp, Np, hp⟩ : Below w2.heap.size w2 w3 ∧ ∃ p : Pv, x = .returned (.tuple #[PV p, .int .i64 0]) ∧ PSrc w3 p ∧ PNew w2.heap.size p ∧ CanonOf (dotsG (K.someL.map dotOf)) p.P := by
    obtain ⟨b, ⟨-, h⟩ | ⟨h, -⟩⟩ := hx
    · exact ⟨b, h⟩
    · exact absurd some_chk6 h
  obtain ⟨g3, hg3⟩ : ∃ g3, w3.heap.size = g3 := ⟨_, rfl⟩
  obtain ⟨w4, hst4, X4, b4, s4⟩ := madeP w3 p g3 hg3
  replace hst4 : (stP (.pointer (some ⟨g3, 0, none⟩)) (PV p)).run Tryz.prog (w3.alloc (.cells #[.slice none 0 0, .slice none 0 0] 26)) = .ok () w4 := hst4
  have b24 := b3.trans (b4.mono b3.size)
  have HX4 : Hid (CaBox w4 g1 m ∧ Below w.heap.size w w4) := ⟨HX2.out.1.below b24, HX2.out.2.trans (b24.mono HX2.out.2.size)⟩
  have HP4 : Hid (PBox w4 g3 p ∧ PSrc w4 p) := ⟨X4, Sp.below b4⟩
  have HG : Hid (w.heap.size ≤ g3 ∧ g3 ≠ g1 ∧ g3 < w4.heap.size) := ⟨by have := HX2.out.2.size; have := b3.size; omega, by have := HX2.out.1.lt; have := b3.size; omega, by omega⟩
  have HD := hide (some_dot hp)
  have l4 := run_ldP X4.at
  clear hx hp Sp Np b3 b4 b24 X4 s4 HX2
  go_wp2_with fail
  clear hst4 hg3 l4
  refine (refHas_any p ⟨1, 4⟩ _ HP4.out.2).mono ?_
  rintro x w5 ⟨b, rfl, hb, b5⟩
  obtain rfl : b = true := hb.2 HD.out.1
  have HX5 : Hid (CaBox w5 g1 m ∧ Below w.heap.size w w5) := ⟨HX4.out.1.below b5, HX4.out.2.trans (b5.mono HX4.out.2.size)⟩
  have HP5 : Hid (PBox w5 g3 p ∧ PSrc w5 p) := ⟨HP4.out.1.below b5, HP4.out.2.below b5⟩
  have HG5 : Hid (w.heap.size ≤ g3 ∧ g3 ≠ g1 ∧ g3 < w5.heap.size) := ⟨HG.out.1, HG.out.2.1, Nat.lt_of_lt_of_le HG.out.2.2 b5.size⟩
  have l5 := run_ldP HP5.out.1.at
  clear hb b5 HX4 HP4 HG
  go_wp2_with fail
  clear l5
  refine (refHas_any p ⟨1, 3⟩ _ HP5.out.2).mono ?_
  rintro x w6 ⟨b, rfl, hb, b6⟩
  obtain rfl : b = false := by
    cases b with
    | false => rfl
    | true => exact absurd (hb.1 rfl) HD.out.2
  have HX6 : Hid (CaBox w6 g1 m ∧ Below w.heap.size w w6) := ⟨HX5.out.1.below b6, HX5.out.2.trans (b6.mono HX5.out.2.size)⟩
  have HP6 : Hid (PBox w6 g3 p) := HP5.out.1.below b6
  have HG6 : Hid (w.heap.size ≤ g3 ∧ g3 ≠ g1 ∧ g3 < w6.heap.size) := ⟨HG5.out.1, HG5.out.2.1, Nat.lt_of_lt_of_le HG5.out.2.2 b6.size⟩
  have d6 := HX6.out.1.c0
  clear hb b6 HX5 HP5 HG5 HD
  go_wp2_with fail
  clear d6
  refine (refDots_any m.ao m.n m.cap A _ (HS.out.below HX6.out.2).a).mono ?_
  rintro x w7 hx
  obtain ⟨q, f, rfl, Sq, Nq, Rq, b7⟩ := hx.gives
  obtain ⟨g5, hg5⟩ : ∃ g5, w7.heap.size = g5 := ⟨_, rfl⟩
  obtain ⟨w8, hst8, X8, b8, s8⟩ := madeP w7 q g5 hg5
  replace hst8 : (stP (.pointer (some ⟨g5, 0, none⟩)) (PV q)).run Tryz.prog (w7.alloc (.cells #[.slice none 0 0, .slice none 0 0] 26)) = .ok () w8 := hst8
  have b68 := b7.trans (b8.mono b7.size)
  have HX8 : Hid (CaBox w8 g1 m ∧ Below w.heap.size w w8) := ⟨HX6.out.1.below b68, HX6.out.2.trans (b68.mono HX6.out.2.size)⟩
  have HP8 : Hid (PBox w8 g3 p ∧ PBox w8 g5 q ∧ PSrc w8 q) := ⟨HP6.out.below b68, X8, Sq.below b8⟩
  have HG8 : Hid (w.heap.size ≤ g3 ∧ g3 ≠ g1 ∧ g5 ≠ g3 ∧ g3 < w8.heap.size) := ⟨HG6.out.1, HG6.out.2.1, by have := HG6.out.2.2; have := b7.size; omega, Nat.lt_of_lt_of_le HG6.out.2.2 b68.size⟩
  have HN : Hid (PNew (g3 + 1) q) := Nq.mono HG6.out.2.2
  have HRq := hide Rq
  have d8 := HX8.out.1.c0
  have l8 := run_ldP HX8.out.1.past
  clear hx Sq Nq Rq b7 b8 b68 s8 X8 HX6 HP6 HG6
  go_wp2_with fail
  clear hst8 hg5 d8 l8
  refine (refInside_any m.ao m.n m.cap A m.p _ (HS.out.below HX8.out.2).a (HS.out.below HX8.out.2).p).mono ?_
  rintro x w9 hx
  obtain ⟨XI, ei, io, im, ic, rfl, SI, b9, NI, RI⟩ := hx.gives
  have HX9 : Hid (CaBox w9 g1 m ∧ Below w.heap.size w w9) := ⟨HX8.out.1.below b9, HX8.out.2.trans (b9.mono HX8.out.2.size)⟩
  have HP9 : Hid (PBox w9 g3 p ∧ PBox w9 g5 q ∧ PSrc w9 q) := ⟨HP8.out.1.below b9, HP8.out.2.1.below b9, HP8.out.2.2.below b9⟩
  have HG9 : Hid (w.heap.size ≤ g3 ∧ g3 ≠ g1 ∧ g5 ≠ g3 ∧ g3 < w9.heap.size) := ⟨HG8.out.1, HG8.out.2.1, HG8.out.2.2.1, Nat.lt_of_lt_of_le HG8.out.2.2.2 b9.size⟩
  have HI9 : Hid (K.ESrc w9 io im ic XI ∧ (∀ ad, io = some ad → g3 + 1 ≤ ad.block) ∧ PtR A m.p.P true XI ei) := ⟨SI, fun ad e => Nat.le_trans HG8.out.2.2.2 (NI ad e), RI⟩
  have d9 := HX9.out.1.c0
  have l9 := run_ldP HX9.out.1.past
  clear hx SI b9 NI RI HX8 HP8 HG8
  go_wp2_with fail
  clear d9 l9
  refine (refOutside_any m.ao m.n m.cap A m.p _ (HS.out.below HX9.out.2).a (HS.out.below HX9.out.2).p).mono ?_
  rintro x wa hx
  obtain ⟨XO, eo, oo, om, oc, rfl, SO, ba, NO, RO'⟩ := hx.gives
  have HXa : Hid (CaBox wa g1 m ∧ Below w.heap.size w wa) := ⟨HX9.out.1.below ba, HX9.out.2.trans (ba.mono HX9.out.2.size)⟩
  have HPa : Hid (PBox wa g3 p ∧ PBox wa g5 q ∧ PSrc wa q) := ⟨HP9.out.1.below ba, HP9.out.2.1.below ba, HP9.out.2.2.below ba⟩
  have HGa : Hid (w.heap.size ≤ g3 ∧ g3 ≠ g1 ∧ g5 ≠ g3 ∧ g3 < wa.heap.size) := ⟨HG9.out.1, HG9.out.2.1, HG9.out.2.2.1, Nat.lt_of_lt_of_le HG9.out.2.2.2 ba.size⟩
  have HIa : Hid (K.ESrc wa io im ic XI ∧ (∀ ad, io = some ad → g3 + 1 ≤ ad.block) ∧ PtR A m.p.P true XI ei) := ⟨HI9.out.1.below ba, HI9.out.2⟩
  have HOa : Hid (K.ESrc wa oo om oc XO ∧ (∀ ad, oo = some ad → g3 + 1 ≤ ad.block) ∧ PtR A m.p.P false XO eo) := ⟨SO, fun ad e => Nat.le_trans HG9.out.2.2.2 (NO ad e), RO'⟩
  have da := HXa.out.1.c0
  clear hx SO ba NO RO' HX9 HP9 HG9 HI9
  go_wp2_with fail
  clear da
  refine (dots_any m.ao m.n m.cap A _ (HS.out.below HXa.out.2).a).mono ?_
  rintro x wb hx
  obtain ⟨p2, e2, rfl, Sb, Nb, Rb, bb⟩ := hx.gives
  obtain ⟨rfl, hpq⟩ := Rb.same HRq.out
  have tb := run_stP (p' := p2) (HPa.out.1.below bb)
  obtain ⟨wc, hwc⟩ : ∃ wc, wb.setRow g3 (PC p2) = wc := ⟨_, rfl⟩
  have HXc : Hid (CaBox wc g1 m ∧ Below w.heap.size w wc) := by
    subst hwc
    exact ⟨(setRow_other _ _ _ _ (Ne.symm HGa.out.2.1)).trans (HXa.out.1.below bb), below_setRow (HXa.out.2.trans (bb.mono HXa.out.2.size)) HGa.out.1⟩
  have HPc : Hid (PBox wc g3 p2 ∧ PBox wc g5 q ∧ PSrc wc q ∧ PSrc wc p2 ∧ p2.P = q.P) := by
    subst hwc
    exact ⟨setRow_heap _ _ _ _ _ _ (HPa.out.1.below bb), (setRow_other _ _ _ _ HGa.out.2.2.1).trans (HPa.out.2.1.below bb), psrc_row (HPa.out.2.2.below bb) HN.out (Nat.lt_succ_self _) _, psrc_row Sb Nb HGa.out.2.2.2 _, hpq⟩
  have HIc : Hid (K.ESrc wc io im ic XI ∧ PtR A m.p.P true XI ei) := by
    subst hwc
    exact ⟨esrc_row (HIa.out.1.below bb) HIa.out.2.1 (Nat.lt_succ_self _) _, HIa.out.2.2⟩
  have HOc : Hid (K.ESrc wc oo om oc XO ∧ PtR A m.p.P false XO eo) := by
    subst hwc
    exact ⟨esrc_row (HOa.out.1.below bb) HOa.out.2.1 (Nat.lt_succ_self _) _, HOa.out.2.2⟩
  have lc := run_ldP HPc.out.1.at
  have ld := run_ldP HPc.out.2.1.at
  rw [hwc] at tb
  clear hx Sb Nb Rb bb hpq HXa HPa HGa HIa HOa HRq HN hwc
  go_wp2_with fail
  clear tb lc ld
  refine (samePast_any p2 q _ HPc.out.2.2.2.1 HPc.out.2.2.1).mono ?_
  rintro x wd ⟨b, rfl, hb, bd⟩
  obtain rfl : b = true := hb.2 HPc.out.2.2.2.2
  have HXd : Hid (CaBox wd g1 m ∧ Below w.heap.size w wd) := ⟨HXc.out.1.below bd, HXc.out.2.trans (bd.mono HXc.out.2.size)⟩
  have HId : Hid (K.ESrc wd io im ic XI ∧ PtR A m.p.P true XI ei) := ⟨HIc.out.1.below bd, HIc.out.2⟩
  have HOd : Hid (K.ESrc wd oo om oc XO ∧ PtR A m.p.P false XO eo) := ⟨HOc.out.1.below bd, HOc.out.2⟩
  have dd := HXd.out.1.c0
  have le := run_ldP HXd.out.1.past
  clear hb bd HXc HPc HIc HOc
  go_wp2_with fail
  clear dd le
  refine (inside_any m.ao m.n m.cap A m.p _ (HS.out.below HXd.out.2).a (HS.out.below HXd.out.2).p).mono ?_
  rintro x we hx
  obtain ⟨X, e, jo, jm, jc, rfl, S, be, -, R⟩ := hx.gives
  obtain ⟨rfl, rfl⟩ := R.same HId.out.2
  have HXe : Hid (CaBox we g1 m ∧ Below w.heap.size w we) := ⟨HXd.out.1.below be, HXd.out.2.trans (be.mono HXd.out.2.size)⟩
  have HIe : Hid (K.ESrc we io im ic X ∧ K.ESrc we jo jm jc X) := ⟨HId.out.1.below be, S⟩
  have HOe : Hid (K.ESrc we oo om oc XO ∧ PtR A m.p.P false XO eo) := ⟨HOd.out.1.below be, HOd.out.2⟩
  clear hx S be R HXd HId HOd
  go_wp2_with fail
  refine (K.same_any jo io jm jc im ic _ _ _ HIe.out.2 HIe.out.1 rfl).mono ?_
  rintro x wf ⟨rfl, bf⟩
  have HXf : Hid (CaBox wf g1 m ∧ Below w.heap.size w wf) := ⟨HXe.out.1.below bf, HXe.out.2.trans (bf.mono HXe.out.2.size)⟩
  have HOf : Hid (K.ESrc wf oo om oc XO ∧ PtR A m.p.P false XO eo) := ⟨HOe.out.1.below bf, HOe.out.2⟩
  have df := HXf.out.1.c0
  have lf := run_ldP HXf.out.1.past
  clear bf HXe HIe HOe
  go_wp2_with fail
  clear df lf
  refine (outside_any m.ao m.n m.cap A m.p _ (HS.out.below HXf.out.2).a (HS.out.below HXf.out.2).p).mono ?_
  rintro x wg hx
  obtain ⟨Y, e, jo, jm, jc, rfl, S, bg, -, R⟩ := hx.gives
  obtain ⟨rfl, rfl⟩ := R.same HOf.out.2
  have HXg : Hid (Below w.heap.size w wg) := HXf.out.2.trans (bg.mono HXf.out.2.size)
  have HOg : Hid (K.ESrc wg oo om oc Y ∧ K.ESrc wg jo jm jc Y) := ⟨HOf.out.1.below bg, S⟩
  clear hx S bg R HXf HOf
  go_wp2_with fail
  refine (K.same_any jo oo jm jc om oc _ _ _ HOg.out.2 HOg.out.1 rfl).mono ?_
  rintro x wh ⟨rfl, bh⟩
  have HE := hide (HXg.out.trans (bh.mono HXg.out.size))
  clear bh
  go_wp2_with fail
  go_ret
  exact ⟨rfl, HE.out⟩
end Go.Proofs.YtooinnhjeloocaaGreat
namespace Go.Proofs.YtooinnhjeloocaaGreat.K
open Go.ChangeShapes Go.WideShapes Go.ChangeAt Go.RowKit Go.Joins

theorem own : ownKnob Tryz.prog.godebug = none := by kernel_rfl
theorem laidOut : laidOutB Tryz.prog = true := by kernel_rfl
theorem cells28 : Tryz.prog.cellsOf 36 = 4 := by kernel_rfl
theorem cells26 : Tryz.prog.cellsOf 28 = 2 := by kernel_rfl
theorem cells3 : Tryz.prog.cellsOf 3 = 1 := by kernel_rfl
theorem cells9 : Tryz.prog.cellsOf 9 = 1 := by kernel_rfl
theorem bytes28 : Tryz.prog.bytesOf 36 = 40 := by kernel_rfl
theorem list2 {α : Type} {l : List α} (h : l.length = 2) : ∃ a b, l = [a, b] := by
  match l, h with
  | [a, b], _ => exact ⟨a, b, rfl⟩
theorem list3 {α : Type} {l : List α} (h : l.length = 3) : ∃ a b c, l = [a, b, c] := by
  match l, h with
  | [a, b, c], _ => exact ⟨a, b, c, rfl⟩
theorem list4 {α : Type} {l : List α} (h : l.length = 4) : ∃ a b c d, l = [a, b, c, d] := by
  match l, h with
  | [a, b, c, d], _ => exact ⟨a, b, c, d, rfl⟩
theorem open_entry {H : Type} {enc : TypeId × Value → H} {w : World} {base : Nat} {spare : Nat → Bool} {held : Bool} {fuel : Nat} {cs : List Value} {x : DataW H × List MemPlace}
    (h : DataW.trod enc Tryz.prog w base spare held fuel 36 cs = some x) : ∃ e : En, cs = (EC e).toList ∧ e.sku.size ≤ maxLen := by
  obtain ⟨xs, m, _, hx, hcl, hxl, hf⟩ := DataW.trod_struct Tryz.underlying36 h
  obtain ⟨v0, v1, v2, v3, rfl⟩ := list4 (hcl.trans cells28)
  obtain ⟨y0, y1, y2, rfl⟩ := list3 hxl
  have t0 := hf 0 _ rfl
  have t1 := hf 1 _ rfl
  have t2 := hf 2 _ rfl
  simp [cells3, cells9, cells26] at t0 t1 t2
  obtain ⟨xs', m', _, hx', hcl', hxl', hf'⟩ := DataW.trod_struct Tryz.underlying28 t0
  obtain ⟨z0, z1, rfl⟩ := list2 hxl'
  have s0 := hf' 0 _ rfl
  have s1 := hf' 1 _ rfl
  simp [cells3] at s0 s1
  obtain ⟨r, e0, -, _⟩ := DataW.trod_int Tryz.underlying3 s0
  obtain ⟨n, e1, -, _⟩ := DataW.trod_int Tryz.underlying3 s1
  obtain ⟨s, e2, -, w2⟩ := DataW.trod_string Tryz.underlying9 t1
  obtain ⟨q, e3, -, _⟩ := DataW.trod_int Tryz.underlying3 t2
  simp only [List.cons.injEq, and_true] at e0 e1 e2 e3
  subst e0 e1 e2 e3
  exact ⟨⟨r, n, s, q⟩, rfl, w2⟩
theorem view {H : Type} {enc : TypeId × Value → H} {W : World} {a0 : Option Addr} {len cap : Nat} {d : DataW H} {p : List MemPlace}
    (h : DataW.Trod enc Tryz.prog W 0 (fun _ => true) true 22 (Value.slice a0 len cap) d p) (hw : ∀ n ∈ DataW.weights Tryz.prog 22 d, n ≤ reachBytes) :
    ∃ L : List En, ESrc W a0 len cap L := by
  obtain ⟨fuel, hf⟩ := h
  rcases DataW.trod_slice Tryz.underlying22 hf with h0 | ⟨a, len', cap', elems, rest, n, _, hcs, hx, hb, hl, hm, hlen, hel, hsp, hns⟩
  · have hcs := h0.1
    simp [Value.cells] at hcs
    obtain ⟨rfl, rfl, rfl⟩ := hcs
    exact ⟨[], rfl, fun _ => ⟨rfl, rfl⟩, fun ad h => (by cases h), fun e he => (by cases he), Nat.zero_le _⟩
  · simp [Value.cells] at hcs
    obtain ⟨rfl, rfl, rfl⟩ := hcs
    simp only [Prod.mk.injEq] at hx
    obtain ⟨rfl, _⟩ := hx
    have h1 := hw (((elems.map (·.1)).length + (rest.map (·.1)).length) * Tryz.prog.bytesOf 36) (by simp [DataW.weights, Tryz.underlying22])
    rw [bytes28] at h1
    simp at h1
    have h2 := reachBytes_lt
    have key : ∀ i, i < len → ∃ e : En, EnAt W (a.add (i * 4)) e ∧ e.sku.size ≤ maxLen := by
      intro i hi
      have he := hel i hi
      obtain ⟨y, hy⟩ : ∃ y, elems[i]? = some y := ⟨_, List.getElem?_eq_getElem (by omega)⟩
      rw [hy, cells28, Option.bind_eq_some_iff] at he
      obtain ⟨cs', hcs, hy'⟩ := he
      obtain ⟨_, -, hce⟩ := World.cells?_some hcs
      obtain ⟨e, rfl, hs⟩ := open_entry hy'
      have g0 := hce 0 (by omega)
      rw [add_zero] at g0
      exact ⟨e, ⟨g0, hce 1 (by omega), hce 2 (by omega), hce 3 (by omega)⟩, hs⟩
    refine ⟨(List.range len).map fun i => if h : i < len then Classical.choose (key i h) else en0, by simp, fun h => (by cases h), fun ad h t ht => ?_, fun e he => ?_, by omega⟩
    · obtain rfl := Option.some.inj h
      have : ((List.range len).map fun i => if h : i < len then Classical.choose (key i h) else en0).getD t en0 = Classical.choose (key t ht) := by simp [List.getD, ht]
      rw [this]
      exact (Classical.choose_spec (key t ht)).1
    · simp only [List.mem_map, List.mem_range] at he
      obtain ⟨i, hi, rfl⟩ := he
      rw [dif_pos hi]
      exact (Classical.choose_spec (key i hi)).2
set_option maxRecDepth 100000 in
theorem viewS {H : Type} {enc : TypeId × Value → H} {W : World} {base : Nat} {v : Value} {d : DataW H} {p : List MemPlace}
    (hv : Value.okWide Tryz.prog W .any base 9 v) (h : DataW.Trod enc Tryz.prog W 0 (fun _ => true) true 9 v d p) : ∃ s : ByteArray, v = .string s ∧ s.size ≤ maxLen := by
  obtain ⟨s, rfl, _, _, hw⟩ := Go.ChangeMaps.open_string Tryz.underlying9 hv h
  exact ⟨s, rfl, hw⟩
end Go.Proofs.YtooinnhjeloocaaGreat.K
namespace Go.Proofs.YtooinnhjeloocaaGreat
open Go.ChangeShapes Go.WideShapes Go.ChangeAt Go.RowKit Go.Joins

theorem own : ownKnob Tryz.prog.godebug = none := by kernel_rfl
theorem laidOut : laidOutB Tryz.prog = true := by kernel_rfl
theorem cellsS : Tryz.prog.cellsOf 55 = 3 := by kernel_rfl
theorem cellsI : Tryz.prog.cellsOf 3 = 1 := by kernel_rfl
theorem cellsP : Tryz.prog.cellsOf 26 = 2 := by kernel_rfl
theorem cellsV : Tryz.prog.cellsOf 23 = 1 := by kernel_rfl
theorem cellsC : Tryz.prog.cellsOf 24 = 1 := by kernel_rfl
theorem bulk_pos {H : Type} (d : DataW H) : 1 ≤ Rows.uptoBulk d := by
  cases d with
  | lit l => cases l <;> simp only [Rows.uptoBulk] <;> omega
  | _ => simp only [Rows.uptoBulk] <;> omega
theorem bulk_len {H : Type} : ∀ (l : List (DataW H)), l.length ≤ Rows.uptoBulkAll l
  | [] => by simp
  | d :: l => by have := bulk_len l; have := bulk_pos d; simp only [Rows.uptoBulkAll, List.length_cons]; omega
theorem list2 {α : Type} {l : List α} (h : l.length = 2) : ∃ a b, l = [a, b] := by
  match l, h with
  | [a, b], _ => exact ⟨a, b, rfl⟩
theorem list3 {α : Type} {l : List α} (h : l.length = 3) : ∃ a b c, l = [a, b, c] := by
  match l, h with
  | [a, b, c], _ => exact ⟨a, b, c, rfl⟩
theorem open_span {H : Type} {enc : TypeId × Value → H} {w : World} {base : Nat} {spare : Nat → Bool} {held : Bool} {fuel : Nat} {cs : List Value} {x : DataW H × List MemPlace}
    (h : DataW.trod enc Tryz.prog w base spare held fuel 55 cs = some x) : ∃ e : Sn, cs = (SC e).toList := by
  obtain ⟨xs, m, _, hx, hcl, hxl, hf⟩ := DataW.trod_struct Tryz.underlying55 h
  obtain ⟨v0, v1, v2, rfl⟩ := list3 (hcl.trans cellsS)
  obtain ⟨y0, y1, y2, rfl⟩ := list3 hxl
  have t0 := hf 0 _ rfl
  have t1 := hf 1 _ rfl
  have t2 := hf 2 _ rfl
  simp [cellsI] at t0 t1 t2
  obtain ⟨r, e0, -, _⟩ := DataW.trod_int Tryz.underlying3 t0
  obtain ⟨n, e1, -, _⟩ := DataW.trod_int Tryz.underlying3 t1
  obtain ⟨m', e2, -, _⟩ := DataW.trod_int Tryz.underlying3 t2
  simp only [List.cons.injEq, and_true] at e0 e1 e2
  subst e0 e1 e2
  exact ⟨⟨r, n, m'⟩, rfl⟩
theorem viewI {H : Type} {enc : TypeId × Value → H} {W : World} {fuel : Nat} {v : Value} {x : DataW H × List MemPlace}
    (h : DataW.trod enc Tryz.prog W 0 (fun _ => true) true fuel 23 [v] = some x) (hw : Rows.uptoBulk x.1 ≤ 1048576) : ∃ (ao : Option Addr) (n cap : Nat) (Z : List Int), v = .slice ao n cap ∧ V.Src W ao n cap Z ∧ n ≤ 1048576 := by
  rcases DataW.trod_slice Tryz.underlying23 h with h0 | ⟨a, len, cap, elems, rest, n, _, hcs, hx, hb, hl, hm, hlen, hel, hsp, hns⟩
  · have e : v = .slice none 0 0 := by simpa using h0.1
    exact ⟨none, 0, 0, [], e, ⟨rfl, fun _ => ⟨rfl, rfl⟩, fun ad h => (by cases h)⟩, Nat.zero_le _⟩
  · subst hx
    have e : v = .slice (some a) len cap := by simpa using hcs
    simp only [Rows.uptoBulk] at hw
    have h1 := bulk_len (elems.map (·.1))
    simp only [List.length_map] at h1
    have key : ∀ i, i < len → ∃ z : Int, W.cell? (a.add i) = some (.int .i64 z) := by
      intro i hi
      have he := hel i hi
      obtain ⟨y, hy⟩ : ∃ y, elems[i]? = some y := ⟨_, List.getElem?_eq_getElem (by omega)⟩
      rw [hy, cellsI, Option.bind_eq_some_iff] at he
      obtain ⟨cs', hcs, hy'⟩ := he
      obtain ⟨hl', -, hce⟩ := World.cells?_some hcs
      obtain ⟨z, rfl, -, _⟩ := DataW.trod_int Tryz.underlying3 hy'
      have g0 := hce 0 (by omega)
      rw [add_zero, Nat.mul_one] at g0
      exact ⟨z, g0⟩
    refine ⟨some a, len, cap, (List.range len).map fun i => if h : i < len then Classical.choose (key i h) else 0, e, ⟨by simp, fun h => (by cases h), fun ad h t ht => ?_⟩, by omega⟩
    obtain rfl := Option.some.inj h
    have : ((List.range len).map fun i => if h : i < len then Classical.choose (key i h) else 0).getD t 0 = Classical.choose (key t ht) := by simp [List.getD, ht]
    rw [this]
    exact Classical.choose_spec (key t ht)
theorem viewC {H : Type} {enc : TypeId × Value → H} {W : World} {fuel : Nat} {v : Value} {x : DataW H × List MemPlace}
    (h : DataW.trod enc Tryz.prog W 0 (fun _ => true) true fuel 24 [v] = some x) (hw : Rows.uptoBulk x.1 ≤ 1048576) : ∃ (ao : Option Addr) (n cap : Nat) (L : List Sn), v = .slice ao n cap ∧ SSrc W ao n cap L ∧ n ≤ 1048576 := by
  rcases DataW.trod_slice Tryz.underlying24 h with h0 | ⟨a, len, cap, elems, rest, n, _, hcs, hx, hb, hl, hm, hlen, hel, hsp, hns⟩
  · have e : v = .slice none 0 0 := by simpa using h0.1
    exact ⟨none, 0, 0, [], e, SSrc.empty _, Nat.zero_le _⟩
  · subst hx
    have e : v = .slice (some a) len cap := by simpa using hcs
    simp only [Rows.uptoBulk] at hw
    have h1 := bulk_len (elems.map (·.1))
    simp only [List.length_map] at h1
    have key : ∀ i, i < len → ∃ e : Sn, SnAt W (a.add (i * 3)) e := by
      intro i hi
      have he := hel i hi
      obtain ⟨y, hy⟩ : ∃ y, elems[i]? = some y := ⟨_, List.getElem?_eq_getElem (by omega)⟩
      rw [hy, cellsS, Option.bind_eq_some_iff] at he
      obtain ⟨cs', hcs, hy'⟩ := he
      obtain ⟨_, -, hce⟩ := World.cells?_some hcs
      obtain ⟨e, rfl⟩ := open_span hy'
      have g0 := hce 0 (by omega)
      rw [add_zero] at g0
      exact ⟨e, ⟨g0, hce 1 (by omega), hce 2 (by omega)⟩⟩
    refine ⟨some a, len, cap, (List.range len).map fun i => if h : i < len then Classical.choose (key i h) else sn0, e, ⟨by simp, fun h => (by cases h), fun ad h t ht => ?_, by omega, hl⟩, by omega⟩
    obtain rfl := Option.some.inj h
    have : ((List.range len).map fun i => if h : i < len then Classical.choose (key i h) else sn0).getD t sn0 = Classical.choose (key t ht) := by simp [List.getD, ht]
    rw [this]
    exact Classical.choose_spec (key t ht)
theorem viewP {H : Type} {enc : TypeId × Value → H} {W : World} {fuel : Nat} {cs : List Value} {x : DataW H × List MemPlace}
    (h : DataW.trod enc Tryz.prog W 0 (fun _ => true) true fuel 26 cs = some x) (hw : Rows.uptoBulk x.1 ≤ 1048576) : ∃ p : Pv, cs = [.slice p.vo p.vn p.vc, .slice p.co p.cn p.cc] ∧ PSrc W p ∧ p.P.cloud.length ≤ 1048576 := by
  obtain ⟨xs, m, _, hx, hcl, hxl, hf⟩ := DataW.trod_struct Tryz.underlying26 h
  obtain ⟨v0, v1, rfl⟩ := list2 (hcl.trans cellsP)
  obtain ⟨y0, y1, rfl⟩ := list2 hxl
  have t0 := hf 0 _ rfl
  have t1 := hf 1 _ rfl
  simp [cellsV, cellsC] at t0 t1
  subst hx
  simp only [Rows.uptoBulk, List.map_cons, List.map_nil, Rows.uptoBulkAll] at hw
  obtain ⟨a0, l0, c0, Z, rfl, S0, g0⟩ := viewI t0 (by omega)
  obtain ⟨a1, l1, c1, L, rfl, S1, g1⟩ := viewC t1 (by omega)
  exact ⟨⟨a0, l0, c0, a1, l1, c1, ⟨Z, L⟩⟩, rfl, ⟨S0, S1, by show l0 ≤ _; omega⟩, by show L.length ≤ _; rw [S1.len]; exact g1⟩
end Go.Proofs.YtooinnhjeloocaaGreat
