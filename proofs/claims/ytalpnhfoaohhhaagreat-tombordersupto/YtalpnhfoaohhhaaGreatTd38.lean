/- TCl TAo -/
import Derived.Test.YtalpnhfoaohhhaaGreatTd30
import Derived.Test.YtalpnhfoaohhhaaGreatTd37
import Derived.Test.YtalpnhfoaohhhaaGreatTd21
import Derived.Test.YtalpnhfoaohhhaaGreatTd16
import Derived.Test.YtalpnhfoaohhhaaGreatTd33
import Derived.Deep.CutRange
set_option maxRecDepth 100000
set_option maxHeartbeats 1600000
namespace Go.Proofs.YtalpnhfoaohhhaaGreat
section
open Go.RowKit
def ClE (e : K.En) (g : Fc) : Prop := ∃ y ∈ g.es, K.sameDot y e = true /\ y ≠ e
def dotE (e : K.En) : Rn := ⟨e.rep, e.num⟩
def ClOf (f g : Fc) (d : Rn) (b : Bool) : Prop := (¬ (FormF f /\ FormF g) /\ d = rn0 /\ b = false) ∨ (FormF f /\ FormF g /\ ((b = false /\ d = rn0 /\ ∀ i, i < f.an -> ¬ ClE (f.es.getD i K.en0) g) ∨ (b = true /\ ∃ i, i < f.an /\ ClE (f.es.getD i K.en0) g /\ (∀ j, j < i -> ¬ ClE (f.es.getD j K.en0) g) /\ d = dotE (f.es.getD i K.en0))))
def ClA (w w' : World) (x : Ending) (f g : Fc) : Prop := ∃ (d : Rn) (b : Bool), x = .returned (.tuple #[RV d, .bool b]) /\ ClOf f g d b /\ Below w.heap.size w w'
theorem getE_mem {L : List K.En} {k : Nat} (h : k < L.length) : L.getD k K.en0 ∈ L := by
 rw [List.getD_eq_getElem?_getD, List.getElem?_eq_getElem h]; exact List.getElem_mem h
theorem eqE_iff2 (x y : K.En) : K.eqE x y = true ↔ x = y := by
 constructor
 ·intro h
  unfold K.eqE at h
  simp only [Bool.and_eq_true, beq_iff_eq] at h
  obtain ⟨⟨⟨h1, h2⟩, h3⟩, h4⟩ := h
  have h5 := list_ext h3
  cases x; cases y; simp_all
 ·rintro rfl; exact K.eqE_self _
attribute [local go_sem ↓] ldP_eq stP_eq ldFa_eq stFa_eq ldD_eq stD_eq K.ld28_eq K.st28_eq
attribute [local go_sem] cells_PV PC_size cells_FaV FaC_size cells_RV RC_size zero_RC fold_RC K.zero_EC K.cells_EV K.EC_size
def bldDz (a : Array (Nat × Value)) : Sem Value := Instr.build 32 a
theorem bldDz_eq (a : Array (Nat × Value)) : Instr.build 32 a = bldDz a := rfl
theorem run_bldDz (w : World) : (bldDz #[]).run Tryz.prog w = .ok (RV rn0) w := by kernel_rfl
attribute [local go_sem ↓] bldDz_eq
attribute [local go_sem] run_bldDz
end
section
open Go.RowKit
theorem nrE_zero (s : K.En) (d : Rn) : nrE s d = 0 ↔ dotE s = d := by
 unfold nrE or2 cmpI dotE
 obtain ⟨lo, hi⟩ := d
 simp only [Rn.mk.injEq]
 by_cases h1 : s.rep < lo
 ·simp [h1]; omega
 ·by_cases h2 : lo < s.rep
  ·simp [h1, h2]; omega
  ·have h3 : s.rep = lo := by omega
   by_cases h4 : s.num < hi
   ·simp [h3, h4]; omega
   ·by_cases h5 : hi < s.num
    ·simp [h3, h4, h5]; omega
    ·simp [h3, h4, h5]; omega
theorem nrE_ahead {x y : K.En} {d : Rn} (h : K.ahead x y = true) (hy : nrE y d <= 0) : nrE x d < 0 := by
 rw [nrE_neg]
 unfold K.ahead at h
 simp only [Bool.or_eq_true, Bool.and_eq_true, decide_eq_true_eq, beq_iff_eq] at h
 by_cases h0 : nrE y d = 0
 ·have := (nrE_zero y d).1 h0
  subst this
  unfold dotE
  dsimp only
  omega
 ·have := (nrE_neg y d).1 (by omega)
  omega
theorem asc_at {L : List K.En} (h : K.chk L = 0) {i j : Nat} (hij : i < j) (hj : j < L.length) : K.ahead (L.getD i K.en0) (L.getD j K.en0) = true := by
 have := List.pairwise_iff_getElem.1 (K.chk_asc' h) i j (by omega) hj hij
 rw [List.getD_eq_getElem?_getD, List.getElem?_eq_getElem (by omega), List.getD_eq_getElem?_getD, List.getElem?_eq_getElem hj]
 exact this
theorem nrE_mono {L : List K.En} {d : Rn} (h : K.chk L = 0) (a b : Nat) (hab : a <= b) (hb : b < L.length) (hn : nrE (L.getD b K.en0) d < 0) : nrE (L.getD a K.en0) d < 0 := by
 by_cases e : a = b
 ·rw [e]; exact hn
 ·exact nrE_ahead (asc_at h (by omega) hb) (by omega)
def AoD (L : List K.En) (d : Rn) (e : K.En) (b : Bool) : Prop := (b = true /\ e ∈ L /\ dotE e = d) ∨ (b = false /\ e = K.en0 /\ ∀ y ∈ L, dotE y ≠ d)
theorem first_not {L : List K.En} {d : Rn} {n i : Nat} (hc : K.chk L = 0) (hl : L.length = n) (hF : FirstE L d n i) (hb : ¬ (i < n /\ nrE (L.getD i K.en0) d = 0)) : ∀ y ∈ L, dotE y ≠ d := by
 intro y hy e
 obtain ⟨j, hj, rfl⟩ := List.getElem_of_mem hy
 have e0 : L.getD j K.en0 = L[j] := by rw [List.getD_eq_getElem?_getD, List.getElem?_eq_getElem hj]; rfl
 have h0 : nrE (L.getD j K.en0) d = 0 := by rw [e0]; exact (nrE_zero _ _).2 e
 rcases Nat.lt_trichotomy j i with q | q | q
 ·have := hF.2.1 j q; omega
 ·subst q; exact hb ⟨by omega, h0⟩
 ·have h1 := nrE_ahead (d := d) (asc_at hc q hj) (by omega)
  have := hF.2.2 (by omega)
  omega
attribute [local go_sem ↓] ldFa_eq stFa_eq ldD_eq stD_eq K.ld28_eq K.st28_eq bldDz_eq
attribute [local go_sem] cells_FaV FaC_size cells_RV RC_size zero_RC fold_RC K.zero_EC K.cells_EV K.EC_size run_bldDz
def bldEz (a : Array (Nat × Value)) : Sem Value := Instr.build 36 a
theorem bldEz_eq (a : Array (Nat × Value)) : Instr.build 36 a = bldEz a := rfl
theorem run_bldEz (w : World) : (bldEz #[]).run Tryz.prog w = .ok (K.EV K.en0) w := by kernel_rfl
attribute [local go_sem ↓] bldEz_eq
attribute [local go_sem] run_bldEz
theorem addOf_any (ao : Option Addr) (n c : Nat) (L : List K.En) (d : Rn) (w : World) (hS : K.ESrc w ao n c L) (hc : K.chk L = 0) :
  Calls Tryz.prog 31 #[.slice ao n c, RV d] w fun x w' => ∃ e b, x = .returned (.tuple #[K.EV e, .bool b]) /\ AoD L d e b /\ Below w.heap.size w w' := by
 have b1 := below_new w (.cells (RC d) 32)
 have X1 := box_new w 32 d
 have z1 : (w.alloc (.cells (RC d) 32)).heap.size = w.heap.size + 1 := by simp
 obtain ⟨w1, hw1⟩ : ∃ w1, w.alloc (.cells (RC d) 32) = w1 := ⟨_, rfl⟩
 rw [hw1] at b1 X1 z1
 have b2 := below_new w1 (.cells (K.EC K.en0) 36)
 have X2 := K.box_new w1 36 K.en0
 obtain ⟨wk, hwk⟩ : ∃ wk, w1.alloc (.cells (K.EC K.en0) 36) = wk := ⟨_, rfl⟩
 obtain ⟨G, hG⟩ : ∃ G, w.heap.size = G := ⟨_, rfl⟩
 rw [hwk] at b2 X2
 rw [z1, hG] at X2
 rw [hG] at X1
 have HX := hide (X1.below b2)
 have HY := hide X2
 have HBK := hide (b1.trans (b2.mono b1.size))
 have HS := hide (hS.below HBK.out)
 have HC := hide hc
 have HGs : Hid (w.heap.size = G) := hG
 clear b1 X1 b2 X2 hS hc
 have ld := run_ldD HX.out.at
 go_enter Tryz.func31, Tryz.ntmps31
 go_wp2_with fail
 clear hw1 hwk z1 hG
 refine (bsE_any ao n c L d _ HS.out (fun a b hab hb hn => nrE_mono HC.out a b hab (by rw [HS.out.1]; exact hb) hn)).mono ?_
 rintro e w3 ⟨i, b, rfl, hF, hb, b3⟩
 have HB3 := hide (HBK.out.trans (b3.mono HBK.out.size))
 have HY3 := hide (HY.out.below b3)
 have HS3 := hide (HS.out.below b3)
 have HF := hide hF
 clear b3 ld hF
 cases b with
 | false =>
  have hno : ¬ (i < n /\ nrE (L.getD i K.en0) d = 0) := fun h => by have := hb.2 h; cases this
  have HD : Hid (AoD L d K.en0 false) := .inr ⟨rfl, rfl, first_not HC.out HS.out.1 HF.out hno⟩
  have st := K.run_st28 (e' := K.en0) HY3.out
  have HZ := hide (HY3.out.setRow (e' := K.en0))
  have HBz := hide (below_setRow (cs := K.EC K.en0) HB3.out (show w.heap.size <= G + 1 by rw [HGs.out]; omega))
  clear hb hno
  go_wp2_with fail
  clear st
  refine bodyPost_ret (K.resF rfl rfl rfl HZ.out) rfl ?_
  exact ⟨_, _, rfl, HD.out, HBz.out⟩
 | true =>
  obtain ⟨hi, h0⟩ := hb.1 rfl
  obtain ⟨ad, hao, A0⟩ := HS3.out.at i hi
  subst hao
  have hii : (i : Int) < (n : Int) := by omega
  have HD : Hid (AoD L d (L.getD i K.en0) true) := .inl ⟨rfl, getE_mem (by rw [HS.out.1]; exact hi), (nrE_zero _ _).1 h0⟩
  obtain ⟨y, Hy⟩ : ∃ y, Hid (L.getD i K.en0 = y) := ⟨_, rfl⟩
  rw [Hy.out] at A0 HD
  have hld := K.run_ld28 A0
  have st := K.run_st28 (e' := y) HY3.out
  have HZ := hide (HY3.out.setRow (e' := y))
  have HBz := hide (below_setRow (cs := K.EC y) HB3.out (show w.heap.size <= G + 1 by rw [HGs.out]; omega))
  clear hb h0 A0
  go_wp2_with fail
  clear st hld
  refine bodyPost_ret (K.resF rfl rfl rfl HZ.out) rfl ?_
  exact ⟨_, _, rfl, HD.out, HBz.out⟩
end
end Go.Proofs.YtalpnhfoaohhhaaGreat
