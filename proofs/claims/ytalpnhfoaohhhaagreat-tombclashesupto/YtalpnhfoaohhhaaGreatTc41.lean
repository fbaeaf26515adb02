/- TCl TAo -/
import Derived.Test.YtalpnhfoaohhhaaGreatTc36
import Derived.Test.YtalpnhfoaohhhaaGreatTc25
import Derived.Test.YtalpnhfoaohhhaaGreatTc14
import Derived.Test.YtalpnhfoaohhhaaGreatTc40
import Derived.Deep.CutRange
import Derived.Test.YtalpnhfoaohhhaaGreatTc18
namespace Go.Proofs.YtalpnhfoaohhhaaGreat
open Go.RowKit
def ClE (e : K.En) (g : Fc) : Prop := ∃ y ∈ g.es, K.sameDot y e = true ∧ y ≠ e
def dotE (e : K.En) : Rn := ⟨e.rep, e.num⟩
def ClOf (f g : Fc) (d : Rn) (b : Bool) : Prop := (¬ (FormF f ∧ FormF g) ∧ d = rn0 ∧ b = false) ∨ (FormF f ∧ FormF g ∧ ((b = false ∧ d = rn0 ∧ ∀ i, i < f.an → ¬ ClE (f.es.getD i K.en0) g) ∨ (b = true ∧ ∃ i, i < f.an ∧ ClE (f.es.getD i K.en0) g ∧ (∀ j, j < i → ¬ ClE (f.es.getD j K.en0) g) ∧ d = dotE (f.es.getD i K.en0))))
def ClA (w w' : World) (x : Ending) (f g : Fc) : Prop := ∃ (d : Rn) (b : Bool), x = .returned (.tuple #[RV d, .bool b]) ∧ ClOf f g d b ∧ Below w.heap.size w w'
theorem getE_mem {L : List K.En} {k : Nat} (h : k < L.length) : L.getD k K.en0 ∈ L := by
 rw [List.getD_eq_getElem?_getD, List.getElem?_eq_getElem h]; exact List.getElem_mem h
theorem eqE_iff2 (x y : K.En) : K.eqE x y = true ↔ x = y := by
 constructor
 ·intro h
  unfold K.eqE at h
  simp only [Bool.and_eq_true, beq_iff_eq] at h
  obtain ⟨⟨⟨h1, h2⟩, h3⟩, h4⟩ := h
  have h5 := list_ext h3
  cases x; cases y; simp_all
 ·rintro rfl; exact K.eqE_self _
attribute [local go_sem ↓] ldP_eq stP_eq ldFa_eq stFa_eq ldD_eq stD_eq K.ld28_eq K.st28_eq
attribute [local go_sem] cells_PV PC_size cells_FaV FaC_size cells_RV RC_size zero_RC fold_RC K.zero_EC K.cells_EV K.EC_size
def bldDz (a : Array (Nat × Value)) : Sem Value := Instr.build 32 a
theorem bldDz_eq (a : Array (Nat × Value)) : Instr.build 32 a = bldDz a := rfl
theorem run_bldDz (w : World) : (bldDz #[]).run Tryz.prog w = .ok (RV rn0) w := by kernel_rfl
attribute [local go_sem ↓] bldDz_eq
attribute [local go_sem] run_bldDz
theorem resD2 {w : World} {g : Nat} {fn : Func} {p q : Tmp} {m : Rn} {v : Value} (h : fn.results = #[.cell p 32, .tmp q]) {tmps : Array Value} (hp : tmps.getD p undef = .pointer (some ⟨g, 0, none⟩)) (hq : tmps.getD q undef = v) (A : Box w g 32 m) :
  (results fn tmps).run Tryz.prog w = .ok (.tuple #[RV m, v]) w := by
 have hl : (loadVar 32 ⟨g, 0, none⟩).run Tryz.prog w = .ok (RV m) w := run_ldD A.at
 simp only [results, h]
 rw [Array.getD_eq_getD_getElem?] at hp hq
 simp [hp, hq, asAddr, hl]
theorem box3D (w : World) (f g : Fc) : ∃ wk, ((w.alloc (.cells (FaC (mkF f)) 29)).alloc (.cells (FaC (mkF g)) 29)).alloc (.cells (RC rn0) 32) = wk ∧ Hid (FaBox wk w.heap.size (mkF f)) ∧ Hid (FaBox wk (w.heap.size + 1) (mkF g)) ∧ Hid (Box wk (w.heap.size + 2) 32 rn0) ∧ Hid (Below w.heap.size w wk) := by
 obtain ⟨w2, hw2, HX2, HY2, HB2⟩ := box2F w f g
 have b3 := below_new w2 (.cells (RC rn0) 32)
 have hs2 : w2.heap.size = w.heap.size + 2 := by rw [← hw2]; simp
 refine ⟨_, rfl, ?_, ?_, ?_, ?_⟩ <;> rw [hw2]
 ·exact HX2.out.below b3
 ·exact HY2.out.below b3
 ·have h := box_new w2 32 rn0
  rw [hs2] at h
  exact h
 ·exact HB2.out.trans (b3.mono HB2.out.size)
theorem give_cl {w W : World} {gg : Nat} {m0 d : Rn} {f g : Fc} {b : Bool} (hX : Box W gg 32 m0) (hb : Below w.heap.size w W) (hg : w.heap.size ≤ gg) (hD : ClOf f g d b) :
  Box (W.setRow gg (RC d)) gg 32 d ∧ ClA w (W.setRow gg (RC d)) (.returned (.tuple #[RV d, .bool b])) f g :=
 ⟨hX.setRow, d, b, rfl, hD, below_setRow hb hg⟩
end Go.Proofs.YtalpnhfoaohhhaaGreat
namespace Go.Proofs.YtalpnhfoaohhhaaGreat
open Go.RowKit
theorem nrE_zero (s : K.En) (d : Rn) : nrE s d = 0 ↔ dotE s = d := by
 unfold nrE or2 cmpI dotE
 obtain ⟨lo, hi⟩ := d
 simp only [Rn.mk.injEq]
 by_cases h1 : s.rep < lo
 ·simp [h1]; omega
 ·by_cases h2 : lo < s.rep
  ·simp [h1, h2]; omega
  ·have h3 : s.rep = lo := by omega
   by_cases h4 : s.num < hi
   ·simp [h3, h4]; omega
   ·by_cases h5 : hi < s.num
    ·simp [h3, h4, h5]; omega
    ·simp [h3, h4, h5]; omega
theorem nrE_ahead {x y : K.En} {d : Rn} (h : K.ahead x y = true) (hy : nrE y d ≤ 0) : nrE x d < 0 := by
 rw [nrE_neg]
 unfold K.ahead at h
 simp only [Bool.or_eq_true, Bool.and_eq_true, decide_eq_true_eq, beq_iff_eq] at h
 by_cases h0 : nrE y d = 0
 ·have := (nrE_zero y d).1 h0
  subst this
  unfold dotE
  dsimp only
  omega
 ·have := (nrE_neg y d).1 (by omega)
  omega
theorem asc_at {L : List K.En} (h : K.chk L = 0) {i j : Nat} (hij : i < j) (hj : j < L.length) : K.ahead (L.getD i K.en0) (L.getD j K.en0) = true := by
 have := List.pairwise_iff_getElem.1 (K.chk_asc' h) i j (by omega) hj hij
 rw [List.getD_eq_getElem?_getD, List.getElem?_eq_getElem (by omega), List.getD_eq_getElem?_getD, List.getElem?_eq_getElem hj]
 exact this
theorem nrE_mono {L : List K.En} {d : Rn} (h : K.chk L = 0) (a b : Nat) (hab : a ≤ b) (hb : b < L.length) (hn : nrE (L.getD b K.en0) d < 0) : nrE (L.getD a K.en0) d < 0 := by
 by_cases e : a = b
 ·rw [e]; exact hn
 ·exact nrE_ahead (asc_at h (by omega) hb) (by omega)
def AoD (L : List K.En) (d : Rn) (e : K.En) (b : Bool) : Prop := (b = true ∧ e ∈ L ∧ dotE e = d) ∨ (b = false ∧ e = K.en0 ∧ ∀ y ∈ L, dotE y ≠ d)
theorem first_not {L : List K.En} {d : Rn} {n i : Nat} (hc : K.chk L = 0) (hl : L.length = n) (hF : FirstE L d n i) (hb : ¬ (i < n ∧ nrE (L.getD i K.en0) d = 0)) : ∀ y ∈ L, dotE y ≠ d := by
 intro y hy e
 obtain ⟨j, hj, rfl⟩ := List.getElem_of_mem hy
 have e0 : L.getD j K.en0 = L[j] := by rw [List.getD_eq_getElem?_getD, List.getElem?_eq_getElem hj]; rfl
 have h0 : nrE (L.getD j K.en0) d = 0 := by rw [e0]; exact (nrE_zero _ _).2 e
 rcases Nat.lt_trichotomy j i with q | q | q
 ·have := hF.2.1 j q; omega
 ·subst q; exact hb ⟨by omega, h0⟩
 ·have h1 := nrE_ahead (d := d) (asc_at hc q hj) (by omega)
  have := hF.2.2 (by omega)
  omega
attribute [local go_sem ↓] ldFa_eq stFa_eq ldD_eq stD_eq K.ld28_eq K.st28_eq bldDz_eq
attribute [local go_sem] cells_FaV FaC_size cells_RV RC_size zero_RC fold_RC K.zero_EC K.cells_EV K.EC_size run_bldDz
def bldEz (a : Array (Nat × Value)) : Sem Value := Instr.build 36 a
theorem bldEz_eq (a : Array (Nat × Value)) : Instr.build 36 a = bldEz a := rfl
theorem run_bldEz (w : World) : (bldEz #[]).run Tryz.prog w = .ok (K.EV K.en0) w := by kernel_rfl
attribute [local go_sem ↓] bldEz_eq
attribute [local go_sem] run_bldEz
set_option maxRecDepth 100000 in
set_option maxHeartbeats 1600000 in
theorem addOf_any (ao : Option Addr) (n c : Nat) (L : List K.En) (d : Rn) (w : World) (hS : K.ESrc w ao n c L) (hc : K.chk L = 0) :
  Calls Tryz.prog 31 #[.slice ao n c, RV d] w fun x w' => ∃ e b, x = .returned (.tuple #[K.EV e, .bool b]) ∧ AoD L d e b ∧ Below w.heap.size w w' := by
 have b1 := below_new w (.cells (RC d) 32)
 have X1 := box_new w 32 d
 have z1 : (w.alloc (.cells (RC d) 32)).heap.size = w.heap.size + 1 := by simp
 obtain ⟨w1, hw1⟩ : ∃ w1, w.alloc (.cells (RC d) 32) = w1 := ⟨_, rfl⟩
 rw [hw1] at b1 X1 z1
 have b2 := below_new w1 (.cells (K.EC K.en0) 36)
 have X2 := K.box_new w1 36 K.en0
 obtain ⟨wk, hwk⟩ : ∃ wk, w1.alloc (.cells (K.EC K.en0) 36) = wk := ⟨_, rfl⟩
 obtain ⟨G, hG⟩ : ∃ G, w.heap.size = G := ⟨_, rfl⟩
 rw [hwk] at b2 X2
 rw [z1, hG] at X2
 rw [hG] at X1
 have HX := hide (X1.below b2)
 have HY := hide X2
 have HBK := hide (b1.trans (b2.mono b1.size))
 have HS := hide (hS.below HBK.out)
 have HC := hide hc
 have HGs : Hid (w.heap.size = G) := hG
 clear b1 X1 b2 X2 hS hc
 have ld := run_ldD HX.out.at
 go_enter Tryz.func31, Tryz.ntmps31
 go_wp2_with fail
 clear hw1 hwk z1 hG
 refine (bsE_any ao n c L d _ HS.out (fun a b hab hb hn => nrE_mono HC.out a b hab (by rw [HS.out.1]; exact hb) hn)).mono ?_
 rintro e w3 ⟨i, b, rfl, hF, hb, b3⟩
 have HB3 := hide (HBK.out.trans (b3.mono HBK.out.size))
 have HY3 := hide (HY.out.below b3)
 have HS3 := hide (HS.out.below b3)
 have HF := hide hF
 clear b3 ld hF
 cases b with
 | false =>
  have hno : ¬ (i < n ∧ nrE (L.getD i K.en0) d = 0) := fun h => by have := hb.2 h; cases this
  have HD : Hid (AoD L d K.en0 false) := .inr ⟨rfl, rfl, first_not HC.out HS.out.1 HF.out hno⟩
  have st := K.run_st28 (e' := K.en0) HY3.out
  have HZ := hide (HY3.out.setRow (e' := K.en0))
  have HBz := hide (below_setRow (cs := K.EC K.en0) HB3.out (show w.heap.size ≤ G + 1 by rw [HGs.out]; omega))
  clear hb hno
  go_wp2_with fail
  clear st
  refine bodyPost_ret (K.resF rfl rfl rfl HZ.out) rfl ?_
  exact ⟨_, _, rfl, HD.out, HBz.out⟩
 | true =>
  obtain ⟨hi, h0⟩ := hb.1 rfl
  obtain ⟨ad, hao, A0⟩ := HS3.out.at i hi
  subst hao
  have hii : (i : Int) < (n : Int) := by omega
  have HD : Hid (AoD L d (L.getD i K.en0) true) := .inl ⟨rfl, getE_mem (by rw [HS.out.1]; exact hi), (nrE_zero _ _).1 h0⟩
  obtain ⟨y, Hy⟩ : ∃ y, Hid (L.getD i K.en0 = y) := ⟨_, rfl⟩
  rw [Hy.out] at A0 HD
  have hld := K.run_ld28 A0
  have st := K.run_st28 (e' := y) HY3.out
  have HZ := hide (HY3.out.setRow (e' := y))
  have HBz := hide (below_setRow (cs := K.EC y) HB3.out (show w.heap.size ≤ G + 1 by rw [HGs.out]; omega))
  clear hb h0 A0
  go_wp2_with fail
  clear st hld
  refine bodyPost_ret (K.resF rfl rfl rfl HZ.out) rfl ?_
  exact ⟨_, _, rfl, HD.out, HBz.out⟩
theorem ao_cl {e y : K.En} {g : Fc} {b : Bool} (hc : K.chk g.es = 0) (h : AoD g.es (dotE e) y b) : (b = false → ¬ ClE e g) ∧ (b = true → dotE y = dotE e ∧ (ClE e g ↔ K.eqE y e = false)) := by
 have key : ∀ {x z : K.En}, dotE x = dotE z ↔ K.sameDot x z = true := fun {x z} => by
  unfold dotE K.sameDot
  simp only [Rn.mk.injEq, Bool.and_eq_true, beq_iff_eq]
 rcases h with ⟨rfl, hm, hd⟩ | ⟨rfl, -, hn⟩
 ·refine ⟨fun h => (by cases h), fun _ => ⟨hd, ?_, fun h => ⟨y, hm, key.1 hd, fun e2 => by rw [(eqE_iff2 _ _).2 e2] at h; cases h⟩⟩⟩
  rintro ⟨z, hz, hsd, hne⟩
  have h1 : dotOf z = dotOf y := by
   have h2 := key.2 hsd
   rw [← hd] at h2
   exact h2
  have := dot_one hc hz hm h1
  subst this
  cases hq : K.eqE z e with
  | false => rfl
  | true => exact absurd ((eqE_iff2 _ _).1 hq) hne
 ·refine ⟨fun _ => ?_, fun h => (by cases h)⟩
  rintro ⟨z, hz, hsd, -⟩
  exact hn z hz (key.2 hsd)
set_option maxRecDepth 100000 in
set_option maxHeartbeats 6400000 in
theorem tClash_any (f g : Fc) (w : World) (hF : FcOk w f) (hG : FcOk w g) :
  Calls Tryz.prog 10 #[FaV (mkF f), FaV (mkF g)] w fun e w' => ClA w w' e f g := by
 obtain ⟨wk, hwk, HX, HY, HZ, HBK⟩ := box3D w f g
 have HF := hide (hF.below HBK.out)
 have HG := hide (hG.below HBK.out)
 clear hF hG
 obtain ⟨G, hG0⟩ : ∃ G, w.heap.size = G := ⟨_, rfl⟩
 rw [hG0] at HX HY HZ
 have HGs : Hid (w.heap.size = G) := hG0
 have lf := run_ldFa HX.out
 have lg := run_ldFa HY.out
 go_enter Tryz.func10, Tryz.ntmps10
 go_wp2_with fail
 clear hwk hG0
 refine (checkBoth_any f g _ HF.out HG.out).mono ?_
 rintro e w2 ⟨x, rfl, hx, b2⟩
 have HB2 := hide b2
 clear b2 lf lg
 rcases hx with ⟨rfl, h1, h2⟩ | ⟨rfl, h1⟩
 rotate_left
 ·have st0 := run_stD (r' := rn0) (HZ.out.below HB2.out)
  have HE := hide (give_cl (w := w) (d := rn0) (b := false) (HZ.out.below HB2.out) (HBK.out.trans (HB2.out.mono HBK.out.size)) (by rw [HGs.out]; omega) (.inl ⟨h1, rfl, rfl⟩ : ClOf f g rn0 false))
  clear h1
  go_wp2_with fail
  clear st0
  refine bodyPost_ret (resD2 rfl rfl rfl HE.out.1) rfl ?_
  exact HE.out.2
 have H1 := hide h1
 have H2 := hide h2
 clear h1 h2
 have HCg : Hid (K.chk g.es = 0) := (chk_okN HG.out.es.1).2 H2.out.1
 have hanb : f.an ≤ 3518437208883 := HF.out.es.2.2.2.2
 obtain ⟨c0, c3⟩ := (HX.out.below HB2.out).cs
 go_wp2_with fail
 clear c0 c3
 go_loopw [18] (fun i wr => ∃ k : Nat, k ≤ f.an ∧ i = .int .i64 (k : Int) ∧ Hid (∀ j, j < k → ¬ ClE (f.es.getD j K.en0) g) ∧ Hid (Below wk.heap.size wk wr)) (fun i _ => f.an - (intOf i).toNat)
 case atStart => exact ⟨0, Nat.zero_le _, rfl, (fun j hj => absurd hj (Nat.not_lt_zero j)), HB2.out⟩
 case round =>
  obtain ⟨k, hk, rfl, HK, HB⟩ := hrel
  rename World => wr
  clear HB2
  by_cases hlt : k < f.an
  ·have hlti : (k : Int) < (f.an : Int) := by omega
   obtain ⟨ad, hao, A0⟩ := (HF.out.es.below HB.out).at k hlt
   obtain ⟨e, He⟩ : ∃ e, Hid (f.es.getD k K.en0 = e) := ⟨_, rfl⟩
   rw [He.out] at A0
   have hld := K.run_ld28 A0
   obtain ⟨g3, hg3⟩ : ∃ g3, wr.heap.size = g3 := ⟨_, rfl⟩
   obtain ⟨w3, hst, X3, B3, -⟩ := K.made wr e g3 hg3
   have HX3 := hide X3
   have HB3 := hide (HB.out.trans (B3.mono HB.out.size))
   have Hlt := hide hlt
   obtain ⟨d0, d3⟩ := (HY.out.below HB3.out).cs
   have ldd : (ldD (.pointer (some ⟨g3, 0, none⟩))).run Tryz.prog w3 = .ok (RV (dotE e)) w3 := run_ldD ⟨X3.at.c0, X3.at.c1⟩
   rw [hao]
   clear A0 X3 B3 hlt hk d3
   go_wp2_with fail
   clear hld hst hg3 d0 ldd
   refine (addOf_any g.ao g.an g.ac g.es (dotE e) _ (HG.out.es.below HB3.out) HCg.out).mono ?_
   rintro x w4 ⟨y, b, rfl, hA, b4⟩
   obtain ⟨hneg, hpos⟩ := ao_cl HCg.out hA
   obtain ⟨g5, hg5⟩ : ∃ g5, w4.heap.size = g5 := ⟨_, rfl⟩
   obtain ⟨w5, hst, X5, B5, -⟩ := K.made w4 y g5 hg5
   have b35 := b4.trans (B5.mono b4.size)
   have HB5 := hide (HB3.out.trans (b35.mono HB3.out.size))
   have HX5 := hide X5
   have HX35 := hide (HX3.out.below b35)
   have l5 := K.run_ld28 X5.at
   have l3 := K.run_ld28 HX35.out.at
   clear hA b4 X5 B5 b35
   cases b with
   | false =>
    have HN : Hid (∀ j, j < k + 1 → ¬ ClE (f.es.getD j K.en0) g) := fun j hj => by
     by_cases e2 : j = k
     ·rw [e2, He.out]; exact hneg rfl
     ·exact HK.out j (by omega)
    clear hneg hpos
    go_wp2_with fail
    clear hst l5 l3
    go_roundw
    case rel => exact ⟨k + 1, Hlt.out, by simp, HN.out, HB5.out⟩
    case measure => simp [intOf]; have := Hlt.out; omega
   | true =>
    obtain ⟨hdy, hcl⟩ := hpos rfl
    obtain ⟨q, hq⟩ : ∃ q, K.eqE y e = q := ⟨_, rfl⟩
    have leq : ∀ W : World, (Op.equalIn 10000 36 (K.EV y) (K.EV e)).run Tryz.prog W = .ok q W := fun W => by rw [← hq]; exact K.run_eq28 y e W
    rw [hq] at hcl
    have Hcl := hide hcl
    clear hneg hpos hcl hq
    cases q with
    | true =>
     have HN : Hid (∀ j, j < k + 1 → ¬ ClE (f.es.getD j K.en0) g) := fun j hj => by
      by_cases e2 : j = k
      ·rw [e2, He.out]; exact fun h => by have := Hcl.out.1 h; cases this
      ·exact HK.out j (by omega)
     clear hdy
     go_wp2_with fail
     clear hst l5 l3 leq
     go_roundw
     case rel => exact ⟨k + 1, Hlt.out, by simp, HN.out, HB5.out⟩
     case measure => simp [intOf]; have := Hlt.out; omega
    | false =>
     have l6 : (ldD (.pointer (some ⟨g3, 0, none⟩))).run Tryz.prog w5 = .ok (RV (dotE e)) w5 := run_ldD ⟨HX35.out.at.c0, HX35.out.at.c1⟩
     have stz := run_stD (r' := dotE e) (HZ.out.below HB5.out)
     have HE := hide (give_cl (w := w) (d := dotE e) (b := true) (HZ.out.below HB5.out) (HBK.out.trans (HB5.out.mono HBK.out.size)) (by rw [HGs.out]; omega) (.inr ⟨H1.out, H2.out, .inr ⟨rfl, k, Hlt.out, by rw [He.out]; exact Hcl.out.2 rfl, HK.out, by rw [He.out]⟩⟩ : ClOf f g (dotE e) true))
     clear hdy
     go_wp2_with fail
     clear hst l5 l3 leq l6 stz
     refine bodyPost_ret (resD2 rfl rfl rfl HE.out.1) rfl ?_
     exact HE.out.2
  ·have hlti : ¬ (k : Int) < (f.an : Int) := by omega
   have hkk : k = f.an := by omega
   have st0 := run_stD (r' := rn0) (HZ.out.below HB.out)
   have HE := hide (give_cl (w := w) (d := rn0) (b := false) (HZ.out.below HB.out) (HBK.out.trans (HB.out.mono HBK.out.size)) (by rw [HGs.out]; omega) (.inr ⟨H1.out, H2.out, .inl ⟨rfl, rfl, by rw [← hkk]; exact HK.out⟩⟩ : ClOf f g rn0 false))
   go_wp2_with fail
   clear st0
   refine bodyPost_ret (resD2 rfl rfl rfl HE.out.1) rfl ?_
   exact HE.out.2
end Go.Proofs.YtalpnhfoaohhhaaGreat
