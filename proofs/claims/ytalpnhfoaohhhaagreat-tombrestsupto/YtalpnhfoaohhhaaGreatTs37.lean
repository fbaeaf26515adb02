/- TAo TRb -/
import Derived.Test.YtalpnhfoaohhhaaGreatTk
import Derived.Test.YtalpnhfoaohhhaaGreatTs36
import Derived.Test.YtalpnhfoaohhhaaGreatTs34
import Derived.Test.YtalpnhfoaohhhaaGreatTs33
import Derived.Test.YtalpnhfoaohhhaaGreatTs26
import Derived.Deep.CutRange
namespace Go.Proofs.YtalpnhfoaohhhaaGreat
open Go.RowKit
theorem nrE_zero (s : K.En) (d : Rn) : nrE s d = 0 ↔ dotE s = d := by
 unfold nrE or2 cmpI dotE
 obtain ⟨lo, hi⟩ := d
 simp only [Rn.mk.injEq]
 by_cases h1 : s.rep < lo
 ·simp [h1]; omega
 ·by_cases h2 : lo < s.rep
  ·simp [h1, h2]; omega
  ·have h3 : s.rep = lo := by omega
   by_cases h4 : s.num < hi
   ·simp [h3, h4]; omega
   ·by_cases h5 : hi < s.num
    ·simp [h3, h4, h5]; omega
    ·simp [h3, h4, h5]; omega
theorem nrE_ahead {x y : K.En} {d : Rn} (h : K.ahead x y = true) (hy : nrE y d ≤ 0) : nrE x d < 0 := by
 rw [nrE_neg]
 unfold K.ahead at h
 simp only [Bool.or_eq_true, Bool.and_eq_true, decide_eq_true_eq, beq_iff_eq] at h
 by_cases h0 : nrE y d = 0
 ·have := (nrE_zero y d).1 h0
  subst this
  unfold dotE
  dsimp only
  omega
 ·have := (nrE_neg y d).1 (by omega)
  omega
theorem asc_at {L : List K.En} (h : K.chk L = 0) {i j : Nat} (hij : i < j) (hj : j < L.length) : K.ahead (L.getD i K.en0) (L.getD j K.en0) = true := by
 have := List.pairwise_iff_getElem.1 (K.chk_asc' h) i j (by omega) hj hij
 rw [List.getD_eq_getElem?_getD, List.getElem?_eq_getElem (by omega), List.getD_eq_getElem?_getD, List.getElem?_eq_getElem hj]
 exact this
theorem nrE_mono {L : List K.En} {d : Rn} (h : K.chk L = 0) (a b : Nat) (hab : a ≤ b) (hb : b < L.length) (hn : nrE (L.getD b K.en0) d < 0) : nrE (L.getD a K.en0) d < 0 := by
 by_cases e : a = b
 ·rw [e]; exact hn
 ·exact nrE_ahead (asc_at h (by omega) hb) (by omega)
def AoD (L : List K.En) (d : Rn) (e : K.En) (b : Bool) : Prop := (b = true ∧ e ∈ L ∧ dotE e = d) ∨ (b = false ∧ e = K.en0 ∧ ∀ y ∈ L, dotE y ≠ d)
theorem first_not {L : List K.En} {d : Rn} {n i : Nat} (hc : K.chk L = 0) (hl : L.length = n) (hF : FirstE L d n i) (hb : ¬ (i < n ∧ nrE (L.getD i K.en0) d = 0)) : ∀ y ∈ L, dotE y ≠ d := by
 intro y hy e
 obtain ⟨j, hj, rfl⟩ := List.getElem_of_mem hy
 have e0 : L.getD j K.en0 = L[j] := by rw [List.getD_eq_getElem?_getD, List.getElem?_eq_getElem hj]; rfl
 have h0 : nrE (L.getD j K.en0) d = 0 := by rw [e0]; exact (nrE_zero _ _).2 e
 rcases Nat.lt_trichotomy j i with q | q | q
 ·have := hF.2.1 j q; omega
 ·subst q; exact hb ⟨by omega, h0⟩
 ·have h1 := nrE_ahead (d := d) (asc_at hc q hj) (by omega)
  have := hF.2.2 (by omega)
  omega
attribute [local go_sem ↓] ldFa_eq stFa_eq ldD_eq stD_eq K.ld28_eq K.st28_eq bldDz_eq
attribute [local go_sem] cells_FaV FaC_size cells_RV RC_size zero_RC fold_RC K.zero_EC K.cells_EV K.EC_size run_bldDz
def bldEz (a : Array (Nat × Value)) : Sem Value := Instr.build 36 a
theorem bldEz_eq (a : Array (Nat × Value)) : Instr.build 36 a = bldEz a := rfl
theorem run_bldEz (w : World) : (bldEz #[]).run Tryz.prog w = .ok (K.EV K.en0) w := by kernel_rfl
attribute [local go_sem ↓] bldEz_eq
attribute [local go_sem] run_bldEz
set_option maxRecDepth 100000 in
set_option maxHeartbeats 1600000 in
theorem addOf_any (ao : Option Addr) (n c : Nat) (L : List K.En) (d : Rn) (w : World) (hS : K.ESrc w ao n c L) (hc : K.chk L = 0) :
  Calls Tryz.prog 31 #[.slice ao n c, RV d] w fun x w' => ∃ e b, x = .returned (.tuple #[K.EV e, .bool b]) ∧ AoD L d e b ∧ Below w.heap.size w w' := by
 have b1 := below_new w (.cells (RC d) 32)
 have X1 := box_new w 32 d
 have z1 : (w.alloc (.cells (RC d) 32)).heap.size = w.heap.size + 1 := by simp
 obtain ⟨w1, hw1⟩ : ∃ w1, w.alloc (.cells (RC d) 32) = w1 := ⟨_, rfl⟩
 rw [hw1] at b1 X1 z1
 have b2 := below_new w1 (.cells (K.EC K.en0) 36)
 have X2 := K.box_new w1 36 K.en0
 obtain ⟨wk, hwk⟩ : ∃ wk, w1.alloc (.cells (K.EC K.en0) 36) = wk := ⟨_, rfl⟩
 obtain ⟨G, hG⟩ : ∃ G, w.heap.size = G := ⟨_, rfl⟩
 rw [hwk] at b2 X2
 rw [z1, hG] at X2
 rw [hG] at X1
 have HX := hide (X1.below b2)
 have HY := hide X2
 have HBK := hide (b1.trans (b2.mono b1.size))
 have HS := hide (hS.below HBK.out)
 have HC := hide hc
 have HGs : Hid (w.heap.size = G) := hG
 clear b1 X1 b2 X2 hS hc
 have ld := run_ldD HX.out.at
 go_enter Tryz.func31, Tryz.ntmps31
 go_wp2_with fail
 clear hw1 hwk z1 hG
 refine (bsE_any ao n c L d _ HS.out (fun a b hab hb hn => nrE_mono HC.out a b hab (by rw [HS.out.1]; exact hb) hn)).mono ?_
 rintro e w3 ⟨i, b, rfl, hF, hb, b3⟩
 have HB3 := hide (HBK.out.trans (b3.mono HBK.out.size))
 have HY3 := hide (HY.out.below b3)
 have HS3 := hide (HS.out.below b3)
 have HF := hide hF
 clear b3 ld hF
 cases b with
 | false =>
  have hno : ¬ (i < n ∧ nrE (L.getD i K.en0) d = 0) := fun h => by have := hb.2 h; cases this
  have HD : Hid (AoD L d K.en0 false) := .inr ⟨rfl, rfl, first_not HC.out HS.out.1 HF.out hno⟩
  have st := K.run_st28 (e' := K.en0) HY3.out
  have HZ := hide (HY3.out.setRow (e' := K.en0))
  have HBz := hide (below_setRow (cs := K.EC K.en0) HB3.out (show w.heap.size ≤ G + 1 by rw [HGs.out]; omega))
  clear hb hno
  go_wp2_with fail
  clear st
  refine bodyPost_ret (K.resF rfl rfl rfl HZ.out) rfl ?_
  exact ⟨_, _, rfl, HD.out, HBz.out⟩
 | true =>
  obtain ⟨hi, h0⟩ := hb.1 rfl
  obtain ⟨ad, hao, A0⟩ := HS3.out.at i hi
  subst hao
  have hii : (i : Int) < (n : Int) := by omega
  have HD : Hid (AoD L d (L.getD i K.en0) true) := .inl ⟨rfl, getE_mem (by rw [HS.out.1]; exact hi), (nrE_zero _ _).1 h0⟩
  obtain ⟨y, Hy⟩ : ∃ y, Hid (L.getD i K.en0 = y) := ⟨_, rfl⟩
  rw [Hy.out] at A0 HD
  have hld := K.run_ld28 A0
  have st := K.run_st28 (e' := y) HY3.out
  have HZ := hide (HY3.out.setRow (e' := y))
  have HBz := hide (below_setRow (cs := K.EC y) HB3.out (show w.heap.size ≤ G + 1 by rw [HGs.out]; omega))
  clear hb h0 A0
  go_wp2_with fail
  clear st hld
  refine bodyPost_ret (K.resF rfl rfl rfl HZ.out) rfl ?_
  exact ⟨_, _, rfl, HD.out, HBz.out⟩
end Go.Proofs.YtalpnhfoaohhhaaGreat
namespace Go.Proofs.YtalpnhfoaohhhaaGreat
open Go.RowKit
attribute [local go_sem ↓] ldRe_eq stRe_eq
attribute [local go_sem] cells_ReV ReC_size zero_ReC
variable {w w' w2 W W' : World} {g : Nat}

def rcC (s d : Rc) : Int := ck (rck s) (rck d)
theorem rcC_any (a b : Rc) (w : World) (hA : RcOk w a) (hB : RcOk w b) (fa : InForm a.p.P) (fb : InForm b.p.P) : Calls Tryz.prog 67 #[ReV (mkR a), ReV (mkR b)] w fun e w' => e = .returned (.int .i64 (rcC a b)) ∧ Below w.heap.size w w' := by
 refine (keepCompare_any a b w hA hB).mono ?_
 rintro e w' ⟨z, rfl, hz, hb⟩
 exact ⟨by rw [cmpR_ck fa fb hz]; rfl, hb⟩
def FirstC (L : List Rc) (d : Rc) (n i : Nat) : Prop := i ≤ n ∧ (∀ j, j < i → rcC (L.getD j rc0) d < 0) ∧ (i < n → 0 ≤ rcC (L.getD i rc0) d)
def BsC (w w' : World) (e : Ending) (L : List Rc) (d : Rc) (n : Nat) : Prop := ∃ (i : Nat) (b : Bool), e = .returned (.tuple #[.int .i64 (i : Int), .bool b]) ∧ FirstC L d n i ∧ (b = true ↔ i < n ∧ rcC (L.getD i rc0) d = 0) ∧ Below w.heap.size w w'
set_option maxRecDepth 100000 in
set_option maxHeartbeats 3200000 in
theorem bsC_any (ao : Option Addr) (n cap : Nat) (L : List Rc) (d : Rc) (w : World) (hS : RcS w ao n cap L) (hd : RcOk w d) (hf : ∀ r ∈ L, InForm r.p.P) (hfd : InForm d.p.P) (hm : ∀ a b, a ≤ b → b < n → rcC (L.getD b rc0) d < 0 → rcC (L.getD a rc0) d < 0) :
  Calls Tryz.prog 112 #[.slice ao n cap, ReV (mkR d), .func (.func 67) #[] #[]] w fun e w' => BsC w w' e L d n := by
 have hcf : ∀ (args : Array Value) (w : World), (callFunc 67 args).run Tryz.prog w = .ok (.enter 67 args) w := fun _ _ => rfl
 have b1 := below_new w (.cells (ReC (mkR d)) 62)
 have x1 := ReBox_new w (mkR d)
 obtain ⟨w1, hw1⟩ : ∃ w1, w.alloc (.cells (ReC (mkR d)) 62) = w1 := ⟨_, rfl⟩
 obtain ⟨g1, hg1⟩ : ∃ g1, w.heap.size = g1 := ⟨_, rfl⟩
 rw [hw1] at b1 x1
 rw [hg1] at x1
 have HB1 := hide b1
 have HX : Hid (ReBox w1 g1 (mkR d) ∧ RcS w1 ao n cap L) := ⟨x1, hS.below b1⟩
 have HD : Hid (RcOk w1 d ∧ InForm d.p.P ∧ ∀ r ∈ L, InForm r.p.P) := ⟨hd.below b1, hfd, hf⟩
 have HLn : Hid (L.length = n) := hS.len
 have hnb : n ≤ 2199023255552 := hS.big
 have HM := hide hm
 clear b1 x1 hS hm hd hf hfd
 go_enter Tryz.func112, Tryz.ntmps112
 go_wp2_with fail
 clear hw1 hg1
 go_loopw [9, 10] (fun a b wr => ∃ (lo hi : Nat), a = .int .i64 (lo : Int) ∧ b = .int .i64 (hi : Int) ∧ lo ≤ hi ∧ hi ≤ n ∧ Hid (Below w1.heap.size w1 wr ∧ (∀ j, j < lo → rcC (L.getD j rc0) d < 0) ∧ (hi < n → 0 ≤ rcC (L.getD hi rc0) d))) (fun a b _ => (intOf b).toNat - (intOf a).toNat)
 case atStart => exact ⟨0, n, rfl, rfl, Nat.zero_le _, Nat.le_refl _, Below.refl _ _, (fun j hj => by omega), fun h => by omega⟩
 case round =>
  obtain ⟨lo, hi, rfl, rfl, hlh, hhn, HI⟩ := hrel
  rename World => wr
  by_cases hlt : lo < hi
  ·have hlti : (lo : Int) < (hi : Int) := by omega
   obtain ⟨h, hh⟩ : ∃ h : Nat, (lo + hi) / 2 = h := ⟨_, rfl⟩
   have hlb : lo ≤ 2199023255552 := by omega
   have hhb : hi ≤ 2199023255552 := by omega
   obtain ⟨t, ht⟩ : ∃ t : Nat, lo + hi = t := ⟨_, rfl⟩
   have et : (lo : Int) + (hi : Int) = (t : Int) := by omega
   have e2 : (t : Int) / 2 = (h : Int) := by omega
   have e3 : t / 2 = h := by omega
   have HH : Hid (lo ≤ h ∧ h < hi ∧ h < n) := ⟨by omega, by omega, by omega⟩
   have htb : t ≤ 20000000000000 := by omega
   obtain ⟨ad, rfl, A0⟩ := (HX.out.2.below HI.out.1).at h HH.out.2.2
   obtain ⟨s, Hs⟩ : ∃ s, Hid (L.getD h rc0 = s) := ⟨_, rfl⟩
   have HSt : Hid (∀ W, Below wr.heap.size wr W → (ldRe (.pointer (some (ad.add (h * 3))))).run Tryz.prog W = .ok (ReV (mkR s)) W ∧ (ldRe (.pointer (some ⟨g1, 0, none⟩))).run Tryz.prog W = .ok (ReV (mkR d)) W) := fun W hW => by
    obtain ⟨ad', e', A1⟩ := ((HX.out.2.below HI.out.1).below hW).at h HH.out.2.2
    obtain rfl := Option.some.inj e'
    rw [Hs.out] at A1
    exact ⟨run_laRe A1, run_ldRe ((HX.out.1.below HI.out.1).below hW)⟩
   have hhi : (h : Int) < (n : Int) := by have := HH.out; omega
   have HKs : Hid (RcOk wr s) := by rw [← Hs.out]; exact (HX.out.2.below HI.out.1).okAt h HH.out.2.2
   have HFs : Hid (InForm s.p.P) := by rw [← Hs.out]; exact HD.out.2.2 _ (rcD_mem (by rw [HLn.out]; exact HH.out.2.2))
   clear A0 hh ht
   go_upto_region 5 with fail
   clear et e2 e3
   refine wp_region_held_drew (S := fun W => (ldRe (.pointer (some (ad.add (h * 3))))).run Tryz.prog W = .ok (ReV (mkR s)) W ∧ (ldRe (.pointer (some ⟨g1, 0, none⟩))).run Tryz.prog W = .ok (ReV (mkR d)) W) (by kernel_rfl) (HSt.out _ (below_drew1 wr)) (fun hHeld => ?_)
   refine wTk 0 ⟨some 24, .move (.tmp 2), 90, "sort.go:160", #[], none⟩ rfl ?_
   refine wTk 1 ⟨some 25, .move (.tmp 0), 27, "sort.go:160", #[], none⟩ rfl ?_
   refine wTk 2 ⟨some 26, .move (.tmp 11), 3, "sort.go:160", #[], none⟩ rfl ?_
   refine wTk 3 ⟨some 27, .indexAddr 27 (.tmp 25) (.tmp 26), 0, "sort.go:160", #[⟨1, .data⟩, ⟨2, .data⟩], none⟩ rfl ?_
   refine wTk 4 ⟨some 28, .load 62 (.tmp 27), 62, "sort.go:160", #[⟨3, .data⟩], none⟩ rfl ?_
   refine wTk 5 ⟨some 29, .load 62 (.tmp 4), 62, "sort.go:160", #[], none⟩ rfl ?_
   refine wpAnyH_ready (rs := [6]) (by kernel_rfl) (by simp) (.cons rfl (fun K hK => ?_) .nil)
   go_simp
   go_wp2_with fail
   refine (rcC_any s d _ (HKs.out.below (below_drew1 wr)) ((HD.out.1.below HI.out.1).below (below_drew1 wr)) HFs.out HD.out.2.1).mono ?_
   rintro e w3 ⟨rfl, b3⟩
   have hB3 : Below wr.heap.size wr w3 := (below_drew1 wr).trans b3
   have HB3 := hide (HI.out.1.trans (hB3.mono HI.out.1.size))
   refine hK.out _ _ (HSt.out _ hB3) (fun hHeld => ?_)
   clear hK K b3 hB3
   obtain ⟨z, hz⟩ : ∃ z, rcC s d = z := ⟨_, rfl⟩
   rw [hz]
   refine wTk 7 ⟨some 31, .binOp .lss 3 (.tmp 30) (.const (.int .i64 0)) 3, 4, "sort.go:160", #[⟨6, .data⟩], none⟩ rfl ?_
   refine wpAnyH_done (by kernel_rfl) ?_ _
   clear hHeld
   by_cases hz0 : z < 0
   ·have HN : Hid (∀ j, j < h + 1 → rcC (L.getD j rc0) d < 0) := fun j hj => HM.out j h (by omega) HH.out.2.2 (by rw [Hs.out, hz]; exact hz0)
    clear hz
    go_wp2_with fail
    go_roundw
    case rel => exact ⟨h + 1, hi, by simp, rfl, by have := HH.out; omega, hhn, HB3.out, HN.out, HI.out.2.2⟩
    case measure => simp [intOf]; have := HH.out; omega
   ·have HN : Hid (h < n → 0 ≤ rcC (L.getD h rc0) d) := fun _ => by rw [Hs.out, hz]; omega
    clear hz
    go_wp2_with fail
    go_roundw
    case rel => exact ⟨lo, h, rfl, rfl, HH.out.1, by have := HH.out; omega, HB3.out, HI.out.2.1, HN.out⟩
    case measure => simp [intOf]; have := HH.out; omega
  ·have hlti : ¬ (lo : Int) < (hi : Int) := by omega
   obtain rfl : lo = hi := by omega
   have HF : Hid (FirstC L d n lo) := ⟨hhn, HI.out.2.1, HI.out.2.2⟩
   have HBw := hide (HB1.out.trans (HI.out.1.mono HB1.out.size))
   by_cases hln : lo < n
   ·have hlni : (lo : Int) < (n : Int) := by omega
    obtain ⟨ad, rfl, A0⟩ := (HX.out.2.below HI.out.1).at lo hln
    obtain ⟨s, Hs⟩ : ∃ s, Hid (L.getD lo rc0 = s) := ⟨_, rfl⟩
    have HSt : Hid (∀ W, Below wr.heap.size wr W → (ldRe (.pointer (some (ad.add (lo * 3))))).run Tryz.prog W = .ok (ReV (mkR s)) W ∧ (ldRe (.pointer (some ⟨g1, 0, none⟩))).run Tryz.prog W = .ok (ReV (mkR d)) W) := fun W hW => by
     obtain ⟨ad', e', A1⟩ := ((HX.out.2.below HI.out.1).below hW).at lo hln
     obtain rfl := Option.some.inj e'
     rw [Hs.out] at A1
     exact ⟨run_laRe A1, run_ldRe ((HX.out.1.below HI.out.1).below hW)⟩
    have HKs : Hid (RcOk wr s) := by rw [← Hs.out]; exact (HX.out.2.below HI.out.1).okAt lo hln
    have HFs : Hid (InForm s.p.P) := by rw [← Hs.out]; exact HD.out.2.2 _ (rcD_mem (by rw [HLn.out]; exact hln))
    clear A0
    go_upto_region 8 with fail
    refine wp_region_held_drew (S := fun W => (ldRe (.pointer (some (ad.add (lo * 3))))).run Tryz.prog W = .ok (ReV (mkR s)) W ∧ (ldRe (.pointer (some ⟨g1, 0, none⟩))).run Tryz.prog W = .ok (ReV (mkR d)) W) (by kernel_rfl) (HSt.out _ (below_drew1 wr)) (fun hHeld => ?_)
    refine wTk 0 ⟨some 35, .move (.tmp 9), 3, "sort.go:167", #[], none⟩ rfl ?_
    refine wTk 1 ⟨some 36, .move (.tmp 9), 3, "sort.go:167", #[], none⟩ rfl ?_
    refine wTk 2 ⟨some 37, .move (.tmp 8), 3, "sort.go:167", #[], none⟩ rfl ?_
    refine wTk 3 ⟨some 38, .binOp .lss 3 (.tmp 36) (.tmp 37) 3, 4, "sort.go:167", #[⟨1, .data⟩, ⟨2, .data⟩], none⟩ rfl ?_
    refine wTk 4 ⟨some 39, .move (.tmp 38), 4, "sort.go:167", #[⟨3, .data⟩], none⟩ rfl ?_
    refine wTk 5 ⟨some 40, .move (.tmp 2), 90, "sort.go:167", #[⟨4, .guard⟩], some (4, true)⟩ rfl ?_
    refine wTk 6 ⟨some 41, .move (.tmp 0), 27, "sort.go:167", #[⟨4, .guard⟩], some (4, true)⟩ rfl ?_
    refine wTk 7 ⟨some 42, .move (.tmp 9), 3, "sort.go:167", #[⟨4, .guard⟩], some (4, true)⟩ rfl ?_
    refine wTk 8 ⟨some 43, .indexAddr 27 (.tmp 41) (.tmp 42), 0, "sort.go:167", #[⟨6, .data⟩, ⟨7, .data⟩, ⟨4, .guard⟩], some (4, true)⟩ rfl ?_
    refine wTk 9 ⟨some 44, .load 62 (.tmp 43), 62, "sort.go:167", #[⟨8, .data⟩, ⟨4, .guard⟩], some (4, true)⟩ rfl ?_
    refine wTk 10 ⟨some 45, .load 62 (.tmp 4), 62, "sort.go:167", #[⟨4, .guard⟩], some (4, true)⟩ rfl ?_
    refine wpAnyH_ready (rs := [11]) (by kernel_rfl) (by simp) (.cons rfl (fun K hK => ?_) .nil)
    go_simp
    go_wp2_with fail
    refine (rcC_any s d _ (HKs.out.below (below_drew1 wr)) ((HD.out.1.below HI.out.1).below (below_drew1 wr)) HFs.out HD.out.2.1).mono ?_
    rintro e w3 ⟨rfl, b3⟩
    have hB3 : Below wr.heap.size wr w3 := (below_drew1 wr).trans b3
    have HB3 := hide (HBw.out.trans (hB3.mono HBw.out.size))
    refine hK.out _ _ (HSt.out _ hB3) (fun hHeld => ?_)
    clear hK K b3 hB3
    obtain ⟨z, hz⟩ : ∃ z, rcC s d = z := ⟨_, rfl⟩
    rw [hz]
    have HZ0 : Hid (rcC (L.getD lo rc0) d = z) := by show _ = _; rw [Hs.out]; exact hz
    clear hz
    refine wTk 14 ⟨some 6, .assign (.tmp 35), 3, "sort.go:167", #[⟨0, .data⟩, ⟨11, .chain⟩, ⟨0, .phase⟩, ⟨1, .textOnly .lateStores⟩, ⟨2, .textOnly .lateStores⟩, ⟨3, .textOnly .lateStores⟩, ⟨4, .textOnly .lateStores⟩, ⟨5, .textOnly .lateStores⟩, ⟨6, .textOnly .lateStores⟩, ⟨7, .textOnly .lateStores⟩, ⟨8, .textOnly .lateStores⟩, ⟨9, .textOnly .lateStores⟩, ⟨10, .textOnly .lateStores⟩, ⟨11, .textOnly .lateStoresUnsure⟩, ⟨12, .textOnly .lateStores⟩, ⟨13, .textOnly .lateStores⟩], none⟩ rfl ?_
    refine wTk 12 ⟨some 47, .binOp .eql 3 (.tmp 46) (.const (.int .i64 0)) 3, 4, "sort.go:167", #[⟨11, .data⟩, ⟨4, .guard⟩, ⟨14, .gcOnly .lateStores⟩], some (4, true)⟩ rfl ?_
    refine wTk 13 ⟨some 48, .pick (.tmp 39) (.tmp 47) (.const (.bool false)), 4, "sort.go:167", #[⟨4, .data⟩, ⟨12, .data⟩, ⟨14, .gcOnly .lateStores⟩], none⟩ rfl ?_
    refine wTk 15 ⟨some 7, .assign (.tmp 48), 4, "sort.go:167", #[⟨13, .data⟩, ⟨14, .chain⟩, ⟨0, .phase⟩, ⟨1, .phase⟩, ⟨2, .phase⟩, ⟨3, .phase⟩, ⟨4, .phase⟩, ⟨5, .phase⟩, ⟨6, .phase⟩, ⟨7, .phase⟩, ⟨8, .phase⟩, ⟨9, .phase⟩, ⟨10, .phase⟩, ⟨11, .phase⟩, ⟨12, .phase⟩, ⟨13, .phase⟩, ⟨14, .phase⟩], none⟩ rfl ?_
    refine wpAnyH_done (by kernel_rfl) ?_ _
    clear hHeld
    go_wp2_with fail
    go_ret2
    exact ⟨lo, _, rfl, HF.out, by rw [HZ0.out]; simp [hln], HB3.out⟩
   ·have hlni : ¬ (lo : Int) < (n : Int) := by omega
    go_upto_region 8 with fail
    refine wp_region_held_drew (S := fun _ => True) (by kernel_rfl) (trivial) (fun hHeld => ?_)
    refine wTk 0 ⟨some 35, .move (.tmp 9), 3, "sort.go:167", #[], none⟩ rfl ?_
    refine wTk 1 ⟨some 36, .move (.tmp 9), 3, "sort.go:167", #[], none⟩ rfl ?_
    refine wTk 2 ⟨some 37, .move (.tmp 8), 3, "sort.go:167", #[], none⟩ rfl ?_
    refine wTk 3 ⟨some 38, .binOp .lss 3 (.tmp 36) (.tmp 37) 3, 4, "sort.go:167", #[⟨1, .data⟩, ⟨2, .data⟩], none⟩ rfl ?_
    refine wTk 4 ⟨some 39, .move (.tmp 38), 4, "sort.go:167", #[⟨3, .data⟩], none⟩ rfl ?_
    refine wSk 5 ⟨some 40, .move (.tmp 2), 90, "sort.go:167", #[⟨4, .guard⟩], some (4, true)⟩ rfl ?_
    refine wSk 6 ⟨some 41, .move (.tmp 0), 27, "sort.go:167", #[⟨4, .guard⟩], some (4, true)⟩ rfl ?_
    refine wSk 7 ⟨some 42, .move (.tmp 9), 3, "sort.go:167", #[⟨4, .guard⟩], some (4, true)⟩ rfl ?_
    refine wSk 8 ⟨some 43, .indexAddr 27 (.tmp 41) (.tmp 42), 0, "sort.go:167", #[⟨6, .data⟩, ⟨7, .data⟩, ⟨4, .guard⟩], some (4, true)⟩ rfl ?_
    refine wSk 9 ⟨some 44, .load 62 (.tmp 43), 62, "sort.go:167", #[⟨8, .data⟩, ⟨4, .guard⟩], some (4, true)⟩ rfl ?_
    refine wSk 10 ⟨some 45, .load 62 (.tmp 4), 62, "sort.go:167", #[⟨4, .guard⟩], some (4, true)⟩ rfl ?_
    refine wSk 11 ⟨some 46, .call ⟨.value (.tmp 40), #[.tmp 44, .tmp 45], #[62, 62]⟩, 3, "sort.go:167", #[⟨5, .data⟩, ⟨9, .data⟩, ⟨10, .data⟩, ⟨4, .chain⟩, ⟨4, .guard⟩], some (4, true)⟩ rfl ?_
    refine wSk 12 ⟨some 47, .binOp .eql 3 (.tmp 46) (.const (.int .i64 0)) 3, 4, "sort.go:167", #[⟨11, .data⟩, ⟨4, .guard⟩, ⟨14, .gcOnly .lateStores⟩], some (4, true)⟩ rfl ?_
    refine wTk 14 ⟨some 6, .assign (.tmp 35), 3, "sort.go:167", #[⟨0, .data⟩, ⟨11, .chain⟩, ⟨0, .phase⟩, ⟨1, .textOnly .lateStores⟩, ⟨2, .textOnly .lateStores⟩, ⟨3, .textOnly .lateStores⟩, ⟨4, .textOnly .lateStores⟩, ⟨5, .textOnly .lateStores⟩, ⟨6, .textOnly .lateStores⟩, ⟨7, .textOnly .lateStores⟩, ⟨8, .textOnly .lateStores⟩, ⟨9, .textOnly .lateStores⟩, ⟨10, .textOnly .lateStores⟩, ⟨11, .textOnly .lateStoresUnsure⟩, ⟨12, .textOnly .lateStores⟩, ⟨13, .textOnly .lateStores⟩], none⟩ rfl ?_
    refine wTk 13 ⟨some 48, .pick (.tmp 39) (.tmp 47) (.const (.bool false)), 4, "sort.go:167", #[⟨4, .data⟩, ⟨12, .data⟩, ⟨14, .gcOnly .lateStores⟩], none⟩ rfl ?_
    refine wTk 15 ⟨some 7, .assign (.tmp 48), 4, "sort.go:167", #[⟨13, .data⟩, ⟨14, .chain⟩, ⟨0, .phase⟩, ⟨1, .phase⟩, ⟨2, .phase⟩, ⟨3, .phase⟩, ⟨4, .phase⟩, ⟨5, .phase⟩, ⟨6, .phase⟩, ⟨7, .phase⟩, ⟨8, .phase⟩, ⟨9, .phase⟩, ⟨10, .phase⟩, ⟨11, .phase⟩, ⟨12, .phase⟩, ⟨13, .phase⟩, ⟨14, .phase⟩], none⟩ rfl ?_
    refine wpAnyH_done (by kernel_rfl) ?_ _
    clear hHeld
    go_wp2_with fail
    go_ret2
    exact ⟨lo, _, rfl, HF.out, by simp [hln], HBw.out.trans ((below_drew1 wr).mono HBw.out.size)⟩
end Go.Proofs.YtalpnhfoaohhhaaGreat
