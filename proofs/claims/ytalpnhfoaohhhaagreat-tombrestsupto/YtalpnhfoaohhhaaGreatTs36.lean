/- TOl TNe TEb -/
import Derived.Test.YtalpnhfoaohhhaaGreatTk
import Derived.Test.YtalpnhfoaohhhaaGreatTs34
import Derived.Test.YtalpnhfoaohhhaaGreatTs35
import Derived.Test.YtalpnhfoaohhhaaGreatTs17
import Derived.Test.YtalpnhfoaohhhaaGreatTs18
import Derived.Deep.CutRange
namespace Go.Proofs.YtalpnhfoaohhhaaGreat
open Go.RowKit
attribute [local go_sem ↓] ldFa_eq stFa_eq
attribute [local go_sem] cells_FaV FaC_size zero_FaZ
end Go.Proofs.YtalpnhfoaohhhaaGreat
namespace Go.Proofs.YtalpnhfoaohhhaaGreat
open Go.RowKit

def nrE (s : K.En) (d : Rn) : Int := or2 (cmpI s.rep d.lo) (cmpI s.num d.hi)
theorem nrE_neg (s : K.En) (d : Rn) : nrE s d < 0 ↔ s.rep < d.lo ∨ (s.rep = d.lo ∧ s.num < d.hi) := by
 unfold nrE or2 cmpI
 by_cases h1 : s.rep < d.lo
 ·simp [h1]
 ·by_cases h2 : d.lo < s.rep
  ·simp [h1, h2]; omega
  ·have h3 : s.rep = d.lo := by omega
   by_cases h4 : s.num < d.hi
   ·simp [h3, h4]
   ·by_cases h5 : d.hi < s.num <;> simp [h3, h4, h5]
set_option maxRecDepth 100000 in
set_option maxHeartbeats 1600000 in
theorem nrE_any (s : K.En) (d : Rn) (w : World) : Calls Tryz.prog 57 #[K.EV s, RV d] w fun e w' => e = .returned (.int .i64 (nrE s d)) ∧ Below w.heap.size w w' := by
 have b1 := below_new w (.cells (K.EC s) 36)
 have x1 := K.box_new w 36 s
 have s1 := World.size_alloc w (.cells (K.EC s) 36)
 obtain ⟨w1, hw1⟩ : ∃ w1, w.alloc (.cells (K.EC s) 36) = w1 := ⟨_, rfl⟩
 obtain ⟨g1, hg1⟩ : ∃ g1, w.heap.size = g1 := ⟨_, rfl⟩
 rw [hw1] at b1 x1 s1
 rw [hg1] at x1 s1
 have b2 := below_new w1 (.cells (RC d) 32)
 have x2 := box_new w1 32 d
 obtain ⟨w2, hw2⟩ : ∃ w2, w1.alloc (.cells (RC d) 32) = w2 := ⟨_, rfl⟩
 rw [hw2] at b2 x2
 rw [s1] at x2
 have HB := hide (b1.trans (b2.mono b1.size))
 have HX : Hid (K.Box w2 g1 36 s ∧ Box w2 (g1 + 1) 32 d) := ⟨x1.below b2, x2⟩
 have HSt : Hid (∀ W, Below w2.heap.size w2 W → W.cell? ⟨g1, 0, none⟩ = some (.int .i64 s.rep) ∧ W.cell? ⟨g1, 1, none⟩ = some (.int .i64 s.num) ∧ W.cell? ⟨g1 + 1, 0, none⟩ = some (.int .i64 d.lo) ∧ W.cell? ⟨g1 + 1, 1, none⟩ = some (.int .i64 d.hi)) := fun W hW => by
  obtain ⟨c0, c2⟩ : W.cell? ⟨g1, 0, none⟩ = some (.int .i64 s.rep) ∧ W.cell? ⟨g1, 1, none⟩ = some (.int .i64 s.num) := by
   have A := (HX.out.1.below hW).at
   exact ⟨A.c0, A.c1⟩
  have hd := (HX.out.2.below hW).at
  exact ⟨c0, c2, hd.c0, hd.c1⟩
 obtain ⟨p, Hp⟩ : ∃ p, Hid (cmpI s.rep d.lo = p) := ⟨_, rfl⟩
 obtain ⟨q, Hq⟩ : ∃ q, Hid (cmpI s.num d.hi = q) := ⟨_, rfl⟩
 have HR : Hid (nrE s d = or2 p q) := by show _ = _; unfold nrE; rw [Hp.out, Hq.out]
 clear b1 b2 x1 x2
 go_enter Tryz.func57, Tryz.ntmps57
 go_wp2_with fail
 clear hw1 hw2 s1 hg1
 refine wp_region_held_drew (S := fun W => W.cell? ⟨g1, 0, none⟩ = some (.int .i64 s.rep) ∧ W.cell? ⟨g1, 1, none⟩ = some (.int .i64 s.num) ∧ W.cell? ⟨g1 + 1, 0, none⟩ = some (.int .i64 d.lo) ∧ W.cell? ⟨g1 + 1, 1, none⟩ = some (.int .i64 d.hi)) (by kernel_rfl) (HSt.out _ (below_drew1 w2)) (fun hHeld => ?_)
 refine wTk 0 ⟨some 5, .fieldAddr 36 (.tmp 2) 0, 0, "order.go:92", #[], none⟩ rfl ?_
 refine wTk 1 ⟨some 6, .fieldAddr 32 (.tmp 5) 0, 0, "order.go:92", #[⟨0, .data⟩], none⟩ rfl ?_
 refine wTk 2 ⟨some 7, .load 3 (.tmp 6), 3, "order.go:92", #[⟨1, .data⟩], none⟩ rfl ?_
 refine wTk 3 ⟨some 8, .fieldAddr 32 (.tmp 3) 0, 0, "order.go:92", #[], none⟩ rfl ?_
 refine wTk 4 ⟨some 9, .load 3 (.tmp 8), 3, "order.go:92", #[⟨3, .data⟩], none⟩ rfl ?_
 refine wTk 6 ⟨some 11, .fieldAddr 36 (.tmp 2) 0, 0, "order.go:92", #[], none⟩ rfl ?_
 refine wTk 7 ⟨some 12, .fieldAddr 32 (.tmp 11) 1, 0, "order.go:92", #[⟨6, .data⟩], none⟩ rfl ?_
 refine wTk 8 ⟨some 13, .load 3 (.tmp 12), 3, "order.go:92", #[⟨7, .data⟩], none⟩ rfl ?_
 refine wTk 9 ⟨some 14, .fieldAddr 32 (.tmp 3) 1, 0, "order.go:92", #[], none⟩ rfl ?_
 refine wTk 10 ⟨some 15, .load 3 (.tmp 14), 3, "order.go:92", #[⟨9, .data⟩], none⟩ rfl ?_
 refine wpAnyH_ready (rs := [5]) (by kernel_rfl) (by simp) (.cons rfl (fun K hK => ?_) .nil)
 go_simp
 go_wp2_with fail
 refine (cmp_any s.rep d.lo _).mono ?_
 rintro e w' ⟨rfl, rfl⟩
 rw [Hp.out]
 refine hK.out _ _ (HSt.out _ (below_drew1 w2)) (fun hHeld => ?_)
 clear hK K
 refine wpAnyH_ready (rs := [11]) (by kernel_rfl) (by simp) (.cons rfl (fun K hK => ?_) .nil)
 go_simp
 go_wp2_with fail
 refine (cmp_any s.num d.hi _).mono ?_
 rintro e w' ⟨rfl, rfl⟩
 rw [Hq.out]
 refine hK.out _ _ (HSt.out _ (below_drew1 w2)) (fun hHeld => ?_)
 clear hK K
 have HB3 := hide ((below_drew1 w2).trans (below_new w2.drew (.cells #[.int .i64 p, .int .i64 q] 3)))
 have HO := hide (or2_new p q w2.drew w2.heap.size rfl)
 refine wpAnyH_ready (rs := [12]) (by kernel_rfl) (by simp) (.cons rfl (fun K hK => ?_) .nil)
 go_simp
 refine hK.out _ _ (HSt.out _ HB3.out) (fun hHeld => ?_)
 clear hK K
 refine wpAnyH_ready (rs := [13]) (by kernel_rfl) (by simp) (.cons rfl (fun K hK => ?_) .nil)
 go_simp
 go_wp2_with fail
 refine HO.out.mono ?_
 rintro e w' ⟨rfl, rfl⟩
 refine hK.out _ _ (HSt.out _ HB3.out) (fun hHeld => ?_)
 clear hK K
 refine wTk 14 ⟨some 4, .assign (.tmp 18), 3, "order.go:92", #[⟨13, .data⟩, ⟨13, .chain⟩, ⟨0, .phase⟩, ⟨1, .phase⟩, ⟨2, .phase⟩, ⟨3, .phase⟩, ⟨4, .phase⟩, ⟨5, .phase⟩, ⟨6, .phase⟩, ⟨7, .phase⟩, ⟨8, .phase⟩, ⟨9, .phase⟩, ⟨10, .phase⟩, ⟨11, .phase⟩, ⟨12, .phase⟩, ⟨13, .phase⟩], none⟩ rfl ?_
 refine wpAnyH_done (by kernel_rfl) ?_ _
 clear hHeld
 go_wp2_with fail
 go_ret
 exact ⟨ret_int HR.out.symm, HB.out.trans (HB3.out.mono HB.out.size)⟩
end Go.Proofs.YtalpnhfoaohhhaaGreat
namespace Go.Proofs.YtalpnhfoaohhhaaGreat
open Go.RowKit
attribute [local go_sem ↓] K.ld28_eq K.st28_eq ldD_eq stD_eq
attribute [local go_sem] K.zero_EC K.cells_EV K.EC_size
variable {w w' w2 W W' : World} {g : Nat}

def FirstE (L : List K.En) (d : Rn) (n i : Nat) : Prop := i ≤ n ∧ (∀ j, j < i → nrE (L.getD j K.en0) d < 0) ∧ (i < n → 0 ≤ nrE (L.getD i K.en0) d)
def BsE (w w' : World) (e : Ending) (L : List K.En) (d : Rn) (n : Nat) : Prop := ∃ (i : Nat) (b : Bool), e = .returned (.tuple #[.int .i64 (i : Int), .bool b]) ∧ FirstE L d n i ∧ (b = true ↔ i < n ∧ nrE (L.getD i K.en0) d = 0) ∧ Below w.heap.size w w'
set_option maxRecDepth 100000 in
set_option maxHeartbeats 3200000 in
theorem bsE_any (ao : Option Addr) (n cap : Nat) (L : List K.En) (d : Rn) (w : World) (hS : K.ESrc w ao n cap L) (hm : ∀ a b, a ≤ b → b < n → nrE (L.getD b K.en0) d < 0 → nrE (L.getD a K.en0) d < 0) :
  Calls Tryz.prog 56 #[.slice ao n cap, RV d, .func (.func 57) #[] #[]] w fun e w' => BsE w w' e L d n := by
 have hcf : ∀ (args : Array Value) (w : World), (callFunc 57 args).run Tryz.prog w = .ok (.enter 57 args) w := fun _ _ => rfl
 have b1 := below_new w (.cells (RC d) 32)
 have x1 := box_new w 32 d
 obtain ⟨w1, hw1⟩ : ∃ w1, w.alloc (.cells (RC d) 32) = w1 := ⟨_, rfl⟩
 obtain ⟨g1, hg1⟩ : ∃ g1, w.heap.size = g1 := ⟨_, rfl⟩
 rw [hw1] at b1 x1
 rw [hg1] at x1
 have HB1 := hide b1
 have HX : Hid (Box w1 g1 32 d ∧ K.ESrc w1 ao n cap L) := ⟨x1, hS.below b1⟩
 have hnb : n ≤ 3518437208883 := hS.2.2.2.2
 have HM := hide hm
 clear b1 x1 hS hm
 go_enter Tryz.func56, Tryz.ntmps56
 go_wp2_with fail
 clear hw1 hg1
 go_loopw [9, 10] (fun a b wr => ∃ (lo hi : Nat), a = .int .i64 (lo : Int) ∧ b = .int .i64 (hi : Int) ∧ lo ≤ hi ∧ hi ≤ n ∧ Hid (Below w1.heap.size w1 wr ∧ (∀ j, j < lo → nrE (L.getD j K.en0) d < 0) ∧ (hi < n → 0 ≤ nrE (L.getD hi K.en0) d))) (fun a b _ => (intOf b).toNat - (intOf a).toNat)
 case atStart => exact ⟨0, n, rfl, rfl, Nat.zero_le _, Nat.le_refl _, Below.refl _ _, (fun j hj => by omega), fun h => by omega⟩
 case round =>
  obtain ⟨lo, hi, rfl, rfl, hlh, hhn, HI⟩ := hrel
  rename World => wr
  by_cases hlt : lo < hi
  ·have hlti : (lo : Int) < (hi : Int) := by omega
   obtain ⟨h, hh⟩ : ∃ h : Nat, (lo + hi) / 2 = h := ⟨_, rfl⟩
   have hlb : lo ≤ 3518437208883 := by omega
   have hhb : hi ≤ 3518437208883 := by omega
   obtain ⟨t, ht⟩ : ∃ t : Nat, lo + hi = t := ⟨_, rfl⟩
   have et : (lo : Int) + (hi : Int) = (t : Int) := by omega
   have e2 : (t : Int) / 2 = (h : Int) := by omega
   have e3 : t / 2 = h := by omega
   have HH : Hid (lo ≤ h ∧ h < hi ∧ h < n) := ⟨by omega, by omega, by omega⟩
   have htb : t ≤ 20000000000000 := by omega
   obtain ⟨ad, rfl, A0⟩ := (HX.out.2.below HI.out.1).at h HH.out.2.2
   obtain ⟨s, Hs⟩ : ∃ s, Hid (L.getD h K.en0 = s) := ⟨_, rfl⟩
   have HSt : Hid (∀ W, Below wr.heap.size wr W → (K.ld28 (.pointer (some (ad.add (h * 4))))).run Tryz.prog W = .ok (K.EV s) W ∧ (ldD (.pointer (some ⟨g1, 0, none⟩))).run Tryz.prog W = .ok (RV d) W) := fun W hW => by
    obtain ⟨ad', e', A1⟩ := ((HX.out.2.below HI.out.1).below hW).at h HH.out.2.2
    obtain rfl := Option.some.inj e'
    rw [Hs.out] at A1
    exact ⟨K.run_ld28 A1, run_ldD ((HX.out.1.below HI.out.1).below hW).at⟩
   have hhi : (h : Int) < (n : Int) := by have := HH.out; omega
   clear A0 hh ht
   go_upto_region 5 with fail
   clear et e2 e3
   refine wp_region_held_drew (S := fun W => (Go.Proofs.YtalpnhfoaohhhaaGreat.K.ld28 (.pointer (some (ad.add (h * 4))))).run Tryz.prog W = .ok (K.EV s) W ∧ (ldD (.pointer (some ⟨g1, 0, none⟩))).run Tryz.prog W = .ok (RV d) W) (by kernel_rfl) (HSt.out _ (below_drew1 wr)) (fun hHeld => ?_)
   refine wTk 0 ⟨some 24, .move (.tmp 2), 80, "sort.go:160", #[], none⟩ rfl ?_
   refine wTk 1 ⟨some 25, .move (.tmp 0), 22, "sort.go:160", #[], none⟩ rfl ?_
   refine wTk 2 ⟨some 26, .move (.tmp 11), 3, "sort.go:160", #[], none⟩ rfl ?_
   refine wTk 3 ⟨some 27, .indexAddr 22 (.tmp 25) (.tmp 26), 0, "sort.go:160", #[⟨1, .data⟩, ⟨2, .data⟩], none⟩ rfl ?_
   refine wTk 4 ⟨some 28, .load 36 (.tmp 27), 36, "sort.go:160", #[⟨3, .data⟩], none⟩ rfl ?_
   refine wTk 5 ⟨some 29, .load 32 (.tmp 4), 32, "sort.go:160", #[], none⟩ rfl ?_
   refine wpAnyH_ready (rs := [6]) (by kernel_rfl) (by simp) (.cons rfl (fun K hK => ?_) .nil)
   go_simp
   go_wp2_with fail
   refine (nrE_any s d _).mono ?_
   rintro e w3 ⟨rfl, b3⟩
   have hB3 : Below wr.heap.size wr w3 := (below_drew1 wr).trans b3
   have HB3 := hide (HI.out.1.trans (hB3.mono HI.out.1.size))
   refine hK.out _ _ (HSt.out _ hB3) (fun hHeld => ?_)
   clear hK K b3 hB3
   obtain ⟨z, hz⟩ : ∃ z, nrE s d = z := ⟨_, rfl⟩
   rw [hz]
   refine wTk 7 ⟨some 31, .binOp .lss 3 (.tmp 30) (.const (.int .i64 0)) 3, 4, "sort.go:160", #[⟨6, .data⟩], none⟩ rfl ?_
   refine wpAnyH_done (by kernel_rfl) ?_ _
   clear hHeld
   by_cases hz0 : z < 0
   ·have HN : Hid (∀ j, j < h + 1 → nrE (L.getD j K.en0) d < 0) := fun j hj => HM.out j h (by omega) HH.out.2.2 (by rw [Hs.out, hz]; exact hz0)
    clear hz
    go_wp2_with fail
    go_roundw
    case rel => exact ⟨h + 1, hi, by simp, rfl, by have := HH.out; omega, hhn, HB3.out, HN.out, HI.out.2.2⟩
    case measure => simp [intOf]; have := HH.out; omega
   ·have HN : Hid (h < n → 0 ≤ nrE (L.getD h K.en0) d) := fun _ => by rw [Hs.out, hz]; omega
    clear hz
    go_wp2_with fail
    go_roundw
    case rel => exact ⟨lo, h, rfl, rfl, HH.out.1, by have := HH.out; omega, HB3.out, HI.out.2.1, HN.out⟩
    case measure => simp [intOf]; have := HH.out; omega
  ·have hlti : ¬ (lo : Int) < (hi : Int) := by omega
   obtain rfl : lo = hi := by omega
   have HF : Hid (FirstE L d n lo) := ⟨hhn, HI.out.2.1, HI.out.2.2⟩
   have HBw := hide (HB1.out.trans (HI.out.1.mono HB1.out.size))
   by_cases hln : lo < n
   ·have hlni : (lo : Int) < (n : Int) := by omega
    obtain ⟨ad, rfl, A0⟩ := (HX.out.2.below HI.out.1).at lo hln
    obtain ⟨s, Hs⟩ : ∃ s, Hid (L.getD lo K.en0 = s) := ⟨_, rfl⟩
    have HSt : Hid (∀ W, Below wr.heap.size wr W → (K.ld28 (.pointer (some (ad.add (lo * 4))))).run Tryz.prog W = .ok (K.EV s) W ∧ (ldD (.pointer (some ⟨g1, 0, none⟩))).run Tryz.prog W = .ok (RV d) W) := fun W hW => by
     obtain ⟨ad', e', A1⟩ := ((HX.out.2.below HI.out.1).below hW).at lo hln
     obtain rfl := Option.some.inj e'
     rw [Hs.out] at A1
     exact ⟨K.run_ld28 A1, run_ldD ((HX.out.1.below HI.out.1).below hW).at⟩
    clear A0
    go_upto_region 8 with fail
    refine wp_region_held_drew (S := fun W => (Go.Proofs.YtalpnhfoaohhhaaGreat.K.ld28 (.pointer (some (ad.add (lo * 4))))).run Tryz.prog W = .ok (K.EV s) W ∧ (ldD (.pointer (some ⟨g1, 0, none⟩))).run Tryz.prog W = .ok (RV d) W) (by kernel_rfl) (HSt.out _ (below_drew1 wr)) (fun hHeld => ?_)
    refine wTk 0 ⟨some 35, .move (.tmp 9), 3, "sort.go:167", #[], none⟩ rfl ?_
    refine wTk 1 ⟨some 36, .move (.tmp 9), 3, "sort.go:167", #[], none⟩ rfl ?_
    refine wTk 2 ⟨some 37, .move (.tmp 8), 3, "sort.go:167", #[], none⟩ rfl ?_
    refine wTk 3 ⟨some 38, .binOp .lss 3 (.tmp 36) (.tmp 37) 3, 4, "sort.go:167", #[⟨1, .data⟩, ⟨2, .data⟩], none⟩ rfl ?_
    refine wTk 4 ⟨some 39, .move (.tmp 38), 4, "sort.go:167", #[⟨3, .data⟩], none⟩ rfl ?_
    refine wTk 5 ⟨some 40, .move (.tmp 2), 80, "sort.go:167", #[⟨4, .guard⟩], some (4, true)⟩ rfl ?_
    refine wTk 6 ⟨some 41, .move (.tmp 0), 22, "sort.go:167", #[⟨4, .guard⟩], some (4, true)⟩ rfl ?_
    refine wTk 7 ⟨some 42, .move (.tmp 9), 3, "sort.go:167", #[⟨4, .guard⟩], some (4, true)⟩ rfl ?_
    refine wTk 8 ⟨some 43, .indexAddr 22 (.tmp 41) (.tmp 42), 0, "sort.go:167", #[⟨6, .data⟩, ⟨7, .data⟩, ⟨4, .guard⟩], some (4, true)⟩ rfl ?_
    refine wTk 9 ⟨some 44, .load 36 (.tmp 43), 36, "sort.go:167", #[⟨8, .data⟩, ⟨4, .guard⟩], some (4, true)⟩ rfl ?_
    refine wTk 10 ⟨some 45, .load 32 (.tmp 4), 32, "sort.go:167", #[⟨4, .guard⟩], some (4, true)⟩ rfl ?_
    refine wpAnyH_ready (rs := [11]) (by kernel_rfl) (by simp) (.cons rfl (fun K hK => ?_) .nil)
    go_simp
    go_wp2_with fail
    refine (nrE_any s d _).mono ?_
    rintro e w3 ⟨rfl, b3⟩
    have hB3 : Below wr.heap.size wr w3 := (below_drew1 wr).trans b3
    have HB3 := hide (HBw.out.trans (hB3.mono HBw.out.size))
    refine hK.out _ _ (HSt.out _ hB3) (fun hHeld => ?_)
    clear hK K b3 hB3
    obtain ⟨z, hz⟩ : ∃ z, nrE s d = z := ⟨_, rfl⟩
    rw [hz]
    have HZ0 : Hid (nrE (L.getD lo K.en0) d = z) := by show _ = _; rw [Hs.out]; exact hz
    clear hz
    refine wTk 14 ⟨some 6, .assign (.tmp 35), 3, "sort.go:167", #[⟨0, .data⟩, ⟨11, .chain⟩, ⟨0, .phase⟩, ⟨1, .textOnly .lateStores⟩, ⟨2, .textOnly .lateStores⟩, ⟨3, .textOnly .lateStores⟩, ⟨4, .textOnly .lateStores⟩, ⟨5, .textOnly .lateStores⟩, ⟨6, .textOnly .lateStores⟩, ⟨7, .textOnly .lateStores⟩, ⟨8, .textOnly .lateStores⟩, ⟨9, .textOnly .lateStores⟩, ⟨10, .textOnly .lateStores⟩, ⟨11, .textOnly .lateStoresUnsure⟩, ⟨12, .textOnly .lateStores⟩, ⟨13, .textOnly .lateStores⟩], none⟩ rfl ?_
    refine wTk 12 ⟨some 47, .binOp .eql 3 (.tmp 46) (.const (.int .i64 0)) 3, 4, "sort.go:167", #[⟨11, .data⟩, ⟨4, .guard⟩, ⟨14, .gcOnly .lateStores⟩], some (4, true)⟩ rfl ?_
    refine wTk 13 ⟨some 48, .pick (.tmp 39) (.tmp 47) (.const (.bool false)), 4, "sort.go:167", #[⟨4, .data⟩, ⟨12, .data⟩, ⟨14, .gcOnly .lateStores⟩], none⟩ rfl ?_
    refine wTk 15 ⟨some 7, .assign (.tmp 48), 4, "sort.go:167", #[⟨13, .data⟩, ⟨14, .chain⟩, ⟨0, .phase⟩, ⟨1, .phase⟩, ⟨2, .phase⟩, ⟨3, .phase⟩, ⟨4, .phase⟩, ⟨5, .phase⟩, ⟨6, .phase⟩, ⟨7, .phase⟩, ⟨8, .phase⟩, ⟨9, .phase⟩, ⟨10, .phase⟩, ⟨11, .phase⟩, ⟨12, .phase⟩, ⟨13, .phase⟩, ⟨14, .phase⟩], none⟩ rfl ?_
    refine wpAnyH_done (by kernel_rfl) ?_ _
    clear hHeld
    go_wp2_with fail
    go_ret2
    exact ⟨lo, _, rfl, HF.out, by rw [HZ0.out]; simp [hln], HB3.out⟩
   ·have hlni : ¬ (lo : Int) < (n : Int) := by omega
    go_upto_region 8 with fail
    refine wp_region_held_drew (S := fun _ => True) (by kernel_rfl) (trivial) (fun hHeld => ?_)
    refine wTk 0 ⟨some 35, .move (.tmp 9), 3, "sort.go:167", #[], none⟩ rfl ?_
    refine wTk 1 ⟨some 36, .move (.tmp 9), 3, "sort.go:167", #[], none⟩ rfl ?_
    refine wTk 2 ⟨some 37, .move (.tmp 8), 3, "sort.go:167", #[], none⟩ rfl ?_
    refine wTk 3 ⟨some 38, .binOp .lss 3 (.tmp 36) (.tmp 37) 3, 4, "sort.go:167", #[⟨1, .data⟩, ⟨2, .data⟩], none⟩ rfl ?_
    refine wTk 4 ⟨some 39, .move (.tmp 38), 4, "sort.go:167", #[⟨3, .data⟩], none⟩ rfl ?_
    refine wSk 5 ⟨some 40, .move (.tmp 2), 80, "sort.go:167", #[⟨4, .guard⟩], some (4, true)⟩ rfl ?_
    refine wSk 6 ⟨some 41, .move (.tmp 0), 22, "sort.go:167", #[⟨4, .guard⟩], some (4, true)⟩ rfl ?_
    refine wSk 7 ⟨some 42, .move (.tmp 9), 3, "sort.go:167", #[⟨4, .guard⟩], some (4, true)⟩ rfl ?_
    refine wSk 8 ⟨some 43, .indexAddr 22 (.tmp 41) (.tmp 42), 0, "sort.go:167", #[⟨6, .data⟩, ⟨7, .data⟩, ⟨4, .guard⟩], some (4, true)⟩ rfl ?_
    refine wSk 9 ⟨some 44, .load 36 (.tmp 43), 36, "sort.go:167", #[⟨8, .data⟩, ⟨4, .guard⟩], some (4, true)⟩ rfl ?_
    refine wSk 10 ⟨some 45, .load 32 (.tmp 4), 32, "sort.go:167", #[⟨4, .guard⟩], some (4, true)⟩ rfl ?_
    refine wSk 11 ⟨some 46, .call ⟨.value (.tmp 40), #[.tmp 44, .tmp 45], #[36, 32]⟩, 3, "sort.go:167", #[⟨5, .data⟩, ⟨9, .data⟩, ⟨10, .data⟩, ⟨4, .chain⟩, ⟨4, .guard⟩], some (4, true)⟩ rfl ?_
    refine wSk 12 ⟨some 47, .binOp .eql 3 (.tmp 46) (.const (.int .i64 0)) 3, 4, "sort.go:167", #[⟨11, .data⟩, ⟨4, .guard⟩, ⟨14, .gcOnly .lateStores⟩], some (4, true)⟩ rfl ?_
    refine wTk 14 ⟨some 6, .assign (.tmp 35), 3, "sort.go:167", #[⟨0, .data⟩, ⟨11, .chain⟩, ⟨0, .phase⟩, ⟨1, .textOnly .lateStores⟩, ⟨2, .textOnly .lateStores⟩, ⟨3, .textOnly .lateStores⟩, ⟨4, .textOnly .lateStores⟩, ⟨5, .textOnly .lateStores⟩, ⟨6, .textOnly .lateStores⟩, ⟨7, .textOnly .lateStores⟩, ⟨8, .textOnly .lateStores⟩, ⟨9, .textOnly .lateStores⟩, ⟨10, .textOnly .lateStores⟩, ⟨11, .textOnly .lateStoresUnsure⟩, ⟨12, .textOnly .lateStores⟩, ⟨13, .textOnly .lateStores⟩], none⟩ rfl ?_
    refine wTk 13 ⟨some 48, .pick (.tmp 39) (.tmp 47) (.const (.bool false)), 4, "sort.go:167", #[⟨4, .data⟩, ⟨12, .data⟩, ⟨14, .gcOnly .lateStores⟩], none⟩ rfl ?_
    refine wTk 15 ⟨some 7, .assign (.tmp 48), 4, "sort.go:167", #[⟨13, .data⟩, ⟨14, .chain⟩, ⟨0, .phase⟩, ⟨1, .phase⟩, ⟨2, .phase⟩, ⟨3, .phase⟩, ⟨4, .phase⟩, ⟨5, .phase⟩, ⟨6, .phase⟩, ⟨7, .phase⟩, ⟨8, .phase⟩, ⟨9, .phase⟩, ⟨10, .phase⟩, ⟨11, .phase⟩, ⟨12, .phase⟩, ⟨13, .phase⟩, ⟨14, .phase⟩], none⟩ rfl ?_
    refine wpAnyH_done (by kernel_rfl) ?_ _
    clear hHeld
    go_wp2_with fail
    go_ret2
    exact ⟨lo, _, rfl, HF.out, by simp [hln], HBw.out.trans ((below_drew1 wr).mono HBw.out.size)⟩
end Go.Proofs.YtalpnhfoaohhhaaGreat
