/- OBs HNa -/
import Derived.Test.YtalcmdjiejhkgaaGreatTk
import Derived.Test.YtalcmdjiejhkgaaGreatKl14
import Derived.Deep.CutRange
import Derived.Test.YtalcmdjiejhkgaaGreatKl00
set_option maxRecDepth 100000
set_option maxHeartbeats 3200000
namespace Go.Proofs.YtalcmdjiejhkgaaGreat
section
open Go.RowKit
attribute [local go_sem ↓] ldS_eq stS_eq ldD_eq stD_eq
attribute [local go_sem] zero_SC cells_SV SC_size
variable {w w' w2 W W' : World} {g : Nat}

def FirstAt (L : List Sn) (d : Rn) (n i : Nat) : Prop := i <= n /\ (∀ j, j < i -> nrC (L.getD j sn0) d < 0) /\ (i < n -> 0 <= nrC (L.getD i sn0) d)
def BsA (w w' : World) (e : Ending) (L : List Sn) (d : Rn) (n : Nat) : Prop := ∃ (i : Nat) (b : Bool), e = .returned (.tuple #[.int .i64 (i : Int), .bool b]) /\ FirstAt L d n i /\ Below w.heap.size w w'
theorem bsF_any (ao : Option Addr) (n cap : Nat) (L : List Sn) (d : Rn) (w : World) (hS : SSrc w ao n cap L) (hm : ∀ a b, a <= b -> b < n -> nrC (L.getD b sn0) d < 0 -> nrC (L.getD a sn0) d < 0) :
  Calls Tryz.prog 164 #[.slice ao n cap, RV d, .func (.func 165) #[] #[]] w fun e w' => BsA w w' e L d n := by
 have hcf : ∀ (args : Array Value) (w : World), (callFunc 165 args).run Tryz.prog w = .ok (.enter 165 args) w := fun _ _ => rfl
 have b1 := below_new w (.cells (RC d) 47)
 have x1 := box_new w 47 d
 obtain ⟨w1, hw1⟩ : ∃ w1, w.alloc (.cells (RC d) 47) = w1 := ⟨_, rfl⟩
 obtain ⟨g1, hg1⟩ : ∃ g1, w.heap.size = g1 := ⟨_, rfl⟩
 rw [hw1] at b1 x1
 rw [hg1] at x1
 have HB1 := hide b1
 have HX : Hid (Box w1 g1 47 d /\ SSrc w1 ao n cap L) := ⟨x1, hS.below b1⟩
 have hnb : n <= 5864062014805 := hS.big
 have HM := hide hm
 clear b1 x1 hS hm
 go_enter Tryz.func164, Tryz.ntmps164
 go_wp2_with fail
 clear hw1 hg1
 go_loopw [9, 10] (fun a b wr => ∃ (lo hi : Nat), a = .int .i64 (lo : Int) /\ b = .int .i64 (hi : Int) /\ lo <= hi /\ hi <= n /\ Hid (Below w1.heap.size w1 wr /\ (∀ j, j < lo -> nrC (L.getD j sn0) d < 0) /\ (hi < n -> 0 <= nrC (L.getD hi sn0) d))) (fun a b _ => (intOf b).toNat - (intOf a).toNat)
 case atStart => exact ⟨0, n, rfl, rfl, Nat.zero_le _, Nat.le_refl _, Below.refl _ _, (fun j hj => by omega), fun h => by omega⟩
 case round =>
  obtain ⟨lo, hi, rfl, rfl, hlh, hhn, HI⟩ := hrel
  rename World => wr
  by_cases hlt : lo < hi
  ·have hlti : (lo : Int) < (hi : Int) := by omega
   obtain ⟨h, hh⟩ : ∃ h : Nat, (lo + hi) / 2 = h := ⟨_, rfl⟩
   have hlb : lo <= 5864062014805 := by omega
   have hhb : hi <= 5864062014805 := by omega
   obtain ⟨t, ht⟩ : ∃ t : Nat, lo + hi = t := ⟨_, rfl⟩
   have et : (lo : Int) + (hi : Int) = (t : Int) := by omega
   have e2 : (t : Int) / 2 = (h : Int) := by omega
   have e3 : t / 2 = h := by omega
   have HH : Hid (lo <= h /\ h < hi /\ h < n) := ⟨by omega, by omega, by omega⟩
   have htb : t <= 20000000000000 := by omega
   obtain ⟨ad, rfl, A0⟩ := (HX.out.2.below HI.out.1).at h HH.out.2.2
   obtain ⟨s, Hs⟩ : ∃ s, Hid (L.getD h sn0 = s) := ⟨_, rfl⟩
   have HSt : Hid (∀ W, Below wr.heap.size wr W -> (ldS (.pointer (some (ad.add (h * 3))))).run Tryz.prog W = .ok (SV s) W /\ (ldD (.pointer (some ⟨g1, 0, none⟩))).run Tryz.prog W = .ok (RV d) W) := fun W hW => by
    obtain ⟨ad', e', A1⟩ := ((HX.out.2.below HI.out.1).below hW).at h HH.out.2.2
    obtain rfl := Option.some.inj e'
    rw [Hs.out] at A1
    exact ⟨run_ldS A1, run_ldD ((HX.out.1.below HI.out.1).below hW).at⟩
   have hhi : (h : Int) < (n : Int) := by have := HH.out; omega
   clear A0 hh ht
   go_upto_region 5 with fail
   clear et e2 e3
   refine wp_region_held_drew (S := fun W => (ldS (.pointer (some (ad.add (h * 3))))).run Tryz.prog W = .ok (SV s) W /\ (ldD (.pointer (some ⟨g1, 0, none⟩))).run Tryz.prog W = .ok (RV d) W) (by kernel_rfl) (HSt.out _ (below_drew1 wr)) (fun hHeld => ?_)
   refine wTk 0 ⟨some 24, .move (.tmp 2), 184, "sort.go:160", #[], none⟩ rfl ?_
   refine wTk 1 ⟨some 25, .move (.tmp 0), 25, "sort.go:160", #[], none⟩ rfl ?_
   refine wTk 2 ⟨some 26, .move (.tmp 11), 3, "sort.go:160", #[], none⟩ rfl ?_
   refine wTk 3 ⟨some 27, .indexAddr 25 (.tmp 25) (.tmp 26), 0, "sort.go:160", #[⟨1, .data⟩, ⟨2, .data⟩], none⟩ rfl ?_
   refine wTk 4 ⟨some 28, .load 45 (.tmp 27), 45, "sort.go:160", #[⟨3, .data⟩], none⟩ rfl ?_
   refine wTk 5 ⟨some 29, .load 47 (.tmp 4), 47, "sort.go:160", #[], none⟩ rfl ?_
   refine wpAnyH_ready (rs := [6]) (by kernel_rfl) (by simp) (.cons rfl (fun K hK => ?_) .nil)
   go_simp
   go_wp2_with fail
   refine (nrC_any s d _).mono ?_
   rintro e w3 ⟨rfl, b3⟩
   have hB3 : Below wr.heap.size wr w3 := (below_drew1 wr).trans b3
   have HB3 := hide (HI.out.1.trans (hB3.mono HI.out.1.size))
   refine hK.out _ _ (HSt.out _ hB3) (fun hHeld => ?_)
   clear hK K b3 hB3
   obtain ⟨z, hz⟩ : ∃ z, nrC s d = z := ⟨_, rfl⟩
   rw [hz]
   refine wTk 7 ⟨some 31, .binOp .lss 3 (.tmp 30) (.const (.int .i64 0)) 3, 4, "sort.go:160", #[⟨6, .data⟩], none⟩ rfl ?_
   refine wpAnyH_done (by kernel_rfl) ?_ _
   clear hHeld
   by_cases hz0 : z < 0
   ·have HN : Hid (∀ j, j < h + 1 -> nrC (L.getD j sn0) d < 0) := fun j hj => HM.out j h (by omega) HH.out.2.2 (by rw [Hs.out, hz]; exact hz0)
    clear hz
    go_wp2_with fail
    go_roundw
    case rel => exact ⟨h + 1, hi, by simp, rfl, by have := HH.out; omega, hhn, HB3.out, HN.out, HI.out.2.2⟩
    case measure => simp [intOf]; have := HH.out; omega
   ·have HN : Hid (h < n -> 0 <= nrC (L.getD h sn0) d) := fun _ => by rw [Hs.out, hz]; omega
    clear hz
    go_wp2_with fail
    go_roundw
    case rel => exact ⟨lo, h, rfl, rfl, HH.out.1, by have := HH.out; omega, HB3.out, HI.out.2.1, HN.out⟩
    case measure => simp [intOf]; have := HH.out; omega
  ·have hlti : ¬ (lo : Int) < (hi : Int) := by omega
   obtain rfl : lo = hi := by omega
   have HF : Hid (FirstAt L d n lo) := ⟨hhn, HI.out.2.1, HI.out.2.2⟩
   have HBw := hide (HB1.out.trans (HI.out.1.mono HB1.out.size))
   by_cases hln : lo < n
   ·have hlni : (lo : Int) < (n : Int) := by omega
    obtain ⟨ad, rfl, A0⟩ := (HX.out.2.below HI.out.1).at lo hln
    obtain ⟨s, Hs⟩ : ∃ s, Hid (L.getD lo sn0 = s) := ⟨_, rfl⟩
    have HSt : Hid (∀ W, Below wr.heap.size wr W -> (ldS (.pointer (some (ad.add (lo * 3))))).run Tryz.prog W = .ok (SV s) W /\ (ldD (.pointer (some ⟨g1, 0, none⟩))).run Tryz.prog W = .ok (RV d) W) := fun W hW => by
     obtain ⟨ad', e', A1⟩ := ((HX.out.2.below HI.out.1).below hW).at lo hln
     obtain rfl := Option.some.inj e'
     rw [Hs.out] at A1
     exact ⟨run_ldS A1, run_ldD ((HX.out.1.below HI.out.1).below hW).at⟩
    clear A0
    go_upto_region 8 with fail
    refine wp_region_held_drew (S := fun W => (ldS (.pointer (some (ad.add (lo * 3))))).run Tryz.prog W = .ok (SV s) W /\ (ldD (.pointer (some ⟨g1, 0, none⟩))).run Tryz.prog W = .ok (RV d) W) (by kernel_rfl) (HSt.out _ (below_drew1 wr)) (fun hHeld => ?_)
    refine wTk 0 ⟨some 35, .move (.tmp 9), 3, "sort.go:167", #[], none⟩ rfl ?_
    refine wTk 1 ⟨some 36, .move (.tmp 9), 3, "sort.go:167", #[], none⟩ rfl ?_
    refine wTk 2 ⟨some 37, .move (.tmp 8), 3, "sort.go:167", #[], none⟩ rfl ?_
    refine wTk 3 ⟨some 38, .binOp .lss 3 (.tmp 36) (.tmp 37) 3, 4, "sort.go:167", #[⟨1, .data⟩, ⟨2, .data⟩], none⟩ rfl ?_
    refine wTk 4 ⟨some 39, .move (.tmp 38), 4, "sort.go:167", #[⟨3, .data⟩], none⟩ rfl ?_
    refine wTk 5 ⟨some 40, .move (.tmp 2), 184, "sort.go:167", #[⟨4, .guard⟩], some (4, true)⟩ rfl ?_
    refine wTk 6 ⟨some 41, .move (.tmp 0), 25, "sort.go:167", #[⟨4, .guard⟩], some (4, true)⟩ rfl ?_
    refine wTk 7 ⟨some 42, .move (.tmp 9), 3, "sort.go:167", #[⟨4, .guard⟩], some (4, true)⟩ rfl ?_
    refine wTk 8 ⟨some 43, .indexAddr 25 (.tmp 41) (.tmp 42), 0, "sort.go:167", #[⟨6, .data⟩, ⟨7, .data⟩, ⟨4, .guard⟩], some (4, true)⟩ rfl ?_
    refine wTk 9 ⟨some 44, .load 45 (.tmp 43), 45, "sort.go:167", #[⟨8, .data⟩, ⟨4, .guard⟩], some (4, true)⟩ rfl ?_
    refine wTk 10 ⟨some 45, .load 47 (.tmp 4), 47, "sort.go:167", #[⟨4, .guard⟩], some (4, true)⟩ rfl ?_
    refine wpAnyH_ready (rs := [11]) (by kernel_rfl) (by simp) (.cons rfl (fun K hK => ?_) .nil)
    go_simp
    go_wp2_with fail
    refine (nrC_any s d _).mono ?_
    rintro e w3 ⟨rfl, b3⟩
    have hB3 : Below wr.heap.size wr w3 := (below_drew1 wr).trans b3
    have HB3 := hide (HBw.out.trans (hB3.mono HBw.out.size))
    refine hK.out _ _ (HSt.out _ hB3) (fun hHeld => ?_)
    clear hK K b3 hB3
    obtain ⟨z, hz⟩ : ∃ z, nrC s d = z := ⟨_, rfl⟩
    rw [hz]
    clear hz
    refine wTk 14 ⟨some 6, .assign (.tmp 35), 3, "sort.go:167", #[⟨0, .data⟩, ⟨11, .chain⟩, ⟨0, .phase⟩, ⟨1, .textOnly .lateStores⟩, ⟨2, .textOnly .lateStores⟩, ⟨3, .textOnly .lateStores⟩, ⟨4, .textOnly .lateStores⟩, ⟨5, .textOnly .lateStores⟩, ⟨6, .textOnly .lateStores⟩, ⟨7, .textOnly .lateStores⟩, ⟨8, .textOnly .lateStores⟩, ⟨9, .textOnly .lateStores⟩, ⟨10, .textOnly .lateStores⟩, ⟨11, .textOnly .lateStoresUnsure⟩, ⟨12, .textOnly .lateStores⟩, ⟨13, .textOnly .lateStores⟩], none⟩ rfl ?_
    refine wTk 12 ⟨some 47, .binOp .eql 3 (.tmp 46) (.const (.int .i64 0)) 3, 4, "sort.go:167", #[⟨11, .data⟩, ⟨4, .guard⟩, ⟨14, .gcOnly .lateStores⟩], some (4, true)⟩ rfl ?_
    refine wTk 13 ⟨some 48, .pick (.tmp 39) (.tmp 47) (.const (.bool false)), 4, "sort.go:167", #[⟨4, .data⟩, ⟨12, .data⟩, ⟨14, .gcOnly .lateStores⟩], none⟩ rfl ?_
    refine wTk 15 ⟨some 7, .assign (.tmp 48), 4, "sort.go:167", #[⟨13, .data⟩, ⟨14, .chain⟩, ⟨0, .phase⟩, ⟨1, .phase⟩, ⟨2, .phase⟩, ⟨3, .phase⟩, ⟨4, .phase⟩, ⟨5, .phase⟩, ⟨6, .phase⟩, ⟨7, .phase⟩, ⟨8, .phase⟩, ⟨9, .phase⟩, ⟨10, .phase⟩, ⟨11, .phase⟩, ⟨12, .phase⟩, ⟨13, .phase⟩, ⟨14, .phase⟩], none⟩ rfl ?_
    refine wpAnyH_done (by kernel_rfl) ?_ _
    clear hHeld
    go_wp2_with fail
    go_ret2
    exact ⟨lo, _, rfl, HF.out, HB3.out⟩
   ·have hlni : ¬ (lo : Int) < (n : Int) := by omega
    go_upto_region 8 with fail
    refine wp_region_held_drew (S := fun _ => True) (by kernel_rfl) (trivial) (fun hHeld => ?_)
    refine wTk 0 ⟨some 35, .move (.tmp 9), 3, "sort.go:167", #[], none⟩ rfl ?_
    refine wTk 1 ⟨some 36, .move (.tmp 9), 3, "sort.go:167", #[], none⟩ rfl ?_
    refine wTk 2 ⟨some 37, .move (.tmp 8), 3, "sort.go:167", #[], none⟩ rfl ?_
    refine wTk 3 ⟨some 38, .binOp .lss 3 (.tmp 36) (.tmp 37) 3, 4, "sort.go:167", #[⟨1, .data⟩, ⟨2, .data⟩], none⟩ rfl ?_
    refine wTk 4 ⟨some 39, .move (.tmp 38), 4, "sort.go:167", #[⟨3, .data⟩], none⟩ rfl ?_
    refine wSk 5 ⟨some 40, .move (.tmp 2), 184, "sort.go:167", #[⟨4, .guard⟩], some (4, true)⟩ rfl ?_
    refine wSk 6 ⟨some 41, .move (.tmp 0), 25, "sort.go:167", #[⟨4, .guard⟩], some (4, true)⟩ rfl ?_
    refine wSk 7 ⟨some 42, .move (.tmp 9), 3, "sort.go:167", #[⟨4, .guard⟩], some (4, true)⟩ rfl ?_
    refine wSk 8 ⟨some 43, .indexAddr 25 (.tmp 41) (.tmp 42), 0, "sort.go:167", #[⟨6, .data⟩, ⟨7, .data⟩, ⟨4, .guard⟩], some (4, true)⟩ rfl ?_
    refine wSk 9 ⟨some 44, .load 45 (.tmp 43), 45, "sort.go:167", #[⟨8, .data⟩, ⟨4, .guard⟩], some (4, true)⟩ rfl ?_
    refine wSk 10 ⟨some 45, .load 47 (.tmp 4), 47, "sort.go:167", #[⟨4, .guard⟩], some (4, true)⟩ rfl ?_
    refine wSk 11 ⟨some 46, .call ⟨.value (.tmp 40), #[.tmp 44, .tmp 45], #[45, 47]⟩, 3, "sort.go:167", #[⟨5, .data⟩, ⟨9, .data⟩, ⟨10, .data⟩, ⟨4, .chain⟩, ⟨4, .guard⟩], some (4, true)⟩ rfl ?_
    refine wSk 12 ⟨some 47, .binOp .eql 3 (.tmp 46) (.const (.int .i64 0)) 3, 4, "sort.go:167", #[⟨11, .data⟩, ⟨4, .guard⟩, ⟨14, .gcOnly .lateStores⟩], some (4, true)⟩ rfl ?_
    refine wTk 14 ⟨some 6, .assign (.tmp 35), 3, "sort.go:167", #[⟨0, .data⟩, ⟨11, .chain⟩, ⟨0, .phase⟩, ⟨1, .textOnly .lateStores⟩, ⟨2, .textOnly .lateStores⟩, ⟨3, .textOnly .lateStores⟩, ⟨4, .textOnly .lateStores⟩, ⟨5, .textOnly .lateStores⟩, ⟨6, .textOnly .lateStores⟩, ⟨7, .textOnly .lateStores⟩, ⟨8, .textOnly .lateStores⟩, ⟨9, .textOnly .lateStores⟩, ⟨10, .textOnly .lateStores⟩, ⟨11, .textOnly .lateStoresUnsure⟩, ⟨12, .textOnly .lateStores⟩, ⟨13, .textOnly .lateStores⟩], none⟩ rfl ?_
    refine wTk 13 ⟨some 48, .pick (.tmp 39) (.tmp 47) (.const (.bool false)), 4, "sort.go:167", #[⟨4, .data⟩, ⟨12, .data⟩, ⟨14, .gcOnly .lateStores⟩], none⟩ rfl ?_
    refine wTk 15 ⟨some 7, .assign (.tmp 48), 4, "sort.go:167", #[⟨13, .data⟩, ⟨14, .chain⟩, ⟨0, .phase⟩, ⟨1, .phase⟩, ⟨2, .phase⟩, ⟨3, .phase⟩, ⟨4, .phase⟩, ⟨5, .phase⟩, ⟨6, .phase⟩, ⟨7, .phase⟩, ⟨8, .phase⟩, ⟨9, .phase⟩, ⟨10, .phase⟩, ⟨11, .phase⟩, ⟨12, .phase⟩, ⟨13, .phase⟩, ⟨14, .phase⟩], none⟩ rfl ?_
    refine wpAnyH_done (by kernel_rfl) ?_ _
    clear hHeld
    go_wp2_with fail
    go_ret2
    exact ⟨lo, _, rfl, HF.out, HBw.out.trans ((below_drew1 wr).mono HBw.out.size)⟩
end
section
open Go.RowKit

theorem SBox.sn {w : World} {g : Nat} {s : Sn} (h : SBox w g s) : SnAt w ⟨g, 0, none⟩ s := ⟨h.at.1, by rw [Addr.add_lit]; exact h.at.2.1, by rw [Addr.add_lit]; exact h.at.2.2⟩
theorem nrS_any (s t : Sn) (w : World) : Calls Tryz.prog 97 #[SV s, SV t] w fun e w' => e = .returned (.int .i64 (nrC s ⟨t.rep, t.hi⟩)) /\ Below w.heap.size w w' := by
 have b1 := below_new w (.cells (SC s) 45)
 have x1 := sbox_new w s
 have s1 := World.size_alloc w (.cells (SC s) 45)
 obtain ⟨w1, hw1⟩ : ∃ w1, w.alloc (.cells (SC s) 45) = w1 := ⟨_, rfl⟩
 obtain ⟨g1, hg1⟩ : ∃ g1, w.heap.size = g1 := ⟨_, rfl⟩
 rw [hw1] at b1 x1 s1
 rw [hg1] at x1 s1
 have b2 := below_new w1 (.cells (SC t) 45)
 have x2 := sbox_new w1 t
 obtain ⟨w2, hw2⟩ : ∃ w2, w1.alloc (.cells (SC t) 45) = w2 := ⟨_, rfl⟩
 rw [hw2] at b2 x2
 rw [s1] at x2
 have HB := hide (b1.trans (b2.mono b1.size))
 have HX : Hid (SBox w2 g1 s /\ SBox w2 (g1 + 1) t) := ⟨x1.below b2, x2⟩
 have HSt : Hid (∀ W, Below w2.heap.size w2 W -> W.cell? ⟨g1, 0, none⟩ = some (.int .i64 s.rep) /\ W.cell? ⟨g1, 2, none⟩ = some (.int .i64 s.hi) /\ W.cell? ⟨g1 + 1, 0, none⟩ = some (.int .i64 t.rep) /\ W.cell? ⟨g1 + 1, 2, none⟩ = some (.int .i64 t.hi)) := fun W hW => by
  obtain ⟨c0, -, c2⟩ := (HX.out.1.below hW).at
  have hd := (HX.out.2.below hW).at
  exact ⟨c0, c2, hd.1, hd.2.2⟩
 obtain ⟨p, Hp⟩ : ∃ p, Hid (cmpI s.rep t.rep = p) := ⟨_, rfl⟩
 obtain ⟨q, Hq⟩ : ∃ q, Hid (cmpI s.hi t.hi = q) := ⟨_, rfl⟩
 have HR : Hid (nrC s ⟨t.rep, t.hi⟩ = or2 p q) := by show _ = _; unfold nrC; rw [Hp.out, Hq.out]
 clear b1 b2 x1 x2
 go_enter Tryz.func97, Tryz.ntmps97
 go_wp2_with fail
 clear hw1 hw2 s1 hg1
 refine wp_region_held_drew (S := fun W => W.cell? ⟨g1, 0, none⟩ = some (.int .i64 s.rep) /\ W.cell? ⟨g1, 2, none⟩ = some (.int .i64 s.hi) /\ W.cell? ⟨g1 + 1, 0, none⟩ = some (.int .i64 t.rep) /\ W.cell? ⟨g1 + 1, 2, none⟩ = some (.int .i64 t.hi)) (by kernel_rfl) (HSt.out _ (below_drew1 w2)) (fun hHeld => ?_)
 refine wTk 0 ⟨some 5, .fieldAddr 45 (.tmp 2) 0, 0, "records.go:119", #[], none⟩ rfl ?_
 refine wTk 1 ⟨some 6, .load 3 (.tmp 5), 3, "records.go:119", #[⟨0, .data⟩], none⟩ rfl ?_
 refine wTk 2 ⟨some 7, .fieldAddr 45 (.tmp 3) 0, 0, "records.go:119", #[], none⟩ rfl ?_
 refine wTk 3 ⟨some 8, .load 3 (.tmp 7), 3, "records.go:119", #[⟨2, .data⟩], none⟩ rfl ?_
 refine wTk 5 ⟨some 10, .fieldAddr 45 (.tmp 2) 2, 0, "records.go:119", #[], none⟩ rfl ?_
 refine wTk 6 ⟨some 11, .load 3 (.tmp 10), 3, "records.go:119", #[⟨5, .data⟩], none⟩ rfl ?_
 refine wTk 7 ⟨some 12, .fieldAddr 45 (.tmp 3) 2, 0, "records.go:119", #[], none⟩ rfl ?_
 refine wTk 8 ⟨some 13, .load 3 (.tmp 12), 3, "records.go:119", #[⟨7, .data⟩], none⟩ rfl ?_
 refine wpAnyH_ready (rs := [4]) (by kernel_rfl) (by simp) (.cons rfl (fun K hK => ?_) .nil)
 go_simp
 go_wp2_with fail
 refine (cmp_any s.rep t.rep _).mono ?_
 rintro e w' ⟨rfl, rfl⟩
 rw [Hp.out]
 refine hK.out _ _ (HSt.out _ (below_drew1 w2)) (fun hHeld => ?_)
 clear hK K
 refine wpAnyH_ready (rs := [9]) (by kernel_rfl) (by simp) (.cons rfl (fun K hK => ?_) .nil)
 go_simp
 go_wp2_with fail
 refine (cmp_any s.hi t.hi _).mono ?_
 rintro e w' ⟨rfl, rfl⟩
 rw [Hq.out]
 refine hK.out _ _ (HSt.out _ (below_drew1 w2)) (fun hHeld => ?_)
 clear hK K
 have HB3 := hide ((below_drew1 w2).trans (below_new w2.drew (.cells #[.int .i64 p, .int .i64 q] 3)))
 have HO := hide (or2_new p q w2.drew w2.heap.size rfl)
 refine wpAnyH_ready (rs := [10]) (by kernel_rfl) (by simp) (.cons rfl (fun K hK => ?_) .nil)
 go_simp
 refine hK.out _ _ (HSt.out _ HB3.out) (fun hHeld => ?_)
 clear hK K
 refine wpAnyH_ready (rs := [11]) (by kernel_rfl) (by simp) (.cons rfl (fun K hK => ?_) .nil)
 go_simp
 go_wp2_with fail
 refine HO.out.mono ?_
 rintro e w' ⟨rfl, rfl⟩
 refine hK.out _ _ (HSt.out _ HB3.out) (fun hHeld => ?_)
 clear hK K
 refine wTk 12 ⟨some 4, .assign (.tmp 16), 3, "records.go:119", #[⟨11, .data⟩, ⟨11, .chain⟩, ⟨0, .phase⟩, ⟨1, .phase⟩, ⟨2, .phase⟩, ⟨3, .phase⟩, ⟨4, .phase⟩, ⟨5, .phase⟩, ⟨6, .phase⟩, ⟨7, .phase⟩, ⟨8, .phase⟩, ⟨9, .phase⟩, ⟨10, .phase⟩, ⟨11, .phase⟩], none⟩ rfl ?_
 refine wpAnyH_done (by kernel_rfl) ?_ _
 clear hHeld
 go_wp2_with fail
 go_ret
 exact ⟨ret_int HR.out.symm, HB.out.trans (HB3.out.mono HB.out.size)⟩
end
end Go.Proofs.YtalcmdjiejhkgaaGreat
