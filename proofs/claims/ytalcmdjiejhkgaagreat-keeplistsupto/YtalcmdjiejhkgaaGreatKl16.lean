/- HBs ONr LBase LSku -/
import Derived.Test.YtalcmdjiejhkgaaGreatTk
import Derived.Test.YtalcmdjiejhkgaaGreatKl15
import Derived.Deep.CutRange
import Derived.Test.YtalcmdjiejhkgaaGreatKl11
import Derived.Lib.MinMax
import Derived.Test.YtalcmdjiejhkgaaGreatRows
import Derived.WalkKit
import Derived.WalkSpells
import Derived.Deep.QuietTactic
import Derived.BigQuiet
set_option maxRecDepth 100000
set_option maxHeartbeats 3200000
namespace Go.Proofs.YtalcmdjiejhkgaaGreat
section
open Go.RowKit
attribute [local go_sem ↓] ldS_eq stS_eq ldD_eq stD_eq
attribute [local go_sem] zero_SC cells_SV SC_size
variable {w w' w2 W W' : World} {g : Nat}

theorem bsS_any (ao : Option Addr) (n cap : Nat) (L : List Sn) (t : Sn) (w : World) (hS : SSrc w ao n cap L) (hm : ∀ a b, a <= b -> b < n -> nrC (L.getD b sn0) ⟨t.rep, t.hi⟩ < 0 -> nrC (L.getD a sn0) ⟨t.rep, t.hi⟩ < 0) :
  Calls Tryz.prog 96 #[.slice ao n cap, SV t, .func (.func 97) #[] #[]] w fun e w' => BsA w w' e L ⟨t.rep, t.hi⟩ n := by
 have hcf : ∀ (args : Array Value) (w : World), (callFunc 97 args).run Tryz.prog w = .ok (.enter 97 args) w := fun _ _ => rfl
 have b1 := below_new w (.cells (SC t) 45)
 have x1 := sbox_new w t
 obtain ⟨w1, hw1⟩ : ∃ w1, w.alloc (.cells (SC t) 45) = w1 := ⟨_, rfl⟩
 obtain ⟨g1, hg1⟩ : ∃ g1, w.heap.size = g1 := ⟨_, rfl⟩
 rw [hw1] at b1 x1
 rw [hg1] at x1
 have HB1 := hide b1
 have HX : Hid (SBox w1 g1 t /\ SSrc w1 ao n cap L) := ⟨x1, hS.below b1⟩
 have hnb : n <= 5864062014805 := hS.big
 have HM := hide hm
 clear b1 x1 hS hm
 go_enter Tryz.func96, Tryz.ntmps96
 go_wp2_with fail
 clear hw1 hg1
 go_loopw [9, 10] (fun a b wr => ∃ (lo hi : Nat), a = .int .i64 (lo : Int) /\ b = .int .i64 (hi : Int) /\ lo <= hi /\ hi <= n /\ Hid (Below w1.heap.size w1 wr /\ (∀ j, j < lo -> nrC (L.getD j sn0) ⟨t.rep, t.hi⟩ < 0) /\ (hi < n -> 0 <= nrC (L.getD hi sn0) ⟨t.rep, t.hi⟩))) (fun a b _ => (intOf b).toNat - (intOf a).toNat)
 case atStart => exact ⟨0, n, rfl, rfl, Nat.zero_le _, Nat.le_refl _, Below.refl _ _, (fun j hj => by omega), fun h => by omega⟩
 case round =>
  obtain ⟨lo, hi, rfl, rfl, hlh, hhn, HI⟩ := hrel
  rename World => wr
  by_cases hlt : lo < hi
  ·have hlti : (lo : Int) < (hi : Int) := by omega
   obtain ⟨h, hh⟩ : ∃ h : Nat, (lo + hi) / 2 = h := ⟨_, rfl⟩
   have hlb : lo <= 5864062014805 := by omega
   have hhb : hi <= 5864062014805 := by omega
   obtain ⟨u, ht⟩ : ∃ u : Nat, lo + hi = u := ⟨_, rfl⟩
   have et : (lo : Int) + (hi : Int) = (u : Int) := by omega
   have e2 : (u : Int) / 2 = (h : Int) := by omega
   have e3 : u / 2 = h := by omega
   have HH : Hid (lo <= h /\ h < hi /\ h < n) := ⟨by omega, by omega, by omega⟩
   have htb : u <= 20000000000000 := by omega
   obtain ⟨ad, rfl, A0⟩ := (HX.out.2.below HI.out.1).at h HH.out.2.2
   obtain ⟨s, Hs⟩ : ∃ s, Hid (L.getD h sn0 = s) := ⟨_, rfl⟩
   have HSt : Hid (∀ W, Below wr.heap.size wr W -> (ldS (.pointer (some (ad.add (h * 3))))).run Tryz.prog W = .ok (SV s) W /\ (ldS (.pointer (some ⟨g1, 0, none⟩))).run Tryz.prog W = .ok (SV t) W) := fun W hW => by
    obtain ⟨ad', e', A1⟩ := ((HX.out.2.below HI.out.1).below hW).at h HH.out.2.2
    obtain rfl := Option.some.inj e'
    rw [Hs.out] at A1
    exact ⟨run_ldS A1, run_ldS ((HX.out.1.below HI.out.1).below hW).sn⟩
   have hhi : (h : Int) < (n : Int) := by have := HH.out; omega
   clear A0 hh ht
   go_upto_region 5 with fail
   clear et e2 e3
   refine wp_region_held_drew (S := fun W => (ldS (.pointer (some (ad.add (h * 3))))).run Tryz.prog W = .ok (SV s) W /\ (ldS (.pointer (some ⟨g1, 0, none⟩))).run Tryz.prog W = .ok (SV t) W) (by kernel_rfl) (HSt.out _ (below_drew1 wr)) (fun hHeld => ?_)
   refine wTk 0 ⟨some 24, .move (.tmp 2), 125, "sort.go:160", #[], none⟩ rfl ?_
   refine wTk 1 ⟨some 25, .move (.tmp 0), 25, "sort.go:160", #[], none⟩ rfl ?_
   refine wTk 2 ⟨some 26, .move (.tmp 11), 3, "sort.go:160", #[], none⟩ rfl ?_
   refine wTk 3 ⟨some 27, .indexAddr 25 (.tmp 25) (.tmp 26), 0, "sort.go:160", #[⟨1, .data⟩, ⟨2, .data⟩], none⟩ rfl ?_
   refine wTk 4 ⟨some 28, .load 45 (.tmp 27), 45, "sort.go:160", #[⟨3, .data⟩], none⟩ rfl ?_
   refine wTk 5 ⟨some 29, .load 45 (.tmp 4), 45, "sort.go:160", #[], none⟩ rfl ?_
   refine wpAnyH_ready (rs := [6]) (by kernel_rfl) (by simp) (.cons rfl (fun K hK => ?_) .nil)
   go_simp
   go_wp2_with fail
   refine (nrS_any s t _).mono ?_
   rintro e w3 ⟨rfl, b3⟩
   have hB3 : Below wr.heap.size wr w3 := (below_drew1 wr).trans b3
   have HB3 := hide (HI.out.1.trans (hB3.mono HI.out.1.size))
   refine hK.out _ _ (HSt.out _ hB3) (fun hHeld => ?_)
   clear hK K b3 hB3
   obtain ⟨z, hz⟩ : ∃ z, nrC s ⟨t.rep, t.hi⟩ = z := ⟨_, rfl⟩
   rw [hz]
   refine wTk 7 ⟨some 31, .binOp .lss 3 (.tmp 30) (.const (.int .i64 0)) 3, 4, "sort.go:160", #[⟨6, .data⟩], none⟩ rfl ?_
   refine wpAnyH_done (by kernel_rfl) ?_ _
   clear hHeld
   by_cases hz0 : z < 0
   ·have HN : Hid (∀ j, j < h + 1 -> nrC (L.getD j sn0) ⟨t.rep, t.hi⟩ < 0) := fun j hj => HM.out j h (by omega) HH.out.2.2 (by rw [Hs.out, hz]; exact hz0)
    clear hz
    go_wp2_with fail
    go_roundw
    case rel => exact ⟨h + 1, hi, by simp, rfl, by have := HH.out; omega, hhn, HB3.out, HN.out, HI.out.2.2⟩
    case measure => simp [intOf]; have := HH.out; omega
   ·have HN : Hid (h < n -> 0 <= nrC (L.getD h sn0) ⟨t.rep, t.hi⟩) := fun _ => by rw [Hs.out, hz]; omega
    clear hz
    go_wp2_with fail
    go_roundw
    case rel => exact ⟨lo, h, rfl, rfl, HH.out.1, by have := HH.out; omega, HB3.out, HI.out.2.1, HN.out⟩
    case measure => simp [intOf]; have := HH.out; omega
  ·have hlti : ¬ (lo : Int) < (hi : Int) := by omega
   obtain rfl : lo = hi := by omega
   have HF : Hid (FirstAt L ⟨t.rep, t.hi⟩ n lo) := ⟨hhn, HI.out.2.1, HI.out.2.2⟩
   have HBw := hide (HB1.out.trans (HI.out.1.mono HB1.out.size))
   by_cases hln : lo < n
   ·have hlni : (lo : Int) < (n : Int) := by omega
    obtain ⟨ad, rfl, A0⟩ := (HX.out.2.below HI.out.1).at lo hln
    obtain ⟨s, Hs⟩ : ∃ s, Hid (L.getD lo sn0 = s) := ⟨_, rfl⟩
    have HSt : Hid (∀ W, Below wr.heap.size wr W -> (ldS (.pointer (some (ad.add (lo * 3))))).run Tryz.prog W = .ok (SV s) W /\ (ldS (.pointer (some ⟨g1, 0, none⟩))).run Tryz.prog W = .ok (SV t) W) := fun W hW => by
     obtain ⟨ad', e', A1⟩ := ((HX.out.2.below HI.out.1).below hW).at lo hln
     obtain rfl := Option.some.inj e'
     rw [Hs.out] at A1
     exact ⟨run_ldS A1, run_ldS ((HX.out.1.below HI.out.1).below hW).sn⟩
    clear A0
    go_upto_region 8 with fail
    refine wp_region_held_drew (S := fun W => (ldS (.pointer (some (ad.add (lo * 3))))).run Tryz.prog W = .ok (SV s) W /\ (ldS (.pointer (some ⟨g1, 0, none⟩))).run Tryz.prog W = .ok (SV t) W) (by kernel_rfl) (HSt.out _ (below_drew1 wr)) (fun hHeld => ?_)
    refine wTk 0 ⟨some 35, .move (.tmp 9), 3, "sort.go:167", #[], none⟩ rfl ?_
    refine wTk 1 ⟨some 36, .move (.tmp 9), 3, "sort.go:167", #[], none⟩ rfl ?_
    refine wTk 2 ⟨some 37, .move (.tmp 8), 3, "sort.go:167", #[], none⟩ rfl ?_
    refine wTk 3 ⟨some 38, .binOp .lss 3 (.tmp 36) (.tmp 37) 3, 4, "sort.go:167", #[⟨1, .data⟩, ⟨2, .data⟩], none⟩ rfl ?_
    refine wTk 4 ⟨some 39, .move (.tmp 38), 4, "sort.go:167", #[⟨3, .data⟩], none⟩ rfl ?_
    refine wTk 5 ⟨some 40, .move (.tmp 2), 125, "sort.go:167", #[⟨4, .guard⟩], some (4, true)⟩ rfl ?_
    refine wTk 6 ⟨some 41, .move (.tmp 0), 25, "sort.go:167", #[⟨4, .guard⟩], some (4, true)⟩ rfl ?_
    refine wTk 7 ⟨some 42, .move (.tmp 9), 3, "sort.go:167", #[⟨4, .guard⟩], some (4, true)⟩ rfl ?_
    refine wTk 8 ⟨some 43, .indexAddr 25 (.tmp 41) (.tmp 42), 0, "sort.go:167", #[⟨6, .data⟩, ⟨7, .data⟩, ⟨4, .guard⟩], some (4, true)⟩ rfl ?_
    refine wTk 9 ⟨some 44, .load 45 (.tmp 43), 45, "sort.go:167", #[⟨8, .data⟩, ⟨4, .guard⟩], some (4, true)⟩ rfl ?_
    refine wTk 10 ⟨some 45, .load 45 (.tmp 4), 45, "sort.go:167", #[⟨4, .guard⟩], some (4, true)⟩ rfl ?_
    refine wpAnyH_ready (rs := [11]) (by kernel_rfl) (by simp) (.cons rfl (fun K hK => ?_) .nil)
    go_simp
    go_wp2_with fail
    refine (nrS_any s t _).mono ?_
    rintro e w3 ⟨rfl, b3⟩
    have hB3 : Below wr.heap.size wr w3 := (below_drew1 wr).trans b3
    have HB3 := hide (HBw.out.trans (hB3.mono HBw.out.size))
    refine hK.out _ _ (HSt.out _ hB3) (fun hHeld => ?_)
    clear hK K b3 hB3
    obtain ⟨z, hz⟩ : ∃ z, nrC s ⟨t.rep, t.hi⟩ = z := ⟨_, rfl⟩
    rw [hz]
    clear hz
    refine wTk 14 ⟨some 6, .assign (.tmp 35), 3, "sort.go:167", #[⟨0, .data⟩, ⟨11, .chain⟩, ⟨0, .phase⟩, ⟨1, .textOnly .lateStores⟩, ⟨2, .textOnly .lateStores⟩, ⟨3, .textOnly .lateStores⟩, ⟨4, .textOnly .lateStores⟩, ⟨5, .textOnly .lateStores⟩, ⟨6, .textOnly .lateStores⟩, ⟨7, .textOnly .lateStores⟩, ⟨8, .textOnly .lateStores⟩, ⟨9, .textOnly .lateStores⟩, ⟨10, .textOnly .lateStores⟩, ⟨11, .textOnly .lateStoresUnsure⟩, ⟨12, .textOnly .lateStores⟩, ⟨13, .textOnly .lateStores⟩], none⟩ rfl ?_
    refine wTk 12 ⟨some 47, .binOp .eql 3 (.tmp 46) (.const (.int .i64 0)) 3, 4, "sort.go:167", #[⟨11, .data⟩, ⟨4, .guard⟩, ⟨14, .gcOnly .lateStores⟩], some (4, true)⟩ rfl ?_
    refine wTk 13 ⟨some 48, .pick (.tmp 39) (.tmp 47) (.const (.bool false)), 4, "sort.go:167", #[⟨4, .data⟩, ⟨12, .data⟩, ⟨14, .gcOnly .lateStores⟩], none⟩ rfl ?_
    refine wTk 15 ⟨some 7, .assign (.tmp 48), 4, "sort.go:167", #[⟨13, .data⟩, ⟨14, .chain⟩, ⟨0, .phase⟩, ⟨1, .phase⟩, ⟨2, .phase⟩, ⟨3, .phase⟩, ⟨4, .phase⟩, ⟨5, .phase⟩, ⟨6, .phase⟩, ⟨7, .phase⟩, ⟨8, .phase⟩, ⟨9, .phase⟩, ⟨10, .phase⟩, ⟨11, .phase⟩, ⟨12, .phase⟩, ⟨13, .phase⟩, ⟨14, .phase⟩], none⟩ rfl ?_
    refine wpAnyH_done (by kernel_rfl) ?_ _
    clear hHeld
    go_wp2_with fail
    go_ret2
    exact ⟨lo, _, rfl, HF.out, HB3.out⟩
   ·have hlni : ¬ (lo : Int) < (n : Int) := by omega
    go_upto_region 8 with fail
    refine wp_region_held_drew (S := fun _ => True) (by kernel_rfl) (trivial) (fun hHeld => ?_)
    refine wTk 0 ⟨some 35, .move (.tmp 9), 3, "sort.go:167", #[], none⟩ rfl ?_
    refine wTk 1 ⟨some 36, .move (.tmp 9), 3, "sort.go:167", #[], none⟩ rfl ?_
    refine wTk 2 ⟨some 37, .move (.tmp 8), 3, "sort.go:167", #[], none⟩ rfl ?_
    refine wTk 3 ⟨some 38, .binOp .lss 3 (.tmp 36) (.tmp 37) 3, 4, "sort.go:167", #[⟨1, .data⟩, ⟨2, .data⟩], none⟩ rfl ?_
    refine wTk 4 ⟨some 39, .move (.tmp 38), 4, "sort.go:167", #[⟨3, .data⟩], none⟩ rfl ?_
    refine wSk 5 ⟨some 40, .move (.tmp 2), 125, "sort.go:167", #[⟨4, .guard⟩], some (4, true)⟩ rfl ?_
    refine wSk 6 ⟨some 41, .move (.tmp 0), 25, "sort.go:167", #[⟨4, .guard⟩], some (4, true)⟩ rfl ?_
    refine wSk 7 ⟨some 42, .move (.tmp 9), 3, "sort.go:167", #[⟨4, .guard⟩], some (4, true)⟩ rfl ?_
    refine wSk 8 ⟨some 43, .indexAddr 25 (.tmp 41) (.tmp 42), 0, "sort.go:167", #[⟨6, .data⟩, ⟨7, .data⟩, ⟨4, .guard⟩], some (4, true)⟩ rfl ?_
    refine wSk 9 ⟨some 44, .load 45 (.tmp 43), 45, "sort.go:167", #[⟨8, .data⟩, ⟨4, .guard⟩], some (4, true)⟩ rfl ?_
    refine wSk 10 ⟨some 45, .load 45 (.tmp 4), 45, "sort.go:167", #[⟨4, .guard⟩], some (4, true)⟩ rfl ?_
    refine wSk 11 ⟨some 46, .call ⟨.value (.tmp 40), #[.tmp 44, .tmp 45], #[45, 45]⟩, 3, "sort.go:167", #[⟨5, .data⟩, ⟨9, .data⟩, ⟨10, .data⟩, ⟨4, .chain⟩, ⟨4, .guard⟩], some (4, true)⟩ rfl ?_
    refine wSk 12 ⟨some 47, .binOp .eql 3 (.tmp 46) (.const (.int .i64 0)) 3, 4, "sort.go:167", #[⟨11, .data⟩, ⟨4, .guard⟩, ⟨14, .gcOnly .lateStores⟩], some (4, true)⟩ rfl ?_
    refine wTk 14 ⟨some 6, .assign (.tmp 35), 3, "sort.go:167", #[⟨0, .data⟩, ⟨11, .chain⟩, ⟨0, .phase⟩, ⟨1, .textOnly .lateStores⟩, ⟨2, .textOnly .lateStores⟩, ⟨3, .textOnly .lateStores⟩, ⟨4, .textOnly .lateStores⟩, ⟨5, .textOnly .lateStores⟩, ⟨6, .textOnly .lateStores⟩, ⟨7, .textOnly .lateStores⟩, ⟨8, .textOnly .lateStores⟩, ⟨9, .textOnly .lateStores⟩, ⟨10, .textOnly .lateStores⟩, ⟨11, .textOnly .lateStoresUnsure⟩, ⟨12, .textOnly .lateStores⟩, ⟨13, .textOnly .lateStores⟩], none⟩ rfl ?_
    refine wTk 13 ⟨some 48, .pick (.tmp 39) (.tmp 47) (.const (.bool false)), 4, "sort.go:167", #[⟨4, .data⟩, ⟨12, .data⟩, ⟨14, .gcOnly .lateStores⟩], none⟩ rfl ?_
    refine wTk 15 ⟨some 7, .assign (.tmp 48), 4, "sort.go:167", #[⟨13, .data⟩, ⟨14, .chain⟩, ⟨0, .phase⟩, ⟨1, .phase⟩, ⟨2, .phase⟩, ⟨3, .phase⟩, ⟨4, .phase⟩, ⟨5, .phase⟩, ⟨6, .phase⟩, ⟨7, .phase⟩, ⟨8, .phase⟩, ⟨9, .phase⟩, ⟨10, .phase⟩, ⟨11, .phase⟩, ⟨12, .phase⟩, ⟨13, .phase⟩, ⟨14, .phase⟩], none⟩ rfl ?_
    refine wpAnyH_done (by kernel_rfl) ?_ _
    clear hHeld
    go_wp2_with fail
    go_ret2
    exact ⟨lo, _, rfl, HF.out, HBw.out.trans ((below_drew1 wr).mono HBw.out.size)⟩
end
section
open Go.RowKit
attribute [local go_sem ↓] ldP_eq stP_eq ldD_eq stD_eq
attribute [local go_sem] cells_PV PC_size
variable {w w' w2 W W' : World} {g : Nat}

def NrA (w w' : World) (e : Ending) (p : Pv) (d : Rn) : Prop := ∃ (q : Pv) (i : Nat), e = .returned (PV q) /\ PSrc w' q /\ FirstAt p.P.cloud d p.cn i /\ q.P = ⟨p.P.vec, (p.P.cloud.drop i).take 1⟩ /\ Below w.heap.size w w'
theorem ssrc_cut {ad : Addr} {n c i : Nat} {L : List Sn} (h : SSrc w (some ad) n c L) (hi : i < n) (c' : Nat) (hc : 1 <= c') : SSrc w (some (ad.add (i * 3))) 1 c' ((L.drop i).take 1) := by
 have hl := h.len
 refine ⟨by rw [List.length_take, List.length_drop]; omega, fun e => (by cases e), fun ad' e t ht => ?_, by omega, hc⟩
 obtain rfl := Option.some.inj e
 obtain rfl : t = 0 := by omega
 have A := h.cell ad rfl i hi
 have e1 : ((L.drop i).take 1).getD 0 sn0 = L.getD i sn0 := by
  rw [List.getD_eq_getElem?_getD, List.getElem?_take, if_pos (by omega), List.getElem?_drop, Nat.add_zero, List.getD_eq_getElem?_getD]
 rw [e1, Nat.zero_mul, add_zero]
 exact A
theorem ssrc_none {L : List Sn} {n c i : Nat} {ao : Option Addr} (hl : L.length = n) (hi : n <= i) (hn : ao = none -> c = 0) : SSrc w ao 0 c ((L.drop i).take 1) := by
 have e : (L.drop i).take 1 = [] := by rw [List.drop_eq_nil_of_le (by omega)]; rfl
 rw [e]
 exact ⟨rfl, fun h => ⟨rfl, hn h⟩, fun ad h t ht => (by omega), by omega, Nat.zero_le _⟩
theorem near_any (p : Pv) (d : Rn) (w : World) (hS : PSrc w p) (hm : ∀ a b, a <= b -> b < p.cn -> nrC (p.P.cloud.getD b sn0) d < 0 -> nrC (p.P.cloud.getD a sn0) d < 0) : Calls Tryz.prog 129 #[PV p, RV d] w fun e w' => NrA w w' e p d := by
 have b1 := below_new w (.cells (PC p) 27)
 have x1 := pbox_new w p
 have s1 := World.size_alloc w (.cells (PC p) 27)
 obtain ⟨w1, hw1⟩ : ∃ w1, w.alloc (.cells (PC p) 27) = w1 := ⟨_, rfl⟩
 obtain ⟨g1, hg1⟩ : ∃ g1, w.heap.size = g1 := ⟨_, rfl⟩
 rw [hw1] at b1 x1 s1
 rw [hg1] at x1 s1
 have b2 := below_new w1 (.cells (RC d) 47)
 have x2 := box_new w1 47 d
 have s2 := World.size_alloc w1 (.cells (RC d) 47)
 obtain ⟨w2, hw2⟩ : ∃ w2, w1.alloc (.cells (RC d) 47) = w2 := ⟨_, rfl⟩
 rw [hw2] at b2 x2 s2
 rw [s1] at x2 s2
 have b3 := below_new w2 (.cells #[.slice none 0 0, .slice none 0 0] 27)
 have x3 : PBox (w2.alloc (.cells #[.slice none 0 0, .slice none 0 0] 27)) w2.heap.size pv0 := pbox_new w2 pv0
 obtain ⟨w3, hw3⟩ : ∃ w3, w2.alloc (.cells #[.slice none 0 0, .slice none 0 0] 27) = w3 := ⟨_, rfl⟩
 rw [hw3] at b3 x3
 rw [s2] at x3
 have b13 := b1.trans ((b2.trans (b3.mono b2.size)).mono b1.size)
 have hX1 := (x1.below b2).below b3
 have HX : Hid (PBox w3 g1 p /\ PBox w3 (g1 + 1 + 1) pv0 /\ PSrc w3 p /\ Below w.heap.size w w3 /\ w.heap.size = g1) := ⟨hX1, x3, hS.below b13, b13, hg1⟩
 have ld := run_ldD (x2.below b3).at
 obtain ⟨y0, y1⟩ := hX1.nums
 have HBs := hide (bsF_any p.co p.cn p.cc p.P.cloud d w3 HX.out.2.2.1.cloud hm)
 have HS := hide hS
 clear b1 b2 b3 x1 x2 x3 b13 hX1 hS hm
 go_enter Tryz.func129, Tryz.ntmps129
 go_wp2_with fail
 clear hw1 hw2 hw3 s1 s2 hg1 ld y0 y1
 refine HBs.out.mono ?_
 rintro e w4 ⟨i, fb, rfl, hF, b4⟩
 have HF := hide hF
 have hin : i <= p.cn := hF.1
 have hnb : p.cn <= 5864062014805 := HX.out.2.2.1.cloud.big
 have HB4 := hide (HX.out.2.2.2.1.trans (b4.mono HX.out.2.2.2.1.size))
 have HX4 : Hid (PBox w4 g1 p /\ PBox w4 (g1 + 1 + 1) pv0 /\ PSrc w4 p) := ⟨HX.out.1.below b4, HX.out.2.1.below b4, HX.out.2.2.1.below b4⟩
 have HSt : Hid (∀ (W : World) co cn cc, W.heap[g1]? = w4.heap[g1]? -> p.co = co -> p.cn = cn -> p.cc = cc -> W.cell? ⟨g1, 0, none⟩ = some (.slice p.vo p.vn p.vc) /\ W.cell? ⟨g1, 1, none⟩ = some (.slice co cn cc)) := fun W co cn cc hW h1 h2 h3 => by rw [<- h1, <- h2, <- h3]; exact PBox.nums (show PBox W g1 p from hW.trans HX4.out.1)
 have HEn : Hid (∀ (q : Pv), PSrc w q -> q.P = ⟨p.P.vec, (p.P.cloud.drop i).take 1⟩ -> (stP (.pointer (some ⟨g1 + 1 + 1, 0, none⟩)) (PV q)).run Tryz.prog w4.drew = .ok () (w4.drew.setRow (g1 + 1 + 1) (PC q)) /\ PBox (w4.drew.setRow (g1 + 1 + 1) (PC q)) (g1 + 1 + 1) q /\ NrA w (w4.drew.setRow (g1 + 1 + 1) (PC q)) (.returned (PV q)) p d) := fun q hq hP => by
  have hb : Below w.heap.size w (w4.drew.setRow (g1 + 1 + 1) (PC q)) := below_setRow (HB4.out.trans ((below_drew1 w4).mono HB4.out.size)) (by have := HX.out.2.2.2.2; omega)
  have hX : PBox w4.drew (g1 + 1 + 1) pv0 := HX4.out.2.1.below (below_drew1 w4)
  exact ⟨run_stP (p' := q) hX, setRow_heap _ _ _ _ _ _ hX, q, i, rfl, hq.below hb, HF.out, hP, hb⟩
 obtain ⟨u, hu⟩ : ∃ u : Nat, i + 1 = u := ⟨_, rfl⟩
 have eu : (i : Int) + 1 = (u : Int) := by omega
 have ew : IntKind.i64.wrap (u : Int) = (u : Int) := by rw [IntKind.wrap_i64]; omega
 clear hF b4 HBs
 by_cases hlt : i < p.cn
 ·have emin : min (u : Int) (p.cn : Int) = (u : Int) := by omega
  obtain ⟨ad, hco, -⟩ := HS.out.cloud.at i hlt
  have hcap := HS.out.cloud.cap
  have hci : ¬ p.cc = i := by omega
  have h1 : (u : Int) <= (p.cc : Int) := by omega
  have h2 : i <= u := by omega
  have h3 : u <= p.cc := by omega
  obtain ⟨t8, x8, hE⟩ := HEn.out ⟨p.vo, p.vn, p.vc, some (ad.add (i * 3)), u - i, p.cc - i, ⟨p.P.vec, (p.P.cloud.drop i).take 1⟩⟩ ⟨HS.out.vec, by rw [show u - i = 1 by omega]; exact ssrc_cut (hco ▸ HS.out.cloud) hlt (p.cc - i) (show 1 <= p.cc - i by omega), HS.out.big⟩ rfl
  replace t8 : (stP (.pointer (some ⟨g1 + 1 + 1, 0, none⟩)) (.agg #[.slice p.vo p.vn p.vc, .slice (some (ad.add (i * 3))) (u - i) (p.cc - i)])).run Tryz.prog w4.drew = .ok () (w4.drew.setRow (g1 + 1 + 1) (PC ⟨p.vo, p.vn, p.vc, some (ad.add (i * 3)), u - i, p.cc - i, ⟨p.P.vec, (p.P.cloud.drop i).take 1⟩⟩)) := t8
  have HX8 := hide x8
  have HE := hide hE
  clear x8 hE
  go_upto_region 2 with fail
  refine wp_region_held_drew (S := fun W => W.cell? ⟨g1, 0, none⟩ = some (.slice p.vo p.vn p.vc) /\ W.cell? ⟨g1, 1, none⟩ = some (.slice (some ad) p.cn p.cc)) (by kernel_rfl) (HSt.out _ _ _ _ rfl hco rfl rfl) (fun hHeld => ?_)
  refine wTk 0 ⟨some 14, .fieldAddr 27 (.tmp 2) 0, 0, "picks.go:87", #[], none⟩ rfl ?_
  refine wTk 1 ⟨some 15, .load 24 (.tmp 14), 24, "picks.go:87", #[⟨0, .data⟩], none⟩ rfl ?_
  refine wTk 2 ⟨some 16, .fieldAddr 27 (.tmp 2) 1, 0, "picks.go:87", #[], none⟩ rfl ?_
  refine wTk 3 ⟨some 17, .load 25 (.tmp 16), 25, "picks.go:87", #[⟨2, .data⟩], none⟩ rfl ?_
  refine wTk 4 ⟨some 18, .move (.tmp 5), 3, "picks.go:87", #[], none⟩ rfl ?_
  refine wTk 5 ⟨some 19, .move (.tmp 5), 3, "picks.go:87", #[], none⟩ rfl ?_
  refine wTk 6 ⟨some 20, .binOp .add 3 (.tmp 19) (.const (.int .i64 1)) 3, 3, "picks.go:87", #[⟨5, .data⟩], none⟩ rfl ?_
  refine wTk 7 ⟨some 21, .fieldAddr 27 (.tmp 2) 1, 0, "picks.go:87", #[], none⟩ rfl ?_
  refine wTk 8 ⟨some 22, .load 25 (.tmp 21), 25, "picks.go:87", #[⟨7, .data⟩], none⟩ rfl ?_
  refine wTk 9 ⟨some 23, .call ⟨.builtin .len, #[.tmp 22], #[25]⟩, 3, "picks.go:87", #[⟨8, .data⟩], none⟩ rfl ?_
  refine wTk 10 ⟨some 24, .call ⟨.builtin .min, #[.tmp 20, .tmp 23], #[3, 3]⟩, 3, "picks.go:87", #[⟨6, .data⟩, ⟨9, .data⟩], none⟩ rfl ?_
  refine wpAnyH_take (i := 11) (oi := ⟨some 25, .slice 25 (.tmp 17) (some (.tmp 18)) (some (.tmp 24)) none, 25, "picks.go:87", #[⟨3, .data⟩, ⟨4, .data⟩, ⟨10, .data⟩], none⟩) (v := .slice (some (ad.add (i * 3))) (u - i) (p.cc - i)) rfl (by kernel_rfl) (by kernel_rfl) (by kernel_rfl) (fun _ _ _ h => h) (Or.inl ⟨by rfl, ?_⟩) (by assumption) ?_
  skip
  ·(intro w hSw; (try dsimp only at hSw); go_simp); first | done | with_reducible rfl
  simp only [Act.put, List.setIfInBounds_toArray, List.set_cons_zero, List.set_cons_succ]
  refine wTk 12 ⟨some 26, .build 27 #[(0, .tmp 15), (1, .tmp 25)], 27, "picks.go:87", #[⟨1, .data⟩, ⟨11, .data⟩], none⟩ rfl ?_
  refine wpAnyH_ready (rs := [13]) (by kernel_rfl) (by simp) (.cons rfl (fun K hK => ?_) .nil)
  go_simp
  refine hK.out _ _ (HSt.out _ _ _ _ ?_ hco rfl rfl) (fun hHeld => ?_)
  ·exact setRow_other _ _ _ _ (by omega)
  clear hK K t8
  refine wpAnyH_done (by kernel_rfl) ?_ _
  clear hHeld
  go_wp2_with fail
  refine bodyPost_ret (resP rfl rfl HX8.out) rfl ?_
  exact HE.out
 ·obtain rfl : i = p.cn := by omega
  have emin : min (u : Int) (p.cn : Int) = (p.cn : Int) := by omega
  have hl := HS.out.cloud.len
  cases hco : p.co with
  | none =>
   obtain ⟨hn0, hc0⟩ := HS.out.cloud.nil hco
   have hn0i : (p.cn : Int) = 0 := by omega
   have emin0 : min (1 : Int) 0 = 0 := by decide
   have ew1 : IntKind.i64.wrap (1 : Int) = 1 := by rw [IntKind.wrap_i64]; decide
   obtain ⟨t8, x8, hE⟩ := HEn.out ⟨p.vo, p.vn, p.vc, none, 0, 0, ⟨p.P.vec, (p.P.cloud.drop p.cn).take 1⟩⟩ ⟨HS.out.vec, ssrc_none hl (Nat.le_refl _) (fun _ => rfl), HS.out.big⟩ rfl
   replace t8 : (stP (.pointer (some ⟨g1 + 1 + 1, 0, none⟩)) (.agg #[.slice p.vo p.vn p.vc, .slice none 0 0])).run Tryz.prog w4.drew = .ok () (w4.drew.setRow (g1 + 1 + 1) (PC ⟨p.vo, p.vn, p.vc, none, 0, 0, ⟨p.P.vec, (p.P.cloud.drop p.cn).take 1⟩⟩)) := t8
   have HX8 := hide x8
   have HE := hide hE
   clear x8 hE
   go_upto_region 2 with fail
   refine wp_region_held_drew (S := fun W => W.cell? ⟨g1, 0, none⟩ = some (.slice p.vo p.vn p.vc) /\ W.cell? ⟨g1, 1, none⟩ = some (.slice none 0 0)) (by kernel_rfl) (HSt.out _ _ _ _ rfl hco hn0 hc0) (fun hHeld => ?_)
   refine wTk 0 ⟨some 14, .fieldAddr 27 (.tmp 2) 0, 0, "picks.go:87", #[], none⟩ rfl ?_
   refine wTk 1 ⟨some 15, .load 24 (.tmp 14), 24, "picks.go:87", #[⟨0, .data⟩], none⟩ rfl ?_
   refine wTk 2 ⟨some 16, .fieldAddr 27 (.tmp 2) 1, 0, "picks.go:87", #[], none⟩ rfl ?_
   refine wTk 3 ⟨some 17, .load 25 (.tmp 16), 25, "picks.go:87", #[⟨2, .data⟩], none⟩ rfl ?_
   refine wTk 4 ⟨some 18, .move (.tmp 5), 3, "picks.go:87", #[], none⟩ rfl ?_
   refine wTk 5 ⟨some 19, .move (.tmp 5), 3, "picks.go:87", #[], none⟩ rfl ?_
   refine wTk 6 ⟨some 20, .binOp .add 3 (.tmp 19) (.const (.int .i64 1)) 3, 3, "picks.go:87", #[⟨5, .data⟩], none⟩ rfl ?_
   refine wTk 7 ⟨some 21, .fieldAddr 27 (.tmp 2) 1, 0, "picks.go:87", #[], none⟩ rfl ?_
   refine wTk 8 ⟨some 22, .load 25 (.tmp 21), 25, "picks.go:87", #[⟨7, .data⟩], none⟩ rfl ?_
   refine wTk 9 ⟨some 23, .call ⟨.builtin .len, #[.tmp 22], #[25]⟩, 3, "picks.go:87", #[⟨8, .data⟩], none⟩ rfl ?_
   refine wTk 10 ⟨some 24, .call ⟨.builtin .min, #[.tmp 20, .tmp 23], #[3, 3]⟩, 3, "picks.go:87", #[⟨6, .data⟩, ⟨9, .data⟩], none⟩ rfl ?_
   refine wpAnyH_take (i := 11) (oi := ⟨some 25, .slice 25 (.tmp 17) (some (.tmp 18)) (some (.tmp 24)) none, 25, "picks.go:87", #[⟨3, .data⟩, ⟨4, .data⟩, ⟨10, .data⟩], none⟩) (v := .slice none 0 0) rfl (by kernel_rfl) (by kernel_rfl) (by kernel_rfl) (fun _ _ _ h => h) (Or.inl ⟨by rfl, ?_⟩) (by assumption) ?_
   skip
   ·(intro w hSw; (try dsimp only at hSw); go_simp); first | done | with_reducible rfl
   simp only [Act.put, List.setIfInBounds_toArray, List.set_cons_zero, List.set_cons_succ]
   refine wTk 12 ⟨some 26, .build 27 #[(0, .tmp 15), (1, .tmp 25)], 27, "picks.go:87", #[⟨1, .data⟩, ⟨11, .data⟩], none⟩ rfl ?_
   refine wpAnyH_ready (rs := [13]) (by kernel_rfl) (by simp) (.cons rfl (fun K hK => ?_) .nil)
   go_simp
   refine hK.out _ _ (HSt.out _ _ _ _ ?_ hco hn0 hc0) (fun hHeld => ?_)
   ·exact setRow_other _ _ _ _ (by omega)
   clear hK K t8
   refine wpAnyH_done (by kernel_rfl) ?_ _
   clear hHeld
   go_wp2_with fail
   refine bodyPost_ret (resP rfl rfl HX8.out) rfl ?_
   exact HE.out
  | some ad =>
   have hcap := HS.out.cloud.cap
   by_cases hcc : p.cc = p.cn
   ·obtain ⟨t8, x8, hE⟩ := HEn.out ⟨p.vo, p.vn, p.vc, some ad, 0, 0, ⟨p.P.vec, (p.P.cloud.drop p.cn).take 1⟩⟩ ⟨HS.out.vec, ssrc_none hl (Nat.le_refl _) (fun h => by cases h), HS.out.big⟩ rfl
    replace t8 : (stP (.pointer (some ⟨g1 + 1 + 1, 0, none⟩)) (.agg #[.slice p.vo p.vn p.vc, .slice (some ad) 0 0])).run Tryz.prog w4.drew = .ok () (w4.drew.setRow (g1 + 1 + 1) (PC ⟨p.vo, p.vn, p.vc, some ad, 0, 0, ⟨p.P.vec, (p.P.cloud.drop p.cn).take 1⟩⟩)) := t8
    have HX8 := hide x8
    have HE := hide hE
    clear x8 hE
    go_upto_region 2 with fail
    refine wp_region_held_drew (S := fun W => W.cell? ⟨g1, 0, none⟩ = some (.slice p.vo p.vn p.vc) /\ W.cell? ⟨g1, 1, none⟩ = some (.slice (some ad) p.cn p.cn)) (by kernel_rfl) (HSt.out _ _ _ _ rfl hco rfl hcc) (fun hHeld => ?_)
    refine wTk 0 ⟨some 14, .fieldAddr 27 (.tmp 2) 0, 0, "picks.go:87", #[], none⟩ rfl ?_
    refine wTk 1 ⟨some 15, .load 24 (.tmp 14), 24, "picks.go:87", #[⟨0, .data⟩], none⟩ rfl ?_
    refine wTk 2 ⟨some 16, .fieldAddr 27 (.tmp 2) 1, 0, "picks.go:87", #[], none⟩ rfl ?_
    refine wTk 3 ⟨some 17, .load 25 (.tmp 16), 25, "picks.go:87", #[⟨2, .data⟩], none⟩ rfl ?_
    refine wTk 4 ⟨some 18, .move (.tmp 5), 3, "picks.go:87", #[], none⟩ rfl ?_
    refine wTk 5 ⟨some 19, .move (.tmp 5), 3, "picks.go:87", #[], none⟩ rfl ?_
    refine wTk 6 ⟨some 20, .binOp .add 3 (.tmp 19) (.const (.int .i64 1)) 3, 3, "picks.go:87", #[⟨5, .data⟩], none⟩ rfl ?_
    refine wTk 7 ⟨some 21, .fieldAddr 27 (.tmp 2) 1, 0, "picks.go:87", #[], none⟩ rfl ?_
    refine wTk 8 ⟨some 22, .load 25 (.tmp 21), 25, "picks.go:87", #[⟨7, .data⟩], none⟩ rfl ?_
    refine wTk 9 ⟨some 23, .call ⟨.builtin .len, #[.tmp 22], #[25]⟩, 3, "picks.go:87", #[⟨8, .data⟩], none⟩ rfl ?_
    refine wTk 10 ⟨some 24, .call ⟨.builtin .min, #[.tmp 20, .tmp 23], #[3, 3]⟩, 3, "picks.go:87", #[⟨6, .data⟩, ⟨9, .data⟩], none⟩ rfl ?_
    refine wpAnyH_take (i := 11) (oi := ⟨some 25, .slice 25 (.tmp 17) (some (.tmp 18)) (some (.tmp 24)) none, 25, "picks.go:87", #[⟨3, .data⟩, ⟨4, .data⟩, ⟨10, .data⟩], none⟩) (v := .slice (some ad) 0 0) rfl (by kernel_rfl) (by kernel_rfl) (by kernel_rfl) (fun _ _ _ h => h) (Or.inl ⟨by rfl, ?_⟩) (by assumption) ?_
    skip
    ·(intro w hSw; (try dsimp only at hSw); go_simp); first | done | with_reducible rfl
    simp only [Act.put, List.setIfInBounds_toArray, List.set_cons_zero, List.set_cons_succ]
    refine wTk 12 ⟨some 26, .build 27 #[(0, .tmp 15), (1, .tmp 25)], 27, "picks.go:87", #[⟨1, .data⟩, ⟨11, .data⟩], none⟩ rfl ?_
    refine wpAnyH_ready (rs := [13]) (by kernel_rfl) (by simp) (.cons rfl (fun K hK => ?_) .nil)
    go_simp
    refine hK.out _ _ (HSt.out _ _ _ _ ?_ hco rfl hcc) (fun hHeld => ?_)
    ·exact setRow_other _ _ _ _ (by omega)
    clear hK K t8
    refine wpAnyH_done (by kernel_rfl) ?_ _
    clear hHeld
    go_wp2_with fail
    refine bodyPost_ret (resP rfl rfl HX8.out) rfl ?_
    exact HE.out
   ·obtain ⟨t8, x8, hE⟩ := HEn.out ⟨p.vo, p.vn, p.vc, some (ad.add (p.cn * 3)), 0, p.cc - p.cn, ⟨p.P.vec, (p.P.cloud.drop p.cn).take 1⟩⟩ ⟨HS.out.vec, ssrc_none hl (Nat.le_refl _) (fun h => by cases h), HS.out.big⟩ rfl
    replace t8 : (stP (.pointer (some ⟨g1 + 1 + 1, 0, none⟩)) (.agg #[.slice p.vo p.vn p.vc, .slice (some (ad.add (p.cn * 3))) 0 (p.cc - p.cn)])).run Tryz.prog w4.drew = .ok () (w4.drew.setRow (g1 + 1 + 1) (PC ⟨p.vo, p.vn, p.vc, some (ad.add (p.cn * 3)), 0, p.cc - p.cn, ⟨p.P.vec, (p.P.cloud.drop p.cn).take 1⟩⟩)) := t8
    have HX8 := hide x8
    have HE := hide hE
    clear x8 hE
    go_upto_region 2 with fail
    refine wp_region_held_drew (S := fun W => W.cell? ⟨g1, 0, none⟩ = some (.slice p.vo p.vn p.vc) /\ W.cell? ⟨g1, 1, none⟩ = some (.slice (some ad) p.cn p.cc)) (by kernel_rfl) (HSt.out _ _ _ _ rfl hco rfl rfl) (fun hHeld => ?_)
    refine wTk 0 ⟨some 14, .fieldAddr 27 (.tmp 2) 0, 0, "picks.go:87", #[], none⟩ rfl ?_
    refine wTk 1 ⟨some 15, .load 24 (.tmp 14), 24, "picks.go:87", #[⟨0, .data⟩], none⟩ rfl ?_
    refine wTk 2 ⟨some 16, .fieldAddr 27 (.tmp 2) 1, 0, "picks.go:87", #[], none⟩ rfl ?_
    refine wTk 3 ⟨some 17, .load 25 (.tmp 16), 25, "picks.go:87", #[⟨2, .data⟩], none⟩ rfl ?_
    refine wTk 4 ⟨some 18, .move (.tmp 5), 3, "picks.go:87", #[], none⟩ rfl ?_
    refine wTk 5 ⟨some 19, .move (.tmp 5), 3, "picks.go:87", #[], none⟩ rfl ?_
    refine wTk 6 ⟨some 20, .binOp .add 3 (.tmp 19) (.const (.int .i64 1)) 3, 3, "picks.go:87", #[⟨5, .data⟩], none⟩ rfl ?_
    refine wTk 7 ⟨some 21, .fieldAddr 27 (.tmp 2) 1, 0, "picks.go:87", #[], none⟩ rfl ?_
    refine wTk 8 ⟨some 22, .load 25 (.tmp 21), 25, "picks.go:87", #[⟨7, .data⟩], none⟩ rfl ?_
    refine wTk 9 ⟨some 23, .call ⟨.builtin .len, #[.tmp 22], #[25]⟩, 3, "picks.go:87", #[⟨8, .data⟩], none⟩ rfl ?_
    refine wTk 10 ⟨some 24, .call ⟨.builtin .min, #[.tmp 20, .tmp 23], #[3, 3]⟩, 3, "picks.go:87", #[⟨6, .data⟩, ⟨9, .data⟩], none⟩ rfl ?_
    refine wpAnyH_take (i := 11) (oi := ⟨some 25, .slice 25 (.tmp 17) (some (.tmp 18)) (some (.tmp 24)) none, 25, "picks.go:87", #[⟨3, .data⟩, ⟨4, .data⟩, ⟨10, .data⟩], none⟩) (v := .slice (some (ad.add (p.cn * 3))) 0 (p.cc - p.cn)) rfl (by kernel_rfl) (by kernel_rfl) (by kernel_rfl) (fun _ _ _ h => h) (Or.inl ⟨by rfl, ?_⟩) (by assumption) ?_
    skip
    ·(intro w hSw; (try dsimp only at hSw); go_simp); first | done | with_reducible rfl
    simp only [Act.put, List.setIfInBounds_toArray, List.set_cons_zero, List.set_cons_succ]
    refine wTk 12 ⟨some 26, .build 27 #[(0, .tmp 15), (1, .tmp 25)], 27, "picks.go:87", #[⟨1, .data⟩, ⟨11, .data⟩], none⟩ rfl ?_
    refine wpAnyH_ready (rs := [13]) (by kernel_rfl) (by simp) (.cons rfl (fun K hK => ?_) .nil)
    go_simp
    refine hK.out _ _ (HSt.out _ _ _ _ ?_ hco rfl rfl) (fun hHeld => ?_)
    ·exact setRow_other _ _ _ _ (by omega)
    clear hK K t8
    refine wpAnyH_done (by kernel_rfl) ?_ _
    clear hHeld
    go_wp2_with fail
    refine bodyPost_ret (resP rfl rfl HX8.out) rfl ?_
    exact HE.out
end
end Go.Proofs.YtalcmdjiejhkgaaGreat
namespace Go.Proofs.YtalcmdjiejhkgaaGreat.K
section
open Go.RowKit

theorem hide {p : Prop} (h : p) : Hid p := h
def dig (c : UInt8) : Bool := decide (48 <= (c.toNat : Int)) && decide ((c.toNat : Int) <= 57)
theorem ret_bool {a b : Bool} (h : a = b) : Ending.returned (.bool a) = .returned (.bool b) := by rw [h]
theorem ret_int {k : IntKind} {a b : Int} (h : a = b) : Ending.returned (.int k a) = .returned (.int k b) := by rw [h]
theorem ret_two {a a' b b' : Int} (h : a = a') (h2 : b = b') : Ending.returned (.tuple #[.int .i64 a, .int .i64 b]) = .returned (.tuple #[.int .i64 a', .int .i64 b']) := by rw [h, h2]
theorem empty_yes (s : ByteArray) (h : s.size = 0) : s.toList.isEmpty = true := by
 rw [ByteArray.toList_eq, List.isEmpty_iff, <- List.length_eq_zero_iff]; simpa using h
theorem empty_no (s : ByteArray) (h : ¬ s.size = 0) : s.toList.isEmpty = false := by
 rw [ByteArray.toList_eq, List.isEmpty_eq_false_iff, <- List.length_pos_iff]; have : s.data.size = s.size := rfl; simp; omega
end
section
open Go.RowKit

def mk (c : UInt8) : Bool := ((c.toNat : Int) == 45) || ((c.toNat : Int) == 46)
def lt (c : UInt8) : Bool := decide (65 <= (c.toNat : Int)) && decide ((c.toNat : Int) <= 90)

theorem isMark_any (c : UInt8) (w : World) : Calls Tryz.prog 188 #[.int .u8 (c.toNat : Int)] w fun e w' => e = .returned (.bool (mk c)) /\ w' = w := by
 by_cases h : (c.toNat : Int) = 45
 ·have h' : ((c.toNat : Int) == 45) = true := by simpa using h
  have HM : Hid (mk c = true) := by show _ = _; unfold mk; rw [h']; rfl
  clear h
  go_enter Tryz.func188, Tryz.ntmps188
  go_wp2
  go_ret
  exact ⟨ret_bool HM.out.symm, rfl⟩
 ·have h' : ((c.toNat : Int) == 45) = false := by simpa using h
  have HM : Hid (((c.toNat : Int) == 46) = mk c) := by show _ = _; unfold mk; rw [h']; rfl
  clear h
  go_enter Tryz.func188, Tryz.ntmps188
  go_wp2
  go_ret
  exact ⟨ret_bool HM.out, rfl⟩
theorem isLetter_any (c : UInt8) (w : World) : Calls Tryz.prog 189 #[.int .u8 (c.toNat : Int)] w fun e w' => e = .returned (.bool (lt c)) /\ w' = w := by
 by_cases h : 65 <= (c.toNat : Int)
 ·have HM : Hid (decide ((c.toNat : Int) <= 90) = lt c) := by show _ = _; unfold lt; rw [decide_eq_true h, Bool.true_and]
  go_enter Tryz.func189, Tryz.ntmps189
  go_wp2
  go_ret
  exact ⟨ret_bool HM.out, rfl⟩
 ·have HM : Hid (false = lt c) := by show _ = _; unfold lt; rw [decide_eq_false h, Bool.false_and]
  go_enter Tryz.func189, Tryz.ntmps189
  go_wp2
  go_ret
  exact ⟨ret_bool HM.out, rfl⟩
theorem isDigit_any (c : UInt8) (w : World) : Calls Tryz.prog 190 #[.int .u8 (c.toNat : Int)] w fun e w' => e = .returned (.bool (dig c)) /\ w' = w := by
 by_cases h : 48 <= (c.toNat : Int)
 ·have HM : Hid (decide ((c.toNat : Int) <= 57) = dig c) := by show _ = _; unfold dig; rw [decide_eq_true h, Bool.true_and]
  go_enter Tryz.func190, Tryz.ntmps190
  go_wp2
  go_ret
  exact ⟨ret_bool HM.out, rfl⟩
 ·have HM : Hid (false = dig c) := by show _ = _; unfold dig; rw [decide_eq_false h, Bool.false_and]
  go_enter Tryz.func190, Tryz.ntmps190
  go_wp2
  go_ret
  exact ⟨ret_bool HM.out, rfl⟩

def stand (l : List UInt8) (i : Nat) : Bool :=
 if mk (l.getD i 0) = true then (decide (0 < i) && decide (i + 1 < l.length)) && !mk (l.getD (i - 1) 0) else lt (l.getD i 0) || dig (l.getD i 0)
theorem getD_at (s : ByteArray) (i : Nat) (h : i < s.size) : s.data.toList.getD i 0 = s[i] := by
 rw [List.getD, List.getElem?_eq_getElem (by simpa using h)]; rfl
theorem len_at (s : ByteArray) : s.data.toList.length = s.size := by simp

theorem canStand_any (s : ByteArray) (i : Nat) (w : World) (hi : i < s.size) (hs : s.size <= 1000) : Calls Tryz.prog 174 #[.string s, .int .i64 i] w fun e w' => e = .returned (.bool (stand s.data.toList i)) /\ w' = w := by
 cases hm : mk s[i] with
 | true =>
  have HM := hide hm
  clear hm
  by_cases h0 : 0 < i
  ·by_cases h1 : i + 1 < s.size
   ·have HS : Hid ((!mk (s[i - 1]'(by omega))) = stand s.data.toList i) := by
     show _ = _
     unfold stand
     rw [getD_at s i hi, getD_at s (i - 1) (by omega), len_at, if_pos HM.out, decide_eq_true h0, decide_eq_true h1]; rfl
    have hz : ((i : Int) - 1).toNat = i - 1 := by omega
    have h1' : (i : Int) < (s.size : Int) - 1 := by omega
    have hK := hide (isMark_any (s[i - 1]'(by omega)))
    obtain ⟨x, hx⟩ : ∃ x : Int, ((s[i - 1]'(by omega)).toNat : Int) = x := ⟨_, rfl⟩
    rw [hx] at hK
    go_enter Tryz.func174, Tryz.ntmps174
    go_wp2_with fail
    refine (isMark_any s[i] _).mono ?_
    rintro e w' ⟨rfl, rfl⟩
    rw [HM.out]
    go_wp2_with fail
    refine (hK.out _).mono ?_
    rintro e w' ⟨rfl, rfl⟩
    go_wp2
    go_ret
    exact ⟨ret_bool HS.out, rfl⟩
   ·have HS : Hid (false = stand s.data.toList i) := by
     show _ = _
     unfold stand
     rw [getD_at s i hi, len_at, if_pos HM.out, decide_eq_true h0, decide_eq_false h1]; rfl
    have h1' : ¬ (i : Int) < (s.size : Int) - 1 := by omega
    go_enter Tryz.func174, Tryz.ntmps174
    go_wp2_with fail
    refine (isMark_any s[i] _).mono ?_
    rintro e w' ⟨rfl, rfl⟩
    rw [HM.out]
    go_wp2
    go_ret
    exact ⟨ret_bool HS.out, rfl⟩
  ·have HS : Hid (false = stand s.data.toList i) := by
    show _ = _
    unfold stand
    rw [getD_at s i hi, len_at, if_pos HM.out, decide_eq_false h0]; rfl
   obtain rfl : i = 0 := by omega
   go_enter Tryz.func174, Tryz.ntmps174
   go_wp2_with fail
   refine (isMark_any s[0] _).mono ?_
   rintro e w' ⟨rfl, rfl⟩
   rw [HM.out]
   go_wp2
   go_ret
   exact ⟨ret_bool HS.out, rfl⟩
 | false =>
  have HM := hide hm
  clear hm
  cases hl : lt s[i] with
  | true =>
   have HLt := hide hl
   clear hl
   have HS : Hid (true = stand s.data.toList i) := by
    show _ = _
    unfold stand
    rw [getD_at s i hi, if_neg (by rw [HM.out]; simp), HLt.out]; rfl
   go_enter Tryz.func174, Tryz.ntmps174
   go_wp2_with (first | (go_at_call 188; refine (isMark_any s[i] _).mono ?_; rintro e w' ⟨rfl, rfl⟩; rw [HM.out]) | (go_at_call 189; refine (isLetter_any s[i] _).mono ?_; rintro e w' ⟨rfl, rfl⟩; rw [HLt.out]))
   go_ret
   exact ⟨ret_bool HS.out, rfl⟩
  | false =>
   have HLt := hide hl
   clear hl
   have HS : Hid (dig s[i] = stand s.data.toList i) := by
    show _ = _
    unfold stand
    rw [getD_at s i hi, if_neg (by rw [HM.out]; simp), HLt.out]; rfl
   go_enter Tryz.func174, Tryz.ntmps174
   go_wp2_with (first | (go_at_call 188; refine (isMark_any s[i] _).mono ?_; rintro e w' ⟨rfl, rfl⟩; rw [HM.out]) | (go_at_call 189; refine (isLetter_any s[i] _).mono ?_; rintro e w' ⟨rfl, rfl⟩; rw [HLt.out]) | (go_at_call 190; refine (isDigit_any s[i] _).mono ?_; rintro e w' ⟨rfl, rfl⟩))
   go_ret
   exact ⟨ret_bool HS.out, rfl⟩

def stands (l : List UInt8) (k : Nat) : Bool := (List.range k).all (stand l)
def ckE (l : List UInt8) : Int := if l.length = 0 then 20 else if 24 < l.length then 21 else if stands l l.length = true then 0 else 22
theorem stands_succ (l : List UInt8) (k : Nat) : stands l (k + 1) = (stands l k && stand l k) := by
 unfold stands; rw [List.range_succ, List.all_append]; simp
theorem stands_no (l : List UInt8) (k n : Nat) (h : k < n) (hs : stand l k = false) : stands l n = false := by
 unfold stands; rw [List.all_eq_false]; exact ⟨k, by simpa using h, by rw [hs]; simp⟩

theorem check_any (s : ByteArray) (w : World) (hs : s.size <= maxLen) : Calls Tryz.prog 148 #[.string s] w fun e w' => (∃ p : Int, e = .returned (.tuple #[.int .i64 p, .int .i64 (ckE s.data.toList)])) /\ w' = w := by
 unfold maxLen at hs
 by_cases h0 : s.size = 0
 ·have he := empty_yes s h0
  have HE : Hid (ckE s.data.toList = 20) := by show _ = _; unfold ckE; rw [len_at, if_pos h0]
  go_enter Tryz.func148, Tryz.ntmps148
  go_wp2
  go_ret2
  exact ⟨⟨0, ret_two rfl HE.out.symm⟩, rfl⟩
 have he := empty_no s h0
 by_cases h24 : 24 < s.size
 ·have HE : Hid (ckE s.data.toList = 21) := by show _ = _; unfold ckE; rw [len_at, if_neg h0, if_pos h24]
  have h24' : (24 : Int) < s.size := by omega
  go_enter Tryz.func148, Tryz.ntmps148
  go_wp2
  go_ret2
  exact ⟨⟨0, ret_two rfl HE.out.symm⟩, rfl⟩
 have h24' : ¬ (24 : Int) < s.size := by omega
 have HE : Hid (ckE s.data.toList = if stands s.data.toList s.size = true then 0 else 22) := by show _ = _; unfold ckE; rw [len_at, if_neg h0, if_neg h24]
 go_enter Tryz.func148, Tryz.ntmps148
 go_wp2
 go_loop [12] (fun i => ∃ k : Nat, k <= s.size /\ i = .int .i64 k /\ Hid (stands s.data.toList k = true)) (fun i => s.size - (intOf i).toNat)
 case atStart => exact ⟨0, Nat.zero_le _, rfl, rfl⟩
 case round =>
  obtain ⟨k, hk, rfl, HK⟩ := hrel
  by_cases hlt : k < s.size
  ·cases hst : stand s.data.toList k with
   | true =>
    have HST := hide hst
    clear hst
    go_wp2_with (go_at_call 174; refine (canStand_any s k _ hlt (by omega)).mono ?_; rintro e w' ⟨rfl, rfl⟩; rw [HST.out])
    go_round
    case rel => exact ⟨k + 1, by omega, by go_num, by show _ = _; rw [stands_succ, HK.out, HST.out]; rfl⟩
    case measure => simp [intOf]; omega
   | false =>
    have HST := hide hst
    clear hst
    have HF : Hid (ckE s.data.toList = 22) := by show _ = _; rw [HE.out, stands_no _ k _ hlt HST.out]; rfl
    go_wp2_with (go_at_call 174; refine (canStand_any s k _ hlt (by omega)).mono ?_; rintro e w' ⟨rfl, rfl⟩; rw [HST.out])
    go_ret2
    exact ⟨⟨k, ret_two rfl HF.out.symm⟩, rfl⟩
  ·obtain rfl : k = s.size := by omega
   have HF : Hid (ckE s.data.toList = 0) := by show _ = _; rw [HE.out, if_pos HK.out]
   go_wp2
   go_ret2
   exact ⟨⟨0, ret_two rfl HF.out.symm⟩, rfl⟩

def good (l : List UInt8) : Bool := ckE l == 0
theorem good_any (s : ByteArray) (w : World) (hs : s.size <= maxLen) : Calls Tryz.prog 112 #[.string s] w fun e w' => e = .returned (.bool (good s.data.toList)) /\ w' = w := by
 have HS := hide hs
 clear hs
 go_enter Tryz.func112, Tryz.ntmps112
 go_wp2_with (go_at_call 148; refine (check_any s _ HS.out).mono ?_; rintro e w' ⟨⟨p, rfl⟩, rfl⟩)
 go_ret
 exact ⟨rfl, rfl⟩
end
end Go.Proofs.YtalcmdjiejhkgaaGreat.K
