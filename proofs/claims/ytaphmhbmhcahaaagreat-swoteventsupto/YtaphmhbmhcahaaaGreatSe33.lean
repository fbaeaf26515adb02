/- HBs HPn HHo -/
import Derived.Test.YtaphmhbmhcahaaaGreatTk
import Derived.Test.YtaphmhbmhcahaaaGreatSe20
import Derived.Test.YtaphmhbmhcahaaaGreatSe32
import Derived.Deep.CutRange
import Derived.Test.YtaphmhbmhcahaaaGreatSe22
import Derived.Test.YtaphmhbmhcahaaaGreatSe13
set_option maxRecDepth 100000
set_option maxHeartbeats 3200000
namespace Go.Proofs.YtaphmhbmhcahaaaGreat
section
open Go.RowKit
attribute [local go_sem ↓] ldS_eq stS_eq ldD_eq stD_eq
attribute [local go_sem] zero_SC cells_SV SC_size
variable {w w' w2 W W' : World} {g : Nat}

theorem bsS_any (ao : Option Addr) (n cap : Nat) (L : List Sn) (t : Sn) (w : World) (hS : SSrc w ao n cap L) (hm : ∀ a b, a <= b -> b < n -> nrC (L.getD b sn0) ⟨t.rep, t.hi⟩ < 0 -> nrC (L.getD a sn0) ⟨t.rep, t.hi⟩ < 0) :
  Calls Tryz.prog 170 #[.slice ao n cap, SV t, .func (.func 171) #[] #[]] w fun e w' => BsA w w' e L ⟨t.rep, t.hi⟩ n := by
 have hcf : ∀ (args : Array Value) (w : World), (callFunc 171 args).run Tryz.prog w = .ok (.enter 171 args) w := fun _ _ => rfl
 have b1 := below_new w (.cells (SC t) 122)
 have x1 := sbox_new w t
 obtain ⟨w1, hw1⟩ : ∃ w1, w.alloc (.cells (SC t) 122) = w1 := ⟨_, rfl⟩
 obtain ⟨g1, hg1⟩ : ∃ g1, w.heap.size = g1 := ⟨_, rfl⟩
 rw [hw1] at b1 x1
 rw [hg1] at x1
 have HB1 := hide b1
 have HX : Hid (SBox w1 g1 t /\ SSrc w1 ao n cap L) := ⟨x1, hS.below b1⟩
 have hnb : n <= 5864062014805 := hS.big
 have HM := hide hm
 clear b1 x1 hS hm
 go_enter Tryz.func170, Tryz.ntmps170
 go_wp2_with fail
 clear hw1 hg1
 go_loopw [9, 10] (fun a b wr => ∃ (lo hi : Nat), a = .int .i64 (lo : Int) /\ b = .int .i64 (hi : Int) /\ lo <= hi /\ hi <= n /\ Hid (Below w1.heap.size w1 wr /\ (∀ j, j < lo -> nrC (L.getD j sn0) ⟨t.rep, t.hi⟩ < 0) /\ (hi < n -> 0 <= nrC (L.getD hi sn0) ⟨t.rep, t.hi⟩))) (fun a b _ => (intOf b).toNat - (intOf a).toNat)
 case atStart => exact ⟨0, n, rfl, rfl, Nat.zero_le _, Nat.le_refl _, Below.refl _ _, (fun j hj => by omega), fun h => by omega⟩
 case round =>
  obtain ⟨lo, hi, rfl, rfl, hlh, hhn, HI⟩ := hrel
  rename World => wr
  by_cases hlt : lo < hi
  ·have hlti : (lo : Int) < (hi : Int) := by omega
   obtain ⟨h, hh⟩ : ∃ h : Nat, (lo + hi) / 2 = h := ⟨_, rfl⟩
   have hlb : lo <= 5864062014805 := by omega
   have hhb : hi <= 5864062014805 := by omega
   obtain ⟨u, ht⟩ : ∃ u : Nat, lo + hi = u := ⟨_, rfl⟩
   have et : (lo : Int) + (hi : Int) = (u : Int) := by omega
   have e2 : (u : Int) / 2 = (h : Int) := by omega
   have e3 : u / 2 = h := by omega
   have HH : Hid (lo <= h /\ h < hi /\ h < n) := ⟨by omega, by omega, by omega⟩
   have htb : u <= 20000000000000 := by omega
   obtain ⟨ad, rfl, A0⟩ := (HX.out.2.below HI.out.1).at h HH.out.2.2
   obtain ⟨s, Hs⟩ : ∃ s, Hid (L.getD h sn0 = s) := ⟨_, rfl⟩
   have HSt : Hid (∀ W, Below wr.heap.size wr W -> (ldS (.pointer (some (ad.add (h * 3))))).run Tryz.prog W = .ok (SV s) W /\ (ldS (.pointer (some ⟨g1, 0, none⟩))).run Tryz.prog W = .ok (SV t) W) := fun W hW => by
    obtain ⟨ad', e', A1⟩ := ((HX.out.2.below HI.out.1).below hW).at h HH.out.2.2
    obtain rfl := Option.some.inj e'
    rw [Hs.out] at A1
    exact ⟨run_ldS A1, run_ldS ((HX.out.1.below HI.out.1).below hW).sn⟩
   have hhi : (h : Int) < (n : Int) := by have := HH.out; omega
   clear A0 hh ht
   go_upto_region 5 with fail
   clear et e2 e3
   refine wp_region_held_drew (S := fun W => (ldS (.pointer (some (ad.add (h * 3))))).run Tryz.prog W = .ok (SV s) W /\ (ldS (.pointer (some ⟨g1, 0, none⟩))).run Tryz.prog W = .ok (SV t) W) (by kernel_rfl) (HSt.out _ (below_drew1 wr)) (fun hHeld => ?_)
   refine wTk 0 ⟨some 24, .move (.tmp 2), 200, "sort.go:160", #[], none⟩ rfl ?_
   refine wTk 1 ⟨some 25, .move (.tmp 0), 24, "sort.go:160", #[], none⟩ rfl ?_
   refine wTk 2 ⟨some 26, .move (.tmp 11), 3, "sort.go:160", #[], none⟩ rfl ?_
   refine wTk 3 ⟨some 27, .indexAddr 24 (.tmp 25) (.tmp 26), 0, "sort.go:160", #[⟨1, .data⟩, ⟨2, .data⟩], none⟩ rfl ?_
   refine wTk 4 ⟨some 28, .load 122 (.tmp 27), 122, "sort.go:160", #[⟨3, .data⟩], none⟩ rfl ?_
   refine wTk 5 ⟨some 29, .load 122 (.tmp 4), 122, "sort.go:160", #[], none⟩ rfl ?_
   refine wpAnyH_ready (rs := [6]) (by kernel_rfl) (by simp) (.cons rfl (fun K hK => ?_) .nil)
   go_simp
   go_wp2_with fail
   refine (nrS_any s t _).mono ?_
   rintro e w3 ⟨rfl, b3⟩
   have hB3 : Below wr.heap.size wr w3 := (below_drew1 wr).trans b3
   have HB3 := hide (HI.out.1.trans (hB3.mono HI.out.1.size))
   refine hK.out _ _ (HSt.out _ hB3) (fun hHeld => ?_)
   clear hK K b3 hB3
   obtain ⟨z, hz⟩ : ∃ z, nrC s ⟨t.rep, t.hi⟩ = z := ⟨_, rfl⟩
   rw [hz]
   refine wTk 7 ⟨some 31, .binOp .lss 3 (.tmp 30) (.const (.int .i64 0)) 3, 4, "sort.go:160", #[⟨6, .data⟩], none⟩ rfl ?_
   refine wpAnyH_done (by kernel_rfl) ?_ _
   clear hHeld
   by_cases hz0 : z < 0
   ·have HN : Hid (∀ j, j < h + 1 -> nrC (L.getD j sn0) ⟨t.rep, t.hi⟩ < 0) := fun j hj => HM.out j h (by omega) HH.out.2.2 (by rw [Hs.out, hz]; exact hz0)
    clear hz
    go_wp2_with fail
    go_roundw
    case rel => exact ⟨h + 1, hi, by simp, rfl, by have := HH.out; omega, hhn, HB3.out, HN.out, HI.out.2.2⟩
    case measure => simp [intOf]; have := HH.out; omega
   ·have HN : Hid (h < n -> 0 <= nrC (L.getD h sn0) ⟨t.rep, t.hi⟩) := fun _ => by rw [Hs.out, hz]; omega
    clear hz
    go_wp2_with fail
    go_roundw
    case rel => exact ⟨lo, h, rfl, rfl, HH.out.1, by have := HH.out; omega, HB3.out, HI.out.2.1, HN.out⟩
    case measure => simp [intOf]; have := HH.out; omega
  ·have hlti : ¬ (lo : Int) < (hi : Int) := by omega
   obtain rfl : lo = hi := by omega
   have HF : Hid (FirstAt L ⟨t.rep, t.hi⟩ n lo) := ⟨hhn, HI.out.2.1, HI.out.2.2⟩
   have HBw := hide (HB1.out.trans (HI.out.1.mono HB1.out.size))
   by_cases hln : lo < n
   ·have hlni : (lo : Int) < (n : Int) := by omega
    obtain ⟨ad, rfl, A0⟩ := (HX.out.2.below HI.out.1).at lo hln
    obtain ⟨s, Hs⟩ : ∃ s, Hid (L.getD lo sn0 = s) := ⟨_, rfl⟩
    have HSt : Hid (∀ W, Below wr.heap.size wr W -> (ldS (.pointer (some (ad.add (lo * 3))))).run Tryz.prog W = .ok (SV s) W /\ (ldS (.pointer (some ⟨g1, 0, none⟩))).run Tryz.prog W = .ok (SV t) W) := fun W hW => by
     obtain ⟨ad', e', A1⟩ := ((HX.out.2.below HI.out.1).below hW).at lo hln
     obtain rfl := Option.some.inj e'
     rw [Hs.out] at A1
     exact ⟨run_ldS A1, run_ldS ((HX.out.1.below HI.out.1).below hW).sn⟩
    clear A0
    go_upto_region 8 with fail
    refine wp_region_held_drew (S := fun W => (ldS (.pointer (some (ad.add (lo * 3))))).run Tryz.prog W = .ok (SV s) W /\ (ldS (.pointer (some ⟨g1, 0, none⟩))).run Tryz.prog W = .ok (SV t) W) (by kernel_rfl) (HSt.out _ (below_drew1 wr)) (fun hHeld => ?_)
    refine wTk 0 ⟨some 35, .move (.tmp 9), 3, "sort.go:167", #[], none⟩ rfl ?_
    refine wTk 1 ⟨some 36, .move (.tmp 9), 3, "sort.go:167", #[], none⟩ rfl ?_
    refine wTk 2 ⟨some 37, .move (.tmp 8), 3, "sort.go:167", #[], none⟩ rfl ?_
    refine wTk 3 ⟨some 38, .binOp .lss 3 (.tmp 36) (.tmp 37) 3, 4, "sort.go:167", #[⟨1, .data⟩, ⟨2, .data⟩], none⟩ rfl ?_
    refine wTk 4 ⟨some 39, .move (.tmp 38), 4, "sort.go:167", #[⟨3, .data⟩], none⟩ rfl ?_
    refine wTk 5 ⟨some 40, .move (.tmp 2), 200, "sort.go:167", #[⟨4, .guard⟩], some (4, true)⟩ rfl ?_
    refine wTk 6 ⟨some 41, .move (.tmp 0), 24, "sort.go:167", #[⟨4, .guard⟩], some (4, true)⟩ rfl ?_
    refine wTk 7 ⟨some 42, .move (.tmp 9), 3, "sort.go:167", #[⟨4, .guard⟩], some (4, true)⟩ rfl ?_
    refine wTk 8 ⟨some 43, .indexAddr 24 (.tmp 41) (.tmp 42), 0, "sort.go:167", #[⟨6, .data⟩, ⟨7, .data⟩, ⟨4, .guard⟩], some (4, true)⟩ rfl ?_
    refine wTk 9 ⟨some 44, .load 122 (.tmp 43), 122, "sort.go:167", #[⟨8, .data⟩, ⟨4, .guard⟩], some (4, true)⟩ rfl ?_
    refine wTk 10 ⟨some 45, .load 122 (.tmp 4), 122, "sort.go:167", #[⟨4, .guard⟩], some (4, true)⟩ rfl ?_
    refine wpAnyH_ready (rs := [11]) (by kernel_rfl) (by simp) (.cons rfl (fun K hK => ?_) .nil)
    go_simp
    go_wp2_with fail
    refine (nrS_any s t _).mono ?_
    rintro e w3 ⟨rfl, b3⟩
    have hB3 : Below wr.heap.size wr w3 := (below_drew1 wr).trans b3
    have HB3 := hide (HBw.out.trans (hB3.mono HBw.out.size))
    refine hK.out _ _ (HSt.out _ hB3) (fun hHeld => ?_)
    clear hK K b3 hB3
    obtain ⟨z, hz⟩ : ∃ z, nrC s ⟨t.rep, t.hi⟩ = z := ⟨_, rfl⟩
    rw [hz]
    clear hz
    refine wTk 14 ⟨some 6, .assign (.tmp 35), 3, "sort.go:167", #[⟨0, .data⟩, ⟨11, .chain⟩, ⟨0, .phase⟩, ⟨1, .textOnly .lateStores⟩, ⟨2, .textOnly .lateStores⟩, ⟨3, .textOnly .lateStores⟩, ⟨4, .textOnly .lateStores⟩, ⟨5, .textOnly .lateStores⟩, ⟨6, .textOnly .lateStores⟩, ⟨7, .textOnly .lateStores⟩, ⟨8, .textOnly .lateStores⟩, ⟨9, .textOnly .lateStores⟩, ⟨10, .textOnly .lateStores⟩, ⟨11, .textOnly .lateStoresUnsure⟩, ⟨12, .textOnly .lateStores⟩, ⟨13, .textOnly .lateStores⟩], none⟩ rfl ?_
    refine wTk 12 ⟨some 47, .binOp .eql 3 (.tmp 46) (.const (.int .i64 0)) 3, 4, "sort.go:167", #[⟨11, .data⟩, ⟨4, .guard⟩, ⟨14, .gcOnly .lateStores⟩], some (4, true)⟩ rfl ?_
    refine wTk 13 ⟨some 48, .pick (.tmp 39) (.tmp 47) (.const (.bool false)), 4, "sort.go:167", #[⟨4, .data⟩, ⟨12, .data⟩, ⟨14, .gcOnly .lateStores⟩], none⟩ rfl ?_
    refine wTk 15 ⟨some 7, .assign (.tmp 48), 4, "sort.go:167", #[⟨13, .data⟩, ⟨14, .chain⟩, ⟨0, .phase⟩, ⟨1, .phase⟩, ⟨2, .phase⟩, ⟨3, .phase⟩, ⟨4, .phase⟩, ⟨5, .phase⟩, ⟨6, .phase⟩, ⟨7, .phase⟩, ⟨8, .phase⟩, ⟨9, .phase⟩, ⟨10, .phase⟩, ⟨11, .phase⟩, ⟨12, .phase⟩, ⟨13, .phase⟩, ⟨14, .phase⟩], none⟩ rfl ?_
    refine wpAnyH_done (by kernel_rfl) ?_ _
    clear hHeld
    go_wp2_with fail
    go_ret2
    exact ⟨lo, _, rfl, HF.out, HB3.out⟩
   ·have hlni : ¬ (lo : Int) < (n : Int) := by omega
    go_upto_region 8 with fail
    refine wp_region_held_drew (S := fun _ => True) (by kernel_rfl) (trivial) (fun hHeld => ?_)
    refine wTk 0 ⟨some 35, .move (.tmp 9), 3, "sort.go:167", #[], none⟩ rfl ?_
    refine wTk 1 ⟨some 36, .move (.tmp 9), 3, "sort.go:167", #[], none⟩ rfl ?_
    refine wTk 2 ⟨some 37, .move (.tmp 8), 3, "sort.go:167", #[], none⟩ rfl ?_
    refine wTk 3 ⟨some 38, .binOp .lss 3 (.tmp 36) (.tmp 37) 3, 4, "sort.go:167", #[⟨1, .data⟩, ⟨2, .data⟩], none⟩ rfl ?_
    refine wTk 4 ⟨some 39, .move (.tmp 38), 4, "sort.go:167", #[⟨3, .data⟩], none⟩ rfl ?_
    refine wSk 5 ⟨some 40, .move (.tmp 2), 200, "sort.go:167", #[⟨4, .guard⟩], some (4, true)⟩ rfl ?_
    refine wSk 6 ⟨some 41, .move (.tmp 0), 24, "sort.go:167", #[⟨4, .guard⟩], some (4, true)⟩ rfl ?_
    refine wSk 7 ⟨some 42, .move (.tmp 9), 3, "sort.go:167", #[⟨4, .guard⟩], some (4, true)⟩ rfl ?_
    refine wSk 8 ⟨some 43, .indexAddr 24 (.tmp 41) (.tmp 42), 0, "sort.go:167", #[⟨6, .data⟩, ⟨7, .data⟩, ⟨4, .guard⟩], some (4, true)⟩ rfl ?_
    refine wSk 9 ⟨some 44, .load 122 (.tmp 43), 122, "sort.go:167", #[⟨8, .data⟩, ⟨4, .guard⟩], some (4, true)⟩ rfl ?_
    refine wSk 10 ⟨some 45, .load 122 (.tmp 4), 122, "sort.go:167", #[⟨4, .guard⟩], some (4, true)⟩ rfl ?_
    refine wSk 11 ⟨some 46, .call ⟨.value (.tmp 40), #[.tmp 44, .tmp 45], #[122, 122]⟩, 3, "sort.go:167", #[⟨5, .data⟩, ⟨9, .data⟩, ⟨10, .data⟩, ⟨4, .chain⟩, ⟨4, .guard⟩], some (4, true)⟩ rfl ?_
    refine wSk 12 ⟨some 47, .binOp .eql 3 (.tmp 46) (.const (.int .i64 0)) 3, 4, "sort.go:167", #[⟨11, .data⟩, ⟨4, .guard⟩, ⟨14, .gcOnly .lateStores⟩], some (4, true)⟩ rfl ?_
    refine wTk 14 ⟨some 6, .assign (.tmp 35), 3, "sort.go:167", #[⟨0, .data⟩, ⟨11, .chain⟩, ⟨0, .phase⟩, ⟨1, .textOnly .lateStores⟩, ⟨2, .textOnly .lateStores⟩, ⟨3, .textOnly .lateStores⟩, ⟨4, .textOnly .lateStores⟩, ⟨5, .textOnly .lateStores⟩, ⟨6, .textOnly .lateStores⟩, ⟨7, .textOnly .lateStores⟩, ⟨8, .textOnly .lateStores⟩, ⟨9, .textOnly .lateStores⟩, ⟨10, .textOnly .lateStores⟩, ⟨11, .textOnly .lateStoresUnsure⟩, ⟨12, .textOnly .lateStores⟩, ⟨13, .textOnly .lateStores⟩], none⟩ rfl ?_
    refine wTk 13 ⟨some 48, .pick (.tmp 39) (.tmp 47) (.const (.bool false)), 4, "sort.go:167", #[⟨4, .data⟩, ⟨12, .data⟩, ⟨14, .gcOnly .lateStores⟩], none⟩ rfl ?_
    refine wTk 15 ⟨some 7, .assign (.tmp 48), 4, "sort.go:167", #[⟨13, .data⟩, ⟨14, .chain⟩, ⟨0, .phase⟩, ⟨1, .phase⟩, ⟨2, .phase⟩, ⟨3, .phase⟩, ⟨4, .phase⟩, ⟨5, .phase⟩, ⟨6, .phase⟩, ⟨7, .phase⟩, ⟨8, .phase⟩, ⟨9, .phase⟩, ⟨10, .phase⟩, ⟨11, .phase⟩, ⟨12, .phase⟩, ⟨13, .phase⟩, ⟨14, .phase⟩], none⟩ rfl ?_
    refine wpAnyH_done (by kernel_rfl) ?_ _
    clear hHeld
    go_wp2_with fail
    go_ret2
    exact ⟨lo, _, rfl, HF.out, HBw.out.trans ((below_drew1 wr).mono HBw.out.size)⟩
end
section
open Go.RowKit
theorem chain_mem {Z : List Int} : ∀ (L : List Sn) (a : Sn), chain Z a L -> ∀ c ∈ L, ∃ b, StepOk Z b c
 | [], _, _, c, h => by cases h
 | x :: t, a, h, c, hc => by
  rcases List.mem_cons.1 hc with rfl | hc
  ·exact ⟨a, h.1⟩
  ·exact chain_mem t x h.2 c hc
def Gp (x y : Sn) : Prop := x.rep < y.rep ∨ (x.rep = y.rep /\ x.hi + 2 <= y.lo)
theorem chain_gp {Z : List Int} : ∀ (L : List Sn) (a : Sn), chain Z a L -> (∀ y ∈ L, Gp a y) /\ L.Pairwise Gp
 | [], _, _ => ⟨fun y h => (by cases h), List.Pairwise.nil⟩
 | x :: t, a, h => by
  obtain ⟨h1, h2⟩ := chain_gp t x h.2
  have r := h.1.rep
  have o := h.1.ord
  have g := h.1.gap
  have k : Gp a x := by
   by_cases e : x.rep = a.rep
   ·exact .inr ⟨e.symm, g e⟩
   ·exact .inl (by omega)
  refine ⟨fun y hy => ?_, List.Pairwise.cons h1 h2⟩
  rcases List.mem_cons.1 hy with rfl | hy
  ·exact k
  ·have q := h1 y hy
   unfold Gp at k q ⊢
   omega
theorem vec_at {P : Pst} (h : InForm P) (r : Nat) (hr : r < 16) : P.vec.getD r 0 = V.at' P.vec r := by
 have := V.short_getD (V.at' P.vec) r hr
 rw [<- h.1] at this
 exact this
def spIn (P : Pst) (t : Sn) : Prop := ∀ m, t.lo <= m -> m <= t.hi -> mem (runsAt P t.rep.toNat) m
theorem hold_vec {P : Pst} {y : Nat} {lo hi : Int} (hy : y < 16) (h1 : 1 <= lo) (h3 : hi <= 1000000000) (h : hi <= P.vec.getD y 0) : spIn P ⟨(y : Int), lo, hi⟩ := fun m h4 h5 => by
 have h4 : lo <= m := h4
 have h5 : m <= hi := h5
 show mem (runsAt P (y : Int).toNat) m
 rw [Int.toNat_natCast, mem_runs P y hy]
 exact ⟨by omega, by omega, .inl (by omega)⟩
theorem hold_iff {P : Pst} (h : InForm P) {n i y : Nat} {lo hi : Int} (hl : P.cloud.length = n) (hy : y < 16) (h1 : 1 <= lo) (h2 : lo <= hi) (h3 : hi <= 1000000000) (hF : FirstAt P.cloud ⟨(y : Int), hi⟩ n i) (hv : P.vec.getD y 0 < hi) :
  (i < n /\ (P.cloud.getD i sn0).rep = (y : Int) /\ (P.cloud.getD i sn0).lo <= lo) ↔ spIn P ⟨(y : Int), lo, hi⟩ := by
 have key : ∀ m, mem (runsAt P y) m ↔ 1 <= m /\ m <= 1000000000 /\ (m <= P.vec.getD y 0 ∨ ∃ c, c ∈ P.cloud /\ c.rep = (y : Int) /\ c.lo <= m /\ m <= c.hi) := fun m => mem_runs P y hy m
 constructor
 ·rintro ⟨k1, k2, k3⟩ m h4 h5
  have h4 : lo <= m := h4
  have h5 : m <= hi := h5
  show mem (runsAt P (y : Int).toNat) m
  have hn := hF.2.2 k1
  have hneg := nrC_neg (P.cloud.getD i sn0) ⟨(y : Int), hi⟩
  have hn2 : ¬ ((P.cloud.getD i sn0).rep < (y : Int) ∨ ((P.cloud.getD i sn0).rep = (y : Int) /\ (P.cloud.getD i sn0).hi < hi)) := fun q => by have := hneg.2 q; omega
  rw [Int.toNat_natCast, key m]
  refine ⟨by omega, by omega, .inr ⟨P.cloud.getD i sn0, ?_, k2, by omega, by omega⟩⟩
  rw [List.getD_eq_getElem?_getD, List.getElem?_eq_getElem (by omega)]
  exact List.getElem_mem _
 ·intro q
  have q : ∀ m, lo <= m -> m <= hi -> mem (runsAt P y) m := fun m a b => by have := q m a b; rwa [show (⟨(y : Int), lo, hi⟩ : Sn).rep.toNat = y from Int.toNat_natCast y] at this
  have hd : dotIn P ⟨(y : Int), hi⟩ := by
   rw [dotIn_iff]
   have := (key hi).1 (q hi h2 (Int.le_refl _))
   exact ⟨by show (0 : Int) <= (y : Int); omega, by show (y : Int) < 16; omega, this.1, this.2.1, by show hi <= P.vec.getD (y : Int).toNat 0 ∨ _; rw [Int.toNat_natCast]; exact this.2.2⟩
  have hd2 := (near_in h hl hF).2 hd
  rw [dotIn_iff] at hd2
  obtain ⟨-, -, -, -, hd3 | ⟨c, hc, e1, e2, e3⟩⟩ := hd2
  ·have hd3 : hi <= P.vec.getD (y : Int).toNat 0 := hd3
   rw [Int.toNat_natCast] at hd3
   omega
  ·have e1 : c.rep = (y : Int) := e1
   have e2 : c.lo <= hi := e2
   have e3 : hi <= c.hi := e3
   have hin : i < n := by
    rcases Nat.lt_or_ge i n with q | q
    ·exact q
    ·rw [List.drop_eq_nil_of_le (by omega)] at hc; cases hc
   have hci : c = P.cloud.getD i sn0 := by
    rw [List.drop_eq_getElem_cons (by omega), List.take_succ_cons, List.take_zero] at hc
    rw [List.mem_singleton.1 hc, List.getD_eq_getElem?_getD, List.getElem?_eq_getElem (by omega)]; rfl
   refine ⟨hin, by rw [<- hci]; exact e1, ?_⟩
   rw [<- hci]
   rcases Int.lt_or_le lo c.lo with k | k
   ·exfalso
    have hm := (key (c.lo - 1)).1 (q (c.lo - 1) (by omega) (by omega))
    have hcm : c ∈ P.cloud := by
     rw [hci, List.getD_eq_getElem?_getD, List.getElem?_eq_getElem (by omega)]
     exact List.getElem_mem _
    obtain ⟨b, sb⟩ := chain_mem _ _ h.2 c hcm
    have hlead := sb.lead
    have hv2 : V.atI P.vec c.rep = P.vec.getD y 0 := by
     rw [e1, vec_at h y hy]
     unfold V.atI
     simp [V.isR]
     omega
    rw [hv2] at hlead
    rcases hm.2.2 with hm3 | ⟨c2, hc2, r1, r2, r3⟩
    ·omega
    ·obtain ⟨-, gp⟩ := chain_gp _ _ h.2
     obtain ⟨u, hu, rfl⟩ := List.getElem_of_mem hcm
     obtain ⟨v, hv3, rfl⟩ := List.getElem_of_mem hc2
     rcases Nat.lt_trichotomy u v with q | q | q
     ·have := List.pairwise_iff_getElem.1 gp u v hu hv3 q
      have o := (chain_mem _ _ h.2 _ (List.getElem_mem hu)).choose_spec.ord
      unfold Gp at this
      omega
     ·subst q; omega
     ·have := List.pairwise_iff_getElem.1 gp v u hv3 hu q
      unfold Gp at this
      omega
   ·exact k
end
section
open Go.RowKit
attribute [local go_sem ↓] ldP_eq stP_eq ldS_eq stS_eq
attribute [local go_sem] cells_PV PC_size cells_SV SC_size
def HoB (P : Pst) (y : Nat) (hi : Int) (b : Bool) : Prop := b = true ↔ hi <= P.vec.getD y 0
theorem holds_any (p : Pv) (y : Nat) (lo hi : Int) (w : World) (hS : PSrc w p) (hf : InForm p.P) (hy : y < 16) (h1 : 1 <= lo) (h2 : lo <= hi) (h3 : hi <= 1000000000) :
  Calls Tryz.prog 132 #[PV p, SV ⟨(y : Int), lo, hi⟩] w fun e w' => GivesB w w' e (spIn p.P ⟨(y : Int), lo, hi⟩) := by
 obtain ⟨t, Ht⟩ : ∃ t : Sn, Hid (t = ⟨(y : Int), lo, hi⟩) := ⟨_, rfl⟩
 have b1 := below_new w (.cells (PC p) 26)
 have x1 := pbox_new w p
 have s1 := World.size_alloc w (.cells (PC p) 26)
 obtain ⟨w1, hw1⟩ : ∃ w1, w.alloc (.cells (PC p) 26) = w1 := ⟨_, rfl⟩
 obtain ⟨g1, hg1⟩ : ∃ g1, w.heap.size = g1 := ⟨_, rfl⟩
 rw [hw1] at b1 x1 s1
 rw [hg1] at x1 s1
 have b2 := below_new w1 (.cells (SC ⟨(y : Int), lo, hi⟩) 122)
 have x2 := sbox_new w1 ⟨(y : Int), lo, hi⟩
 obtain ⟨w2, hw2⟩ : ∃ w2, w1.alloc (.cells (SC ⟨(y : Int), lo, hi⟩) 122) = w2 := ⟨_, rfl⟩
 rw [hw2] at b2 x2
 rw [s1] at x2
 have HB := hide (b1.trans (b2.mono b1.size))
 have HX : Hid (PBox w2 g1 p /\ SBox w2 (g1 + 1) ⟨(y : Int), lo, hi⟩) := ⟨x1.below b2, x2⟩
 have HS := hide (hS.below HB.out)
 have HF := hide hf
 have HBd : Hid (y < 16 /\ 1 <= lo /\ lo <= hi /\ hi <= 1000000000) := ⟨hy, h1, h2, h3⟩
 have HVN : Hid (p.P.vec.length = p.vn) := hS.vec.1
 have HCN : Hid (p.P.cloud.length = p.cn) := hS.cloud.len
 clear b1 b2 x1 x2 hS hf h1 h2 h3
 have HSt : Hid (∀ W, Below w2.heap.size w2 W -> W.cell? ⟨g1, 0, none⟩ = some (.slice p.vo p.vn p.vc) /\ W.cell? ⟨g1 + 1, 0, none⟩ = some (.int .i64 (y : Int)) /\ W.cell? ⟨g1 + 1, 2, none⟩ = some (.int .i64 hi)) := fun W hW => by
  obtain ⟨c0, -, c2⟩ := (HX.out.2.below hW).at
  exact ⟨(HX.out.1.below hW).nums.1, c0, c2⟩
 go_enter Tryz.func132, Tryz.ntmps132
 go_upto_region 1 with fail
 clear hw1 hw2 s1 hg1
 go_cut [23] from 7 to 22 (fun v W => ∃ b : Bool, v = .bool b /\ Hid (HoB p.P y hi b /\ Below w2.heap.size w2 W))
 case first =>
  by_cases hv : y < p.vn
  ·have hvi : (y : Int) < (p.vn : Int) := by omega
   obtain ⟨ad, hao, cz⟩ := isrc_at HS.out.vec y hv
   obtain ⟨z, Hz⟩ : ∃ z, Hid (p.P.vec.getD y 0 = z) := ⟨_, rfl⟩
   rw [Hz.out] at cz
   have Hao := hide hao
   have HCz := hide cz
   have HSv : Hid (∀ W, Below w2.heap.size w2 W -> W.cell? ⟨g1, 0, none⟩ = some (.slice (some ad) p.vn p.vc) /\ W.cell? ⟨g1 + 1, 0, none⟩ = some (.int .i64 (y : Int)) /\ W.cell? ⟨g1 + 1, 2, none⟩ = some (.int .i64 hi) /\ W.cell? (ad.add y) = some (.int .i64 z)) := fun W hW => by
    obtain ⟨c0, c1, c2⟩ := HSt.out W hW
    rw [Hao.out] at c0
    exact ⟨c0, c1, c2, (hW.cell (World.block_lt_of_cell? _ _ HCz.out)).trans HCz.out⟩
   clear cz hao
   refine wp_region_held_drew (S := fun W => W.cell? ⟨g1, 0, none⟩ = some (.slice (some ad) p.vn p.vc) /\ W.cell? ⟨g1 + 1, 0, none⟩ = some (.int .i64 (y : Int)) /\ W.cell? ⟨g1 + 1, 2, none⟩ = some (.int .i64 hi) /\ W.cell? (ad.add y) = some (.int .i64 z)) (by kernel_rfl) (HSv.out _ (below_drew1 w2)) (fun hHeld => ?_)
   refine wTk 0 ⟨some 7, .fieldAddr 122 (.tmp 3) 0, 0, "records.go:115", #[], none⟩ rfl ?_
   refine wTk 1 ⟨some 8, .load 3 (.tmp 7), 3, "records.go:115", #[⟨0, .data⟩], none⟩ rfl ?_
   refine wTk 2 ⟨some 9, .fieldAddr 26 (.tmp 2) 0, 0, "records.go:115", #[], none⟩ rfl ?_
   refine wTk 3 ⟨some 10, .load 23 (.tmp 9), 23, "records.go:115", #[⟨2, .data⟩], none⟩ rfl ?_
   refine wTk 4 ⟨some 11, .call ⟨.builtin .len, #[.tmp 10], #[23]⟩, 3, "records.go:115", #[⟨3, .data⟩], none⟩ rfl ?_
   refine wTk 5 ⟨some 12, .binOp .lss 3 (.tmp 8) (.tmp 11) 3, 4, "records.go:115", #[⟨1, .data⟩, ⟨4, .data⟩], none⟩ rfl ?_
   refine wTk 6 ⟨some 13, .move (.tmp 12), 4, "records.go:115", #[⟨5, .data⟩], none⟩ rfl ?_
   refine wTk 7 ⟨some 14, .fieldAddr 122 (.tmp 3) 2, 0, "records.go:115", #[⟨6, .guard⟩], some (6, true)⟩ rfl ?_
   refine wTk 8 ⟨some 15, .load 3 (.tmp 14), 3, "records.go:115", #[⟨7, .data⟩, ⟨6, .guard⟩], some (6, true)⟩ rfl ?_
   refine wTk 9 ⟨some 16, .fieldAddr 26 (.tmp 2) 0, 0, "records.go:115", #[⟨6, .guard⟩], some (6, true)⟩ rfl ?_
   refine wTk 10 ⟨some 17, .load 23 (.tmp 16), 23, "records.go:115", #[⟨9, .data⟩, ⟨6, .guard⟩], some (6, true)⟩ rfl ?_
   refine wTk 11 ⟨some 18, .fieldAddr 122 (.tmp 3) 0, 0, "records.go:115", #[⟨6, .guard⟩], some (6, true)⟩ rfl ?_
   refine wTk 12 ⟨some 19, .load 3 (.tmp 18), 3, "records.go:115", #[⟨11, .data⟩, ⟨6, .guard⟩], some (6, true)⟩ rfl ?_
   refine wTk 13 ⟨some 20, .indexAddr 23 (.tmp 17) (.tmp 19), 0, "records.go:115", #[⟨10, .data⟩, ⟨12, .data⟩, ⟨6, .guard⟩], some (6, true)⟩ rfl ?_
   refine wTk 14 ⟨some 21, .load 3 (.tmp 20), 3, "records.go:115", #[⟨13, .data⟩, ⟨6, .guard⟩], some (6, true)⟩ rfl ?_
   refine wTk 15 ⟨some 22, .binOp .leq 3 (.tmp 15) (.tmp 21) 3, 4, "records.go:115", #[⟨8, .data⟩, ⟨14, .data⟩, ⟨6, .guard⟩], some (6, true)⟩ rfl ?_
   refine wTk 16 ⟨some 23, .pick (.tmp 13) (.tmp 22) (.const (.bool false)), 4, "records.go:115", #[⟨6, .data⟩, ⟨15, .data⟩], none⟩ rfl ?_
   refine wpAnyH_done (by kernel_rfl) ?_ _
   clear hHeld
   by_cases hc : hi <= z
   ·have HE : Hid (HoB p.P y hi true /\ Below w2.heap.size w2 w2.drew) := ⟨⟨fun _ => by rw [Hz.out]; exact hc, fun _ => rfl⟩, below_drew1 w2⟩
    go_wp2_with fail
    go_meet
    case rel => exact ⟨true, by simp [hc], HE.out⟩
   ·have HE : Hid (HoB p.P y hi false /\ Below w2.heap.size w2 w2.drew) := ⟨⟨fun h => (by cases h), fun h => absurd (by rwa [Hz.out] at h) hc⟩, below_drew1 w2⟩
    go_wp2_with fail
    go_meet
    case rel => exact ⟨false, by simp [hc], HE.out⟩
  ·have hvi : ¬ (y : Int) < (p.vn : Int) := by omega
   have HE : Hid (HoB p.P y hi false /\ Below w2.heap.size w2 w2.drew) := ⟨⟨fun h => (by cases h), fun h => by
    rw [List.getD_eq_getElem?_getD, List.getElem?_eq_none (by rw [HVN.out]; omega)] at h
    have h : hi <= 0 := h
    have := HBd.out
    omega⟩, below_drew1 w2⟩
   refine wp_region_held_drew (S := fun W => W.cell? ⟨g1, 0, none⟩ = some (.slice p.vo p.vn p.vc) /\ W.cell? ⟨g1 + 1, 0, none⟩ = some (.int .i64 (y : Int)) /\ W.cell? ⟨g1 + 1, 2, none⟩ = some (.int .i64 hi)) (by kernel_rfl) (HSt.out _ (below_drew1 w2)) (fun hHeld => ?_)
   refine wTk 0 ⟨some 7, .fieldAddr 122 (.tmp 3) 0, 0, "records.go:115", #[], none⟩ rfl ?_
   refine wTk 1 ⟨some 8, .load 3 (.tmp 7), 3, "records.go:115", #[⟨0, .data⟩], none⟩ rfl ?_
   refine wTk 2 ⟨some 9, .fieldAddr 26 (.tmp 2) 0, 0, "records.go:115", #[], none⟩ rfl ?_
   refine wTk 3 ⟨some 10, .load 23 (.tmp 9), 23, "records.go:115", #[⟨2, .data⟩], none⟩ rfl ?_
   refine wTk 4 ⟨some 11, .call ⟨.builtin .len, #[.tmp 10], #[23]⟩, 3, "records.go:115", #[⟨3, .data⟩], none⟩ rfl ?_
   refine wTk 5 ⟨some 12, .binOp .lss 3 (.tmp 8) (.tmp 11) 3, 4, "records.go:115", #[⟨1, .data⟩, ⟨4, .data⟩], none⟩ rfl ?_
   refine wTk 6 ⟨some 13, .move (.tmp 12), 4, "records.go:115", #[⟨5, .data⟩], none⟩ rfl ?_
   refine wSk 7 ⟨some 14, .fieldAddr 122 (.tmp 3) 2, 0, "records.go:115", #[⟨6, .guard⟩], some (6, true)⟩ rfl ?_
   refine wSk 8 ⟨some 15, .load 3 (.tmp 14), 3, "records.go:115", #[⟨7, .data⟩, ⟨6, .guard⟩], some (6, true)⟩ rfl ?_
   refine wSk 9 ⟨some 16, .fieldAddr 26 (.tmp 2) 0, 0, "records.go:115", #[⟨6, .guard⟩], some (6, true)⟩ rfl ?_
   refine wSk 10 ⟨some 17, .load 23 (.tmp 16), 23, "records.go:115", #[⟨9, .data⟩, ⟨6, .guard⟩], some (6, true)⟩ rfl ?_
   refine wSk 11 ⟨some 18, .fieldAddr 122 (.tmp 3) 0, 0, "records.go:115", #[⟨6, .guard⟩], some (6, true)⟩ rfl ?_
   refine wSk 12 ⟨some 19, .load 3 (.tmp 18), 3, "records.go:115", #[⟨11, .data⟩, ⟨6, .guard⟩], some (6, true)⟩ rfl ?_
   refine wSk 13 ⟨some 20, .indexAddr 23 (.tmp 17) (.tmp 19), 0, "records.go:115", #[⟨10, .data⟩, ⟨12, .data⟩, ⟨6, .guard⟩], some (6, true)⟩ rfl ?_
   refine wSk 14 ⟨some 21, .load 3 (.tmp 20), 3, "records.go:115", #[⟨13, .data⟩, ⟨6, .guard⟩], some (6, true)⟩ rfl ?_
   refine wSk 15 ⟨some 22, .binOp .leq 3 (.tmp 15) (.tmp 21) 3, 4, "records.go:115", #[⟨8, .data⟩, ⟨14, .data⟩, ⟨6, .guard⟩], some (6, true)⟩ rfl ?_
   refine wTk 16 ⟨some 23, .pick (.tmp 13) (.tmp 22) (.const (.bool false)), 4, "records.go:115", #[⟨6, .data⟩, ⟨15, .data⟩], none⟩ rfl ?_
   refine wpAnyH_done (by kernel_rfl) ?_ _
   clear hHeld
   go_wp2_with fail
   go_meet
   case rel => exact ⟨false, rfl, HE.out⟩
 case rest =>
  obtain ⟨b, rfl, HV⟩ := hcut
  rename World => w3
  cases b with
  | true =>
   have HE : Hid (GivesB w w3 (.returned (.bool true)) (spIn p.P ⟨(y : Int), lo, hi⟩)) := ⟨true, rfl, ⟨fun _ => hold_vec HBd.out.1 HBd.out.2.1 HBd.out.2.2.2 (HV.out.1.1 rfl), fun _ => rfl⟩, HB.out.trans (HV.out.2.mono HB.out.size)⟩
   go_wp2_with fail
   go_ret
   exact HE.out
  | false =>
   have HNv : Hid (¬ hi <= p.P.vec.getD y 0) := fun h => by have := HV.out.1.2 h; cases this
   have n1 := (HX.out.1.below HV.out.2).nums.2
   have ls := run_ldS (HX.out.2.below HV.out.2).sn
   go_wp2_with fail
   clear n1 ls
   refine (bsS_any p.co p.cn p.cc p.P.cloud ⟨(y : Int), lo, hi⟩ _ (HS.out.below HV.out.2).cloud (fun a b hab hb => near_mono HF.out _ a b hab (by rw [HCN.out]; exact hb))).mono ?_
   rintro e w4 ⟨i, q, rfl, hF, b4⟩
   have HB4 := hide (HV.out.2.trans (b4.mono HV.out.2.size))
   have HI := hide (hold_iff HF.out HCN.out HBd.out.1 HBd.out.2.1 HBd.out.2.2.1 HBd.out.2.2.2 hF HNv.out)
   have hin : i <= p.cn := hF.1
   have hnb : p.cn <= 5864062014805 := HS.out.cloud.big
   have HSu : Hid (∀ W, Below w4.heap.size w4 W -> W.cell? ⟨g1, 1, none⟩ = some (.slice p.co p.cn p.cc) /\ W.cell? ⟨g1 + 1, 0, none⟩ = some (.int .i64 (y : Int)) /\ W.cell? ⟨g1 + 1, 1, none⟩ = some (.int .i64 lo)) := fun W hW => by
    have hW2 := HB4.out.trans (hW.mono HB4.out.size)
    obtain ⟨c0, c1, -⟩ := (HX.out.2.below hW2).at
    exact ⟨(HX.out.1.below hW2).nums.2, c0, c1⟩
   have HBw := hide (HB.out.trans (HB4.out.mono HB.out.size))
   clear hF b4
   by_cases hlt : i < p.cn
   ·have hlti : (i : Int) < (p.cn : Int) := by omega
    obtain ⟨ad, hao, A0⟩ := (HS.out.below HB4.out).cloud.at i hlt
    obtain ⟨s, Hs⟩ : ∃ s, Hid (p.P.cloud.getD i sn0 = s) := ⟨_, rfl⟩
    rw [Hs.out] at A0
    obtain ⟨b1, o1, rfl⟩ : ∃ b1 o1, ad = ⟨b1, o1, none⟩ := by
     have h := (HS.out.below HB4.out).cloud
     rw [hao] at h
     exact h.spot (by omega)
    rw [Addr.add_lit] at A0
    have Hao := hide hao
    have HA0 := hide A0
    have HSw : Hid (∀ W, Below w4.heap.size w4 W -> W.cell? ⟨g1, 1, none⟩ = some (.slice (some ⟨b1, o1, none⟩) p.cn p.cc) /\ W.cell? ⟨g1 + 1, 0, none⟩ = some (.int .i64 (y : Int)) /\ W.cell? ⟨g1 + 1, 1, none⟩ = some (.int .i64 lo) /\ W.cell? ⟨b1, o1 + i * 3, none⟩ = some (.int .i64 s.rep) /\ W.cell? ⟨b1, o1 + i * 3 + 1, none⟩ = some (.int .i64 s.lo)) := fun W hW => by
     obtain ⟨c0, c1, c2⟩ := HSu.out W hW
     rw [Hao.out] at c0
     have h := HA0.out.on hW
     have h1 := h.c1
     rw [Addr.add_lit] at h1
     exact ⟨c0, c1, c2, h.c0, h1⟩
    clear A0 hao
    by_cases e1 : s.rep = (y : Int)
    ·by_cases e2 : s.lo <= lo
     ·have HE : Hid (∀ W, Below w4.heap.size w4 W -> GivesB w W (.returned (.bool true)) (spIn p.P ⟨(y : Int), lo, hi⟩)) := fun W hW => ⟨true, rfl, ⟨fun _ => HI.out.1 (by rw [Hs.out]; exact ⟨hlt, e1, e2⟩), fun _ => rfl⟩, HBw.out.trans (hW.mono HBw.out.size)⟩
      have eb : ((s.rep : Int) == (y : Int)) = true := by rw [e1]; simp
      have ed : decide (s.lo <= lo) = true := decide_eq_true e2
      clear e1
      go_upto_region 4 with fail
      refine wp_region_held_drew (S := fun W => W.cell? ⟨g1, 1, none⟩ = some (.slice (some ⟨b1, o1, none⟩) p.cn p.cc) /\ W.cell? ⟨g1 + 1, 0, none⟩ = some (.int .i64 (y : Int)) /\ W.cell? ⟨g1 + 1, 1, none⟩ = some (.int .i64 lo) /\ W.cell? ⟨b1, o1 + i * 3, none⟩ = some (.int .i64 s.rep) /\ W.cell? ⟨b1, o1 + i * 3 + 1, none⟩ = some (.int .i64 s.lo)) (by kernel_rfl) (HSw.out _ (below_drew1 w4)) (fun hHeld => ?_)
      refine wTk 0 ⟨some 31, .move (.tmp 5), 3, "records.go:121", #[], none⟩ rfl ?_
      refine wTk 1 ⟨some 32, .fieldAddr 26 (.tmp 2) 1, 0, "records.go:121", #[], none⟩ rfl ?_
      refine wTk 2 ⟨some 33, .load 24 (.tmp 32), 24, "records.go:121", #[⟨1, .data⟩], none⟩ rfl ?_
      refine wTk 3 ⟨some 34, .call ⟨.builtin .len, #[.tmp 33], #[24]⟩, 3, "records.go:121", #[⟨2, .data⟩], none⟩ rfl ?_
      refine wTk 4 ⟨some 35, .binOp .lss 3 (.tmp 31) (.tmp 34) 3, 4, "records.go:121", #[⟨0, .data⟩, ⟨3, .data⟩], none⟩ rfl ?_
      refine wTk 5 ⟨some 36, .move (.tmp 35), 4, "records.go:121", #[⟨4, .data⟩], none⟩ rfl ?_
      refine wTk 6 ⟨some 37, .fieldAddr 26 (.tmp 2) 1, 0, "records.go:121", #[⟨5, .guard⟩], some (5, true)⟩ rfl ?_
      refine wTk 7 ⟨some 38, .load 24 (.tmp 37), 24, "records.go:121", #[⟨6, .data⟩, ⟨5, .guard⟩], some (5, true)⟩ rfl ?_
      refine wTk 8 ⟨some 39, .move (.tmp 5), 3, "records.go:121", #[⟨5, .guard⟩], some (5, true)⟩ rfl ?_
      refine wTk 9 ⟨some 40, .indexAddr 24 (.tmp 38) (.tmp 39), 0, "records.go:121", #[⟨7, .data⟩, ⟨8, .data⟩, ⟨5, .guard⟩], some (5, true)⟩ rfl ?_
      refine wTk 10 ⟨some 41, .fieldAddr 122 (.tmp 40) 0, 0, "records.go:121", #[⟨9, .data⟩, ⟨5, .guard⟩], some (5, true)⟩ rfl ?_
      refine wTk 11 ⟨some 42, .load 3 (.tmp 41), 3, "records.go:121", #[⟨10, .data⟩, ⟨5, .guard⟩], some (5, true)⟩ rfl ?_
      refine wTk 12 ⟨some 43, .fieldAddr 122 (.tmp 3) 0, 0, "records.go:121", #[⟨5, .guard⟩], some (5, true)⟩ rfl ?_
      refine wTk 13 ⟨some 44, .load 3 (.tmp 43), 3, "records.go:121", #[⟨12, .data⟩, ⟨5, .guard⟩], some (5, true)⟩ rfl ?_
      refine wTk 14 ⟨some 45, .binOp .eql 3 (.tmp 42) (.tmp 44) 3, 4, "records.go:121", #[⟨11, .data⟩, ⟨13, .data⟩, ⟨5, .guard⟩], some (5, true)⟩ rfl ?_
      refine wTk 15 ⟨some 46, .pick (.tmp 36) (.tmp 45) (.const (.bool false)), 4, "records.go:121", #[⟨5, .data⟩, ⟨14, .data⟩], none⟩ rfl ?_
      refine wTk 16 ⟨some 47, .move (.tmp 46), 4, "records.go:121", #[⟨15, .data⟩, ⟨5, .chain⟩], none⟩ rfl ?_
      refine wTk 17 ⟨some 48, .fieldAddr 26 (.tmp 2) 1, 0, "records.go:121", #[⟨16, .guard⟩], some (16, true)⟩ rfl ?_
      refine wTk 18 ⟨some 49, .load 24 (.tmp 48), 24, "records.go:121", #[⟨17, .data⟩, ⟨16, .guard⟩], some (16, true)⟩ rfl ?_
      refine wTk 19 ⟨some 50, .move (.tmp 5), 3, "records.go:121", #[⟨16, .guard⟩], some (16, true)⟩ rfl ?_
      refine wTk 20 ⟨some 51, .indexAddr 24 (.tmp 49) (.tmp 50), 0, "records.go:121", #[⟨18, .data⟩, ⟨19, .data⟩, ⟨16, .guard⟩], some (16, true)⟩ rfl ?_
      refine wTk 21 ⟨some 52, .fieldAddr 122 (.tmp 51) 1, 0, "records.go:121", #[⟨20, .data⟩, ⟨16, .guard⟩], some (16, true)⟩ rfl ?_
      refine wTk 22 ⟨some 53, .load 3 (.tmp 52), 3, "records.go:121", #[⟨21, .data⟩, ⟨16, .guard⟩], some (16, true)⟩ rfl ?_
      refine wTk 23 ⟨some 54, .fieldAddr 122 (.tmp 3) 1, 0, "records.go:121", #[⟨16, .guard⟩], some (16, true)⟩ rfl ?_
      refine wTk 24 ⟨some 55, .load 3 (.tmp 54), 3, "records.go:121", #[⟨23, .data⟩, ⟨16, .guard⟩], some (16, true)⟩ rfl ?_
      refine wTk 25 ⟨some 56, .binOp .leq 3 (.tmp 53) (.tmp 55) 3, 4, "records.go:121", #[⟨22, .data⟩, ⟨24, .data⟩, ⟨16, .guard⟩], some (16, true)⟩ rfl ?_
      refine wTk 26 ⟨some 57, .pick (.tmp 47) (.tmp 56) (.const (.bool false)), 4, "records.go:121", #[⟨16, .data⟩, ⟨25, .data⟩], none⟩ rfl ?_
      refine wTk 27 ⟨some 4, .assign (.tmp 57), 4, "records.go:121", #[⟨26, .data⟩, ⟨16, .chain⟩, ⟨0, .phase⟩, ⟨1, .phase⟩, ⟨2, .phase⟩, ⟨3, .phase⟩, ⟨4, .phase⟩, ⟨5, .phase⟩, ⟨6, .phase⟩, ⟨7, .phase⟩, ⟨8, .phase⟩, ⟨9, .phase⟩, ⟨10, .phase⟩, ⟨11, .phase⟩, ⟨12, .phase⟩, ⟨13, .phase⟩, ⟨14, .phase⟩, ⟨15, .phase⟩, ⟨16, .phase⟩, ⟨17, .phase⟩, ⟨18, .phase⟩, ⟨19, .phase⟩, ⟨20, .phase⟩, ⟨21, .phase⟩, ⟨22, .phase⟩, ⟨23, .phase⟩, ⟨24, .phase⟩, ⟨25, .phase⟩, ⟨26, .phase⟩], none⟩ rfl ?_
      refine wpAnyH_done (by kernel_rfl) ?_ _
      clear hHeld
      go_wp2_with fail
      go_ret
      exact HE.out _ (below_drew1 w4)
     ·have HE : Hid (∀ W, Below w4.heap.size w4 W -> GivesB w W (.returned (.bool false)) (spIn p.P ⟨(y : Int), lo, hi⟩)) := fun W hW => ⟨false, rfl, ⟨fun h => (by cases h), fun h => absurd (by have := (HI.out.2 h).2.2; rwa [Hs.out] at this) e2⟩, HBw.out.trans (hW.mono HBw.out.size)⟩
      have eb : ((s.rep : Int) == (y : Int)) = true := by rw [e1]; simp
      have ed : decide (s.lo <= lo) = false := decide_eq_false e2
      clear e1
      go_upto_region 4 with fail
      refine wp_region_held_drew (S := fun W => W.cell? ⟨g1, 1, none⟩ = some (.slice (some ⟨b1, o1, none⟩) p.cn p.cc) /\ W.cell? ⟨g1 + 1, 0, none⟩ = some (.int .i64 (y : Int)) /\ W.cell? ⟨g1 + 1, 1, none⟩ = some (.int .i64 lo) /\ W.cell? ⟨b1, o1 + i * 3, none⟩ = some (.int .i64 s.rep) /\ W.cell? ⟨b1, o1 + i * 3 + 1, none⟩ = some (.int .i64 s.lo)) (by kernel_rfl) (HSw.out _ (below_drew1 w4)) (fun hHeld => ?_)
      refine wTk 0 ⟨some 31, .move (.tmp 5), 3, "records.go:121", #[], none⟩ rfl ?_
      refine wTk 1 ⟨some 32, .fieldAddr 26 (.tmp 2) 1, 0, "records.go:121", #[], none⟩ rfl ?_
      refine wTk 2 ⟨some 33, .load 24 (.tmp 32), 24, "records.go:121", #[⟨1, .data⟩], none⟩ rfl ?_
      refine wTk 3 ⟨some 34, .call ⟨.builtin .len, #[.tmp 33], #[24]⟩, 3, "records.go:121", #[⟨2, .data⟩], none⟩ rfl ?_
      refine wTk 4 ⟨some 35, .binOp .lss 3 (.tmp 31) (.tmp 34) 3, 4, "records.go:121", #[⟨0, .data⟩, ⟨3, .data⟩], none⟩ rfl ?_
      refine wTk 5 ⟨some 36, .move (.tmp 35), 4, "records.go:121", #[⟨4, .data⟩], none⟩ rfl ?_
      refine wTk 6 ⟨some 37, .fieldAddr 26 (.tmp 2) 1, 0, "records.go:121", #[⟨5, .guard⟩], some (5, true)⟩ rfl ?_
      refine wTk 7 ⟨some 38, .load 24 (.tmp 37), 24, "records.go:121", #[⟨6, .data⟩, ⟨5, .guard⟩], some (5, true)⟩ rfl ?_
      refine wTk 8 ⟨some 39, .move (.tmp 5), 3, "records.go:121", #[⟨5, .guard⟩], some (5, true)⟩ rfl ?_
      refine wTk 9 ⟨some 40, .indexAddr 24 (.tmp 38) (.tmp 39), 0, "records.go:121", #[⟨7, .data⟩, ⟨8, .data⟩, ⟨5, .guard⟩], some (5, true)⟩ rfl ?_
      refine wTk 10 ⟨some 41, .fieldAddr 122 (.tmp 40) 0, 0, "records.go:121", #[⟨9, .data⟩, ⟨5, .guard⟩], some (5, true)⟩ rfl ?_
      refine wTk 11 ⟨some 42, .load 3 (.tmp 41), 3, "records.go:121", #[⟨10, .data⟩, ⟨5, .guard⟩], some (5, true)⟩ rfl ?_
      refine wTk 12 ⟨some 43, .fieldAddr 122 (.tmp 3) 0, 0, "records.go:121", #[⟨5, .guard⟩], some (5, true)⟩ rfl ?_
      refine wTk 13 ⟨some 44, .load 3 (.tmp 43), 3, "records.go:121", #[⟨12, .data⟩, ⟨5, .guard⟩], some (5, true)⟩ rfl ?_
      refine wTk 14 ⟨some 45, .binOp .eql 3 (.tmp 42) (.tmp 44) 3, 4, "records.go:121", #[⟨11, .data⟩, ⟨13, .data⟩, ⟨5, .guard⟩], some (5, true)⟩ rfl ?_
      refine wTk 15 ⟨some 46, .pick (.tmp 36) (.tmp 45) (.const (.bool false)), 4, "records.go:121", #[⟨5, .data⟩, ⟨14, .data⟩], none⟩ rfl ?_
      refine wTk 16 ⟨some 47, .move (.tmp 46), 4, "records.go:121", #[⟨15, .data⟩, ⟨5, .chain⟩], none⟩ rfl ?_
      refine wTk 17 ⟨some 48, .fieldAddr 26 (.tmp 2) 1, 0, "records.go:121", #[⟨16, .guard⟩], some (16, true)⟩ rfl ?_
      refine wTk 18 ⟨some 49, .load 24 (.tmp 48), 24, "records.go:121", #[⟨17, .data⟩, ⟨16, .guard⟩], some (16, true)⟩ rfl ?_
      refine wTk 19 ⟨some 50, .move (.tmp 5), 3, "records.go:121", #[⟨16, .guard⟩], some (16, true)⟩ rfl ?_
      refine wTk 20 ⟨some 51, .indexAddr 24 (.tmp 49) (.tmp 50), 0, "records.go:121", #[⟨18, .data⟩, ⟨19, .data⟩, ⟨16, .guard⟩], some (16, true)⟩ rfl ?_
      refine wTk 21 ⟨some 52, .fieldAddr 122 (.tmp 51) 1, 0, "records.go:121", #[⟨20, .data⟩, ⟨16, .guard⟩], some (16, true)⟩ rfl ?_
      refine wTk 22 ⟨some 53, .load 3 (.tmp 52), 3, "records.go:121", #[⟨21, .data⟩, ⟨16, .guard⟩], some (16, true)⟩ rfl ?_
      refine wTk 23 ⟨some 54, .fieldAddr 122 (.tmp 3) 1, 0, "records.go:121", #[⟨16, .guard⟩], some (16, true)⟩ rfl ?_
      refine wTk 24 ⟨some 55, .load 3 (.tmp 54), 3, "records.go:121", #[⟨23, .data⟩, ⟨16, .guard⟩], some (16, true)⟩ rfl ?_
      refine wTk 25 ⟨some 56, .binOp .leq 3 (.tmp 53) (.tmp 55) 3, 4, "records.go:121", #[⟨22, .data⟩, ⟨24, .data⟩, ⟨16, .guard⟩], some (16, true)⟩ rfl ?_
      refine wTk 26 ⟨some 57, .pick (.tmp 47) (.tmp 56) (.const (.bool false)), 4, "records.go:121", #[⟨16, .data⟩, ⟨25, .data⟩], none⟩ rfl ?_
      refine wTk 27 ⟨some 4, .assign (.tmp 57), 4, "records.go:121", #[⟨26, .data⟩, ⟨16, .chain⟩, ⟨0, .phase⟩, ⟨1, .phase⟩, ⟨2, .phase⟩, ⟨3, .phase⟩, ⟨4, .phase⟩, ⟨5, .phase⟩, ⟨6, .phase⟩, ⟨7, .phase⟩, ⟨8, .phase⟩, ⟨9, .phase⟩, ⟨10, .phase⟩, ⟨11, .phase⟩, ⟨12, .phase⟩, ⟨13, .phase⟩, ⟨14, .phase⟩, ⟨15, .phase⟩, ⟨16, .phase⟩, ⟨17, .phase⟩, ⟨18, .phase⟩, ⟨19, .phase⟩, ⟨20, .phase⟩, ⟨21, .phase⟩, ⟨22, .phase⟩, ⟨23, .phase⟩, ⟨24, .phase⟩, ⟨25, .phase⟩, ⟨26, .phase⟩], none⟩ rfl ?_
      refine wpAnyH_done (by kernel_rfl) ?_ _
      clear hHeld
      go_wp2_with fail
      go_ret
      exact HE.out _ (below_drew1 w4)
    ·have HE : Hid (∀ W, Below w4.heap.size w4 W -> GivesB w W (.returned (.bool false)) (spIn p.P ⟨(y : Int), lo, hi⟩)) := fun W hW => ⟨false, rfl, ⟨fun h => (by cases h), fun h => absurd (by have := (HI.out.2 h).2.1; rwa [Hs.out] at this) e1⟩, HBw.out.trans (hW.mono HBw.out.size)⟩
     have eb : ((s.rep : Int) == (y : Int)) = false := by rw [beq_eq_false_iff_ne]; exact e1
     clear e1
     go_upto_region 4 with fail
     refine wp_region_held_drew (S := fun W => W.cell? ⟨g1, 1, none⟩ = some (.slice (some ⟨b1, o1, none⟩) p.cn p.cc) /\ W.cell? ⟨g1 + 1, 0, none⟩ = some (.int .i64 (y : Int)) /\ W.cell? ⟨g1 + 1, 1, none⟩ = some (.int .i64 lo) /\ W.cell? ⟨b1, o1 + i * 3, none⟩ = some (.int .i64 s.rep) /\ W.cell? ⟨b1, o1 + i * 3 + 1, none⟩ = some (.int .i64 s.lo)) (by kernel_rfl) (HSw.out _ (below_drew1 w4)) (fun hHeld => ?_)
     refine wTk 0 ⟨some 31, .move (.tmp 5), 3, "records.go:121", #[], none⟩ rfl ?_
     refine wTk 1 ⟨some 32, .fieldAddr 26 (.tmp 2) 1, 0, "records.go:121", #[], none⟩ rfl ?_
     refine wTk 2 ⟨some 33, .load 24 (.tmp 32), 24, "records.go:121", #[⟨1, .data⟩], none⟩ rfl ?_
     refine wTk 3 ⟨some 34, .call ⟨.builtin .len, #[.tmp 33], #[24]⟩, 3, "records.go:121", #[⟨2, .data⟩], none⟩ rfl ?_
     refine wTk 4 ⟨some 35, .binOp .lss 3 (.tmp 31) (.tmp 34) 3, 4, "records.go:121", #[⟨0, .data⟩, ⟨3, .data⟩], none⟩ rfl ?_
     refine wTk 5 ⟨some 36, .move (.tmp 35), 4, "records.go:121", #[⟨4, .data⟩], none⟩ rfl ?_
     refine wTk 6 ⟨some 37, .fieldAddr 26 (.tmp 2) 1, 0, "records.go:121", #[⟨5, .guard⟩], some (5, true)⟩ rfl ?_
     refine wTk 7 ⟨some 38, .load 24 (.tmp 37), 24, "records.go:121", #[⟨6, .data⟩, ⟨5, .guard⟩], some (5, true)⟩ rfl ?_
     refine wTk 8 ⟨some 39, .move (.tmp 5), 3, "records.go:121", #[⟨5, .guard⟩], some (5, true)⟩ rfl ?_
     refine wTk 9 ⟨some 40, .indexAddr 24 (.tmp 38) (.tmp 39), 0, "records.go:121", #[⟨7, .data⟩, ⟨8, .data⟩, ⟨5, .guard⟩], some (5, true)⟩ rfl ?_
     refine wTk 10 ⟨some 41, .fieldAddr 122 (.tmp 40) 0, 0, "records.go:121", #[⟨9, .data⟩, ⟨5, .guard⟩], some (5, true)⟩ rfl ?_
     refine wTk 11 ⟨some 42, .load 3 (.tmp 41), 3, "records.go:121", #[⟨10, .data⟩, ⟨5, .guard⟩], some (5, true)⟩ rfl ?_
     refine wTk 12 ⟨some 43, .fieldAddr 122 (.tmp 3) 0, 0, "records.go:121", #[⟨5, .guard⟩], some (5, true)⟩ rfl ?_
     refine wTk 13 ⟨some 44, .load 3 (.tmp 43), 3, "records.go:121", #[⟨12, .data⟩, ⟨5, .guard⟩], some (5, true)⟩ rfl ?_
     refine wTk 14 ⟨some 45, .binOp .eql 3 (.tmp 42) (.tmp 44) 3, 4, "records.go:121", #[⟨11, .data⟩, ⟨13, .data⟩, ⟨5, .guard⟩], some (5, true)⟩ rfl ?_
     refine wTk 15 ⟨some 46, .pick (.tmp 36) (.tmp 45) (.const (.bool false)), 4, "records.go:121", #[⟨5, .data⟩, ⟨14, .data⟩], none⟩ rfl ?_
     refine wTk 16 ⟨some 47, .move (.tmp 46), 4, "records.go:121", #[⟨15, .data⟩, ⟨5, .chain⟩], none⟩ rfl ?_
     refine wSk 17 ⟨some 48, .fieldAddr 26 (.tmp 2) 1, 0, "records.go:121", #[⟨16, .guard⟩], some (16, true)⟩ rfl ?_
     refine wSk 18 ⟨some 49, .load 24 (.tmp 48), 24, "records.go:121", #[⟨17, .data⟩, ⟨16, .guard⟩], some (16, true)⟩ rfl ?_
     refine wSk 19 ⟨some 50, .move (.tmp 5), 3, "records.go:121", #[⟨16, .guard⟩], some (16, true)⟩ rfl ?_
     refine wSk 20 ⟨some 51, .indexAddr 24 (.tmp 49) (.tmp 50), 0, "records.go:121", #[⟨18, .data⟩, ⟨19, .data⟩, ⟨16, .guard⟩], some (16, true)⟩ rfl ?_
     refine wSk 21 ⟨some 52, .fieldAddr 122 (.tmp 51) 1, 0, "records.go:121", #[⟨20, .data⟩, ⟨16, .guard⟩], some (16, true)⟩ rfl ?_
     refine wSk 22 ⟨some 53, .load 3 (.tmp 52), 3, "records.go:121", #[⟨21, .data⟩, ⟨16, .guard⟩], some (16, true)⟩ rfl ?_
     refine wSk 23 ⟨some 54, .fieldAddr 122 (.tmp 3) 1, 0, "records.go:121", #[⟨16, .guard⟩], some (16, true)⟩ rfl ?_
     refine wSk 24 ⟨some 55, .load 3 (.tmp 54), 3, "records.go:121", #[⟨23, .data⟩, ⟨16, .guard⟩], some (16, true)⟩ rfl ?_
     refine wSk 25 ⟨some 56, .binOp .leq 3 (.tmp 53) (.tmp 55) 3, 4, "records.go:121", #[⟨22, .data⟩, ⟨24, .data⟩, ⟨16, .guard⟩], some (16, true)⟩ rfl ?_
     refine wTk 26 ⟨some 57, .pick (.tmp 47) (.tmp 56) (.const (.bool false)), 4, "records.go:121", #[⟨16, .data⟩, ⟨25, .data⟩], none⟩ rfl ?_
     refine wTk 27 ⟨some 4, .assign (.tmp 57), 4, "records.go:121", #[⟨26, .data⟩, ⟨16, .chain⟩, ⟨0, .phase⟩, ⟨1, .phase⟩, ⟨2, .phase⟩, ⟨3, .phase⟩, ⟨4, .phase⟩, ⟨5, .phase⟩, ⟨6, .phase⟩, ⟨7, .phase⟩, ⟨8, .phase⟩, ⟨9, .phase⟩, ⟨10, .phase⟩, ⟨11, .phase⟩, ⟨12, .phase⟩, ⟨13, .phase⟩, ⟨14, .phase⟩, ⟨15, .phase⟩, ⟨16, .phase⟩, ⟨17, .phase⟩, ⟨18, .phase⟩, ⟨19, .phase⟩, ⟨20, .phase⟩, ⟨21, .phase⟩, ⟨22, .phase⟩, ⟨23, .phase⟩, ⟨24, .phase⟩, ⟨25, .phase⟩, ⟨26, .phase⟩], none⟩ rfl ?_
     refine wpAnyH_done (by kernel_rfl) ?_ _
     clear hHeld
     go_wp2_with fail
     go_ret
     exact HE.out _ (below_drew1 w4)
   ·have hlti : ¬ (i : Int) < (p.cn : Int) := by omega
    have HE : Hid (∀ W, Below w4.heap.size w4 W -> GivesB w W (.returned (.bool false)) (spIn p.P ⟨(y : Int), lo, hi⟩)) := fun W hW => ⟨false, rfl, ⟨fun h => (by cases h), fun h => absurd (HI.out.2 h).1 hlt⟩, HBw.out.trans (hW.mono HBw.out.size)⟩
    go_upto_region 4 with fail
    refine wp_region_held_drew (S := fun W => W.cell? ⟨g1, 1, none⟩ = some (.slice p.co p.cn p.cc) /\ W.cell? ⟨g1 + 1, 0, none⟩ = some (.int .i64 (y : Int)) /\ W.cell? ⟨g1 + 1, 1, none⟩ = some (.int .i64 lo)) (by kernel_rfl) (HSu.out _ (below_drew1 w4)) (fun hHeld => ?_)
    refine wTk 0 ⟨some 31, .move (.tmp 5), 3, "records.go:121", #[], none⟩ rfl ?_
    refine wTk 1 ⟨some 32, .fieldAddr 26 (.tmp 2) 1, 0, "records.go:121", #[], none⟩ rfl ?_
    refine wTk 2 ⟨some 33, .load 24 (.tmp 32), 24, "records.go:121", #[⟨1, .data⟩], none⟩ rfl ?_
    refine wTk 3 ⟨some 34, .call ⟨.builtin .len, #[.tmp 33], #[24]⟩, 3, "records.go:121", #[⟨2, .data⟩], none⟩ rfl ?_
    refine wTk 4 ⟨some 35, .binOp .lss 3 (.tmp 31) (.tmp 34) 3, 4, "records.go:121", #[⟨0, .data⟩, ⟨3, .data⟩], none⟩ rfl ?_
    refine wTk 5 ⟨some 36, .move (.tmp 35), 4, "records.go:121", #[⟨4, .data⟩], none⟩ rfl ?_
    refine wSk 6 ⟨some 37, .fieldAddr 26 (.tmp 2) 1, 0, "records.go:121", #[⟨5, .guard⟩], some (5, true)⟩ rfl ?_
    refine wSk 7 ⟨some 38, .load 24 (.tmp 37), 24, "records.go:121", #[⟨6, .data⟩, ⟨5, .guard⟩], some (5, true)⟩ rfl ?_
    refine wSk 8 ⟨some 39, .move (.tmp 5), 3, "records.go:121", #[⟨5, .guard⟩], some (5, true)⟩ rfl ?_
    refine wSk 9 ⟨some 40, .indexAddr 24 (.tmp 38) (.tmp 39), 0, "records.go:121", #[⟨7, .data⟩, ⟨8, .data⟩, ⟨5, .guard⟩], some (5, true)⟩ rfl ?_
    refine wSk 10 ⟨some 41, .fieldAddr 122 (.tmp 40) 0, 0, "records.go:121", #[⟨9, .data⟩, ⟨5, .guard⟩], some (5, true)⟩ rfl ?_
    refine wSk 11 ⟨some 42, .load 3 (.tmp 41), 3, "records.go:121", #[⟨10, .data⟩, ⟨5, .guard⟩], some (5, true)⟩ rfl ?_
    refine wSk 12 ⟨some 43, .fieldAddr 122 (.tmp 3) 0, 0, "records.go:121", #[⟨5, .guard⟩], some (5, true)⟩ rfl ?_
    refine wSk 13 ⟨some 44, .load 3 (.tmp 43), 3, "records.go:121", #[⟨12, .data⟩, ⟨5, .guard⟩], some (5, true)⟩ rfl ?_
    refine wSk 14 ⟨some 45, .binOp .eql 3 (.tmp 42) (.tmp 44) 3, 4, "records.go:121", #[⟨11, .data⟩, ⟨13, .data⟩, ⟨5, .guard⟩], some (5, true)⟩ rfl ?_
    refine wTk 15 ⟨some 46, .pick (.tmp 36) (.tmp 45) (.const (.bool false)), 4, "records.go:121", #[⟨5, .data⟩, ⟨14, .data⟩], none⟩ rfl ?_
    refine wTk 16 ⟨some 47, .move (.tmp 46), 4, "records.go:121", #[⟨15, .data⟩, ⟨5, .chain⟩], none⟩ rfl ?_
    refine wSk 17 ⟨some 48, .fieldAddr 26 (.tmp 2) 1, 0, "records.go:121", #[⟨16, .guard⟩], some (16, true)⟩ rfl ?_
    refine wSk 18 ⟨some 49, .load 24 (.tmp 48), 24, "records.go:121", #[⟨17, .data⟩, ⟨16, .guard⟩], some (16, true)⟩ rfl ?_
    refine wSk 19 ⟨some 50, .move (.tmp 5), 3, "records.go:121", #[⟨16, .guard⟩], some (16, true)⟩ rfl ?_
    refine wSk 20 ⟨some 51, .indexAddr 24 (.tmp 49) (.tmp 50), 0, "records.go:121", #[⟨18, .data⟩, ⟨19, .data⟩, ⟨16, .guard⟩], some (16, true)⟩ rfl ?_
    refine wSk 21 ⟨some 52, .fieldAddr 122 (.tmp 51) 1, 0, "records.go:121", #[⟨20, .data⟩, ⟨16, .guard⟩], some (16, true)⟩ rfl ?_
    refine wSk 22 ⟨some 53, .load 3 (.tmp 52), 3, "records.go:121", #[⟨21, .data⟩, ⟨16, .guard⟩], some (16, true)⟩ rfl ?_
    refine wSk 23 ⟨some 54, .fieldAddr 122 (.tmp 3) 1, 0, "records.go:121", #[⟨16, .guard⟩], some (16, true)⟩ rfl ?_
    refine wSk 24 ⟨some 55, .load 3 (.tmp 54), 3, "records.go:121", #[⟨23, .data⟩, ⟨16, .guard⟩], some (16, true)⟩ rfl ?_
    refine wSk 25 ⟨some 56, .binOp .leq 3 (.tmp 53) (.tmp 55) 3, 4, "records.go:121", #[⟨22, .data⟩, ⟨24, .data⟩, ⟨16, .guard⟩], some (16, true)⟩ rfl ?_
    refine wTk 26 ⟨some 57, .pick (.tmp 47) (.tmp 56) (.const (.bool false)), 4, "records.go:121", #[⟨16, .data⟩, ⟨25, .data⟩], none⟩ rfl ?_
    refine wTk 27 ⟨some 4, .assign (.tmp 57), 4, "records.go:121", #[⟨26, .data⟩, ⟨16, .chain⟩, ⟨0, .phase⟩, ⟨1, .phase⟩, ⟨2, .phase⟩, ⟨3, .phase⟩, ⟨4, .phase⟩, ⟨5, .phase⟩, ⟨6, .phase⟩, ⟨7, .phase⟩, ⟨8, .phase⟩, ⟨9, .phase⟩, ⟨10, .phase⟩, ⟨11, .phase⟩, ⟨12, .phase⟩, ⟨13, .phase⟩, ⟨14, .phase⟩, ⟨15, .phase⟩, ⟨16, .phase⟩, ⟨17, .phase⟩, ⟨18, .phase⟩, ⟨19, .phase⟩, ⟨20, .phase⟩, ⟨21, .phase⟩, ⟨22, .phase⟩, ⟨23, .phase⟩, ⟨24, .phase⟩, ⟨25, .phase⟩, ⟨26, .phase⟩], none⟩ rfl ?_
    refine wpAnyH_done (by kernel_rfl) ?_ _
    clear hHeld
    go_wp2_with fail
    go_ret
    exact HE.out _ (below_drew1 w4)
end
end Go.Proofs.YtaphmhbmhcahaaaGreat
