/- TRb TLs -/
import Derived.Test.YtalpnhfoaohhhaaGreatTk
import Derived.Test.YtalpnhfoaohhhaaGreatTd26
import Derived.Deep.CutRange
import Derived.Test.YtalpnhfoaohhhaaGreatTd38
import Derived.Test.YtalpnhfoaohhhaaGreatTd18
set_option maxRecDepth 100000
set_option maxHeartbeats 3200000
namespace Go.Proofs.YtalpnhfoaohhhaaGreat
section
open Go.RowKit
attribute [local go_sem ↓] ldRe_eq stRe_eq
attribute [local go_sem] cells_ReV ReC_size zero_ReC
variable {w w' w2 W W' : World} {g : Nat}

def rcC (s d : Rc) : Int := ck (rck s) (rck d)
theorem rcC_any (a b : Rc) (w : World) (hA : RcOk w a) (hB : RcOk w b) (fa : InForm a.p.P) (fb : InForm b.p.P) : Calls Tryz.prog 67 #[ReV (mkR a), ReV (mkR b)] w fun e w' => e = .returned (.int .i64 (rcC a b)) /\ Below w.heap.size w w' := by
 refine (keepCompare_any a b w hA hB).mono ?_
 rintro e w' ⟨z, rfl, hz, hb⟩
 exact ⟨by rw [cmpR_ck fa fb hz]; rfl, hb⟩
def FirstC (L : List Rc) (d : Rc) (n i : Nat) : Prop := i <= n /\ (∀ j, j < i -> rcC (L.getD j rc0) d < 0) /\ (i < n -> 0 <= rcC (L.getD i rc0) d)
def BsC (w w' : World) (e : Ending) (L : List Rc) (d : Rc) (n : Nat) : Prop := ∃ (i : Nat) (b : Bool), e = .returned (.tuple #[.int .i64 (i : Int), .bool b]) /\ FirstC L d n i /\ (b = true ↔ i < n /\ rcC (L.getD i rc0) d = 0) /\ Below w.heap.size w w'
theorem bsC_any (ao : Option Addr) (n cap : Nat) (L : List Rc) (d : Rc) (w : World) (hS : RcS w ao n cap L) (hd : RcOk w d) (hf : ∀ r ∈ L, InForm r.p.P) (hfd : InForm d.p.P) (hm : ∀ a b, a <= b -> b < n -> rcC (L.getD b rc0) d < 0 -> rcC (L.getD a rc0) d < 0) :
  Calls Tryz.prog 112 #[.slice ao n cap, ReV (mkR d), .func (.func 67) #[] #[]] w fun e w' => BsC w w' e L d n := by
 have hcf : ∀ (args : Array Value) (w : World), (callFunc 67 args).run Tryz.prog w = .ok (.enter 67 args) w := fun _ _ => rfl
 have b1 := below_new w (.cells (ReC (mkR d)) 62)
 have x1 := ReBox_new w (mkR d)
 obtain ⟨w1, hw1⟩ : ∃ w1, w.alloc (.cells (ReC (mkR d)) 62) = w1 := ⟨_, rfl⟩
 obtain ⟨g1, hg1⟩ : ∃ g1, w.heap.size = g1 := ⟨_, rfl⟩
 rw [hw1] at b1 x1
 rw [hg1] at x1
 have HB1 := hide b1
 have HX : Hid (ReBox w1 g1 (mkR d) /\ RcS w1 ao n cap L) := ⟨x1, hS.below b1⟩
 have HD : Hid (RcOk w1 d /\ InForm d.p.P /\ ∀ r ∈ L, InForm r.p.P) := ⟨hd.below b1, hfd, hf⟩
 have HLn : Hid (L.length = n) := hS.len
 have hnb : n <= 2199023255552 := hS.big
 have HM := hide hm
 clear b1 x1 hS hm hd hf hfd
 go_enter Tryz.func112, Tryz.ntmps112
 go_wp2_with fail
 clear hw1 hg1
 go_loopw [9, 10] (fun a b wr => ∃ (lo hi : Nat), a = .int .i64 (lo : Int) /\ b = .int .i64 (hi : Int) /\ lo <= hi /\ hi <= n /\ Hid (Below w1.heap.size w1 wr /\ (∀ j, j < lo -> rcC (L.getD j rc0) d < 0) /\ (hi < n -> 0 <= rcC (L.getD hi rc0) d))) (fun a b _ => (intOf b).toNat - (intOf a).toNat)
 case atStart => exact ⟨0, n, rfl, rfl, Nat.zero_le _, Nat.le_refl _, Below.refl _ _, (fun j hj => by omega), fun h => by omega⟩
 case round =>
  obtain ⟨lo, hi, rfl, rfl, hlh, hhn, HI⟩ := hrel
  rename World => wr
  by_cases hlt : lo < hi
  ·have hlti : (lo : Int) < (hi : Int) := by omega
   obtain ⟨h, hh⟩ : ∃ h : Nat, (lo + hi) / 2 = h := ⟨_, rfl⟩
   have hlb : lo <= 2199023255552 := by omega
   have hhb : hi <= 2199023255552 := by omega
   obtain ⟨t, ht⟩ : ∃ t : Nat, lo + hi = t := ⟨_, rfl⟩
   have et : (lo : Int) + (hi : Int) = (t : Int) := by omega
   have e2 : (t : Int) / 2 = (h : Int) := by omega
   have e3 : t / 2 = h := by omega
   have HH : Hid (lo <= h /\ h < hi /\ h < n) := ⟨by omega, by omega, by omega⟩
   have htb : t <= 20000000000000 := by omega
   obtain ⟨ad, rfl, A0⟩ := (HX.out.2.below HI.out.1).at h HH.out.2.2
   obtain ⟨s, Hs⟩ : ∃ s, Hid (L.getD h rc0 = s) := ⟨_, rfl⟩
   have HSt : Hid (∀ W, Below wr.heap.size wr W -> (ldRe (.pointer (some (ad.add (h * 3))))).run Tryz.prog W = .ok (ReV (mkR s)) W /\ (ldRe (.pointer (some ⟨g1, 0, none⟩))).run Tryz.prog W = .ok (ReV (mkR d)) W) := fun W hW => by
    obtain ⟨ad', e', A1⟩ := ((HX.out.2.below HI.out.1).below hW).at h HH.out.2.2
    obtain rfl := Option.some.inj e'
    rw [Hs.out] at A1
    exact ⟨run_laRe A1, run_ldRe ((HX.out.1.below HI.out.1).below hW)⟩
   have hhi : (h : Int) < (n : Int) := by have := HH.out; omega
   have HKs : Hid (RcOk wr s) := by rw [<- Hs.out]; exact (HX.out.2.below HI.out.1).okAt h HH.out.2.2
   have HFs : Hid (InForm s.p.P) := by rw [<- Hs.out]; exact HD.out.2.2 _ (rcD_mem (by rw [HLn.out]; exact HH.out.2.2))
   clear A0 hh ht
   go_upto_region 5 with fail
   clear et e2 e3
   refine wp_region_held_drew (S := fun W => (ldRe (.pointer (some (ad.add (h * 3))))).run Tryz.prog W = .ok (ReV (mkR s)) W /\ (ldRe (.pointer (some ⟨g1, 0, none⟩))).run Tryz.prog W = .ok (ReV (mkR d)) W) (by kernel_rfl) (HSt.out _ (below_drew1 wr)) (fun hHeld => ?_)
   refine wTk 0 ⟨some 24, .move (.tmp 2), 90, "sort.go:160", #[], none⟩ rfl ?_
   refine wTk 1 ⟨some 25, .move (.tmp 0), 27, "sort.go:160", #[], none⟩ rfl ?_
   refine wTk 2 ⟨some 26, .move (.tmp 11), 3, "sort.go:160", #[], none⟩ rfl ?_
   refine wTk 3 ⟨some 27, .indexAddr 27 (.tmp 25) (.tmp 26), 0, "sort.go:160", #[⟨1, .data⟩, ⟨2, .data⟩], none⟩ rfl ?_
   refine wTk 4 ⟨some 28, .load 62 (.tmp 27), 62, "sort.go:160", #[⟨3, .data⟩], none⟩ rfl ?_
   refine wTk 5 ⟨some 29, .load 62 (.tmp 4), 62, "sort.go:160", #[], none⟩ rfl ?_
   refine wpAnyH_ready (rs := [6]) (by kernel_rfl) (by simp) (.cons rfl (fun K hK => ?_) .nil)
   go_simp
   go_wp2_with fail
   refine (rcC_any s d _ (HKs.out.below (below_drew1 wr)) ((HD.out.1.below HI.out.1).below (below_drew1 wr)) HFs.out HD.out.2.1).mono ?_
   rintro e w3 ⟨rfl, b3⟩
   have hB3 : Below wr.heap.size wr w3 := (below_drew1 wr).trans b3
   have HB3 := hide (HI.out.1.trans (hB3.mono HI.out.1.size))
   refine hK.out _ _ (HSt.out _ hB3) (fun hHeld => ?_)
   clear hK K b3 hB3
   obtain ⟨z, hz⟩ : ∃ z, rcC s d = z := ⟨_, rfl⟩
   rw [hz]
   refine wTk 7 ⟨some 31, .binOp .lss 3 (.tmp 30) (.const (.int .i64 0)) 3, 4, "sort.go:160", #[⟨6, .data⟩], none⟩ rfl ?_
   refine wpAnyH_done (by kernel_rfl) ?_ _
   clear hHeld
   by_cases hz0 : z < 0
   ·have HN : Hid (∀ j, j < h + 1 -> rcC (L.getD j rc0) d < 0) := fun j hj => HM.out j h (by omega) HH.out.2.2 (by rw [Hs.out, hz]; exact hz0)
    clear hz
    go_wp2_with fail
    go_roundw
    case rel => exact ⟨h + 1, hi, by simp, rfl, by have := HH.out; omega, hhn, HB3.out, HN.out, HI.out.2.2⟩
    case measure => simp [intOf]; have := HH.out; omega
   ·have HN : Hid (h < n -> 0 <= rcC (L.getD h rc0) d) := fun _ => by rw [Hs.out, hz]; omega
    clear hz
    go_wp2_with fail
    go_roundw
    case rel => exact ⟨lo, h, rfl, rfl, HH.out.1, by have := HH.out; omega, HB3.out, HI.out.2.1, HN.out⟩
    case measure => simp [intOf]; have := HH.out; omega
  ·have hlti : ¬ (lo : Int) < (hi : Int) := by omega
   obtain rfl : lo = hi := by omega
   have HF : Hid (FirstC L d n lo) := ⟨hhn, HI.out.2.1, HI.out.2.2⟩
   have HBw := hide (HB1.out.trans (HI.out.1.mono HB1.out.size))
   by_cases hln : lo < n
   ·have hlni : (lo : Int) < (n : Int) := by omega
    obtain ⟨ad, rfl, A0⟩ := (HX.out.2.below HI.out.1).at lo hln
    obtain ⟨s, Hs⟩ : ∃ s, Hid (L.getD lo rc0 = s) := ⟨_, rfl⟩
    have HSt : Hid (∀ W, Below wr.heap.size wr W -> (ldRe (.pointer (some (ad.add (lo * 3))))).run Tryz.prog W = .ok (ReV (mkR s)) W /\ (ldRe (.pointer (some ⟨g1, 0, none⟩))).run Tryz.prog W = .ok (ReV (mkR d)) W) := fun W hW => by
     obtain ⟨ad', e', A1⟩ := ((HX.out.2.below HI.out.1).below hW).at lo hln
     obtain rfl := Option.some.inj e'
     rw [Hs.out] at A1
     exact ⟨run_laRe A1, run_ldRe ((HX.out.1.below HI.out.1).below hW)⟩
    have HKs : Hid (RcOk wr s) := by rw [<- Hs.out]; exact (HX.out.2.below HI.out.1).okAt lo hln
    have HFs : Hid (InForm s.p.P) := by rw [<- Hs.out]; exact HD.out.2.2 _ (rcD_mem (by rw [HLn.out]; exact hln))
    clear A0
    go_upto_region 8 with fail
    refine wp_region_held_drew (S := fun W => (ldRe (.pointer (some (ad.add (lo * 3))))).run Tryz.prog W = .ok (ReV (mkR s)) W /\ (ldRe (.pointer (some ⟨g1, 0, none⟩))).run Tryz.prog W = .ok (ReV (mkR d)) W) (by kernel_rfl) (HSt.out _ (below_drew1 wr)) (fun hHeld => ?_)
    refine wTk 0 ⟨some 35, .move (.tmp 9), 3, "sort.go:167", #[], none⟩ rfl ?_
    refine wTk 1 ⟨some 36, .move (.tmp 9), 3, "sort.go:167", #[], none⟩ rfl ?_
    refine wTk 2 ⟨some 37, .move (.tmp 8), 3, "sort.go:167", #[], none⟩ rfl ?_
    refine wTk 3 ⟨some 38, .binOp .lss 3 (.tmp 36) (.tmp 37) 3, 4, "sort.go:167", #[⟨1, .data⟩, ⟨2, .data⟩], none⟩ rfl ?_
    refine wTk 4 ⟨some 39, .move (.tmp 38), 4, "sort.go:167", #[⟨3, .data⟩], none⟩ rfl ?_
    refine wTk 5 ⟨some 40, .move (.tmp 2), 90, "sort.go:167", #[⟨4, .guard⟩], some (4, true)⟩ rfl ?_
    refine wTk 6 ⟨some 41, .move (.tmp 0), 27, "sort.go:167", #[⟨4, .guard⟩], some (4, true)⟩ rfl ?_
    refine wTk 7 ⟨some 42, .move (.tmp 9), 3, "sort.go:167", #[⟨4, .guard⟩], some (4, true)⟩ rfl ?_
    refine wTk 8 ⟨some 43, .indexAddr 27 (.tmp 41) (.tmp 42), 0, "sort.go:167", #[⟨6, .data⟩, ⟨7, .data⟩, ⟨4, .guard⟩], some (4, true)⟩ rfl ?_
    refine wTk 9 ⟨some 44, .load 62 (.tmp 43), 62, "sort.go:167", #[⟨8, .data⟩, ⟨4, .guard⟩], some (4, true)⟩ rfl ?_
    refine wTk 10 ⟨some 45, .load 62 (.tmp 4), 62, "sort.go:167", #[⟨4, .guard⟩], some (4, true)⟩ rfl ?_
    refine wpAnyH_ready (rs := [11]) (by kernel_rfl) (by simp) (.cons rfl (fun K hK => ?_) .nil)
    go_simp
    go_wp2_with fail
    refine (rcC_any s d _ (HKs.out.below (below_drew1 wr)) ((HD.out.1.below HI.out.1).below (below_drew1 wr)) HFs.out HD.out.2.1).mono ?_
    rintro e w3 ⟨rfl, b3⟩
    have hB3 : Below wr.heap.size wr w3 := (below_drew1 wr).trans b3
    have HB3 := hide (HBw.out.trans (hB3.mono HBw.out.size))
    refine hK.out _ _ (HSt.out _ hB3) (fun hHeld => ?_)
    clear hK K b3 hB3
    obtain ⟨z, hz⟩ : ∃ z, rcC s d = z := ⟨_, rfl⟩
    rw [hz]
    have HZ0 : Hid (rcC (L.getD lo rc0) d = z) := by show _ = _; rw [Hs.out]; exact hz
    clear hz
    refine wTk 14 ⟨some 6, .assign (.tmp 35), 3, "sort.go:167", #[⟨0, .data⟩, ⟨11, .chain⟩, ⟨0, .phase⟩, ⟨1, .textOnly .lateStores⟩, ⟨2, .textOnly .lateStores⟩, ⟨3, .textOnly .lateStores⟩, ⟨4, .textOnly .lateStores⟩, ⟨5, .textOnly .lateStores⟩, ⟨6, .textOnly .lateStores⟩, ⟨7, .textOnly .lateStores⟩, ⟨8, .textOnly .lateStores⟩, ⟨9, .textOnly .lateStores⟩, ⟨10, .textOnly .lateStores⟩, ⟨11, .textOnly .lateStoresUnsure⟩, ⟨12, .textOnly .lateStores⟩, ⟨13, .textOnly .lateStores⟩], none⟩ rfl ?_
    refine wTk 12 ⟨some 47, .binOp .eql 3 (.tmp 46) (.const (.int .i64 0)) 3, 4, "sort.go:167", #[⟨11, .data⟩, ⟨4, .guard⟩, ⟨14, .gcOnly .lateStores⟩], some (4, true)⟩ rfl ?_
    refine wTk 13 ⟨some 48, .pick (.tmp 39) (.tmp 47) (.const (.bool false)), 4, "sort.go:167", #[⟨4, .data⟩, ⟨12, .data⟩, ⟨14, .gcOnly .lateStores⟩], none⟩ rfl ?_
    refine wTk 15 ⟨some 7, .assign (.tmp 48), 4, "sort.go:167", #[⟨13, .data⟩, ⟨14, .chain⟩, ⟨0, .phase⟩, ⟨1, .phase⟩, ⟨2, .phase⟩, ⟨3, .phase⟩, ⟨4, .phase⟩, ⟨5, .phase⟩, ⟨6, .phase⟩, ⟨7, .phase⟩, ⟨8, .phase⟩, ⟨9, .phase⟩, ⟨10, .phase⟩, ⟨11, .phase⟩, ⟨12, .phase⟩, ⟨13, .phase⟩, ⟨14, .phase⟩], none⟩ rfl ?_
    refine wpAnyH_done (by kernel_rfl) ?_ _
    clear hHeld
    go_wp2_with fail
    go_ret2
    exact ⟨lo, _, rfl, HF.out, by rw [HZ0.out]; simp [hln], HB3.out⟩
   ·have hlni : ¬ (lo : Int) < (n : Int) := by omega
    go_upto_region 8 with fail
    refine wp_region_held_drew (S := fun _ => True) (by kernel_rfl) (trivial) (fun hHeld => ?_)
    refine wTk 0 ⟨some 35, .move (.tmp 9), 3, "sort.go:167", #[], none⟩ rfl ?_
    refine wTk 1 ⟨some 36, .move (.tmp 9), 3, "sort.go:167", #[], none⟩ rfl ?_
    refine wTk 2 ⟨some 37, .move (.tmp 8), 3, "sort.go:167", #[], none⟩ rfl ?_
    refine wTk 3 ⟨some 38, .binOp .lss 3 (.tmp 36) (.tmp 37) 3, 4, "sort.go:167", #[⟨1, .data⟩, ⟨2, .data⟩], none⟩ rfl ?_
    refine wTk 4 ⟨some 39, .move (.tmp 38), 4, "sort.go:167", #[⟨3, .data⟩], none⟩ rfl ?_
    refine wSk 5 ⟨some 40, .move (.tmp 2), 90, "sort.go:167", #[⟨4, .guard⟩], some (4, true)⟩ rfl ?_
    refine wSk 6 ⟨some 41, .move (.tmp 0), 27, "sort.go:167", #[⟨4, .guard⟩], some (4, true)⟩ rfl ?_
    refine wSk 7 ⟨some 42, .move (.tmp 9), 3, "sort.go:167", #[⟨4, .guard⟩], some (4, true)⟩ rfl ?_
    refine wSk 8 ⟨some 43, .indexAddr 27 (.tmp 41) (.tmp 42), 0, "sort.go:167", #[⟨6, .data⟩, ⟨7, .data⟩, ⟨4, .guard⟩], some (4, true)⟩ rfl ?_
    refine wSk 9 ⟨some 44, .load 62 (.tmp 43), 62, "sort.go:167", #[⟨8, .data⟩, ⟨4, .guard⟩], some (4, true)⟩ rfl ?_
    refine wSk 10 ⟨some 45, .load 62 (.tmp 4), 62, "sort.go:167", #[⟨4, .guard⟩], some (4, true)⟩ rfl ?_
    refine wSk 11 ⟨some 46, .call ⟨.value (.tmp 40), #[.tmp 44, .tmp 45], #[62, 62]⟩, 3, "sort.go:167", #[⟨5, .data⟩, ⟨9, .data⟩, ⟨10, .data⟩, ⟨4, .chain⟩, ⟨4, .guard⟩], some (4, true)⟩ rfl ?_
    refine wSk 12 ⟨some 47, .binOp .eql 3 (.tmp 46) (.const (.int .i64 0)) 3, 4, "sort.go:167", #[⟨11, .data⟩, ⟨4, .guard⟩, ⟨14, .gcOnly .lateStores⟩], some (4, true)⟩ rfl ?_
    refine wTk 14 ⟨some 6, .assign (.tmp 35), 3, "sort.go:167", #[⟨0, .data⟩, ⟨11, .chain⟩, ⟨0, .phase⟩, ⟨1, .textOnly .lateStores⟩, ⟨2, .textOnly .lateStores⟩, ⟨3, .textOnly .lateStores⟩, ⟨4, .textOnly .lateStores⟩, ⟨5, .textOnly .lateStores⟩, ⟨6, .textOnly .lateStores⟩, ⟨7, .textOnly .lateStores⟩, ⟨8, .textOnly .lateStores⟩, ⟨9, .textOnly .lateStores⟩, ⟨10, .textOnly .lateStores⟩, ⟨11, .textOnly .lateStoresUnsure⟩, ⟨12, .textOnly .lateStores⟩, ⟨13, .textOnly .lateStores⟩], none⟩ rfl ?_
    refine wTk 13 ⟨some 48, .pick (.tmp 39) (.tmp 47) (.const (.bool false)), 4, "sort.go:167", #[⟨4, .data⟩, ⟨12, .data⟩, ⟨14, .gcOnly .lateStores⟩], none⟩ rfl ?_
    refine wTk 15 ⟨some 7, .assign (.tmp 48), 4, "sort.go:167", #[⟨13, .data⟩, ⟨14, .chain⟩, ⟨0, .phase⟩, ⟨1, .phase⟩, ⟨2, .phase⟩, ⟨3, .phase⟩, ⟨4, .phase⟩, ⟨5, .phase⟩, ⟨6, .phase⟩, ⟨7, .phase⟩, ⟨8, .phase⟩, ⟨9, .phase⟩, ⟨10, .phase⟩, ⟨11, .phase⟩, ⟨12, .phase⟩, ⟨13, .phase⟩, ⟨14, .phase⟩], none⟩ rfl ?_
    refine wpAnyH_done (by kernel_rfl) ?_ _
    clear hHeld
    go_wp2_with fail
    go_ret2
    exact ⟨lo, _, rfl, HF.out, by simp [hln], HBw.out.trans ((below_drew1 wr).mono HBw.out.size)⟩
end
section
open Go.RowKit Go.Maps Go.Sort
def notIn (M : List K.En) (e : K.En) : Bool := !M.any (fun y => K.eqE y e)
theorem notIn_iff {M : List K.En} {e : K.En} : notIn M e = true ↔ e ∉ M := by
 unfold notIn
 rw [Bool.not_eq_true', Bool.eq_false_iff, ne_eq, List.any_eq_true]
 constructor
 ·intro h hm; exact h ⟨e, hm, K.eqE_self e⟩
 ·rintro h ⟨y, hy, hq⟩
  rw [(eqE_iff2 _ _).1 hq] at hy; exact h hy
theorem ao_not {M : List K.En} {e y : K.En} {b : Bool} (hc : K.chk M = 0) (h : AoD M (dotE e) y b) : notIn M e = !(b && K.eqE y e) := by
 cases b with
 | false =>
  have hn : ∀ z ∈ M, dotE z ≠ dotE e := by
   rcases h with ⟨h, -⟩ | ⟨-, -, h⟩
   ·cases h
   ·exact h
  exact notIn_iff.2 fun hm => hn e hm rfl
 | true =>
  obtain ⟨hm, hd⟩ : y ∈ M /\ dotE y = dotE e := by
   rcases h with ⟨-, h⟩ | ⟨h, -⟩
   ·exact h
   ·cases h
  cases hq : K.eqE y e with
  | true =>
   rw [(eqE_iff2 _ _).1 hq] at hm
   cases hn : notIn M e with
   | false => rfl
   | true => exact absurd hm (notIn_iff.1 hn)
  | false =>
   refine notIn_iff.2 fun he => ?_
   have := dot_one hc he hm (show dotOf e = dotOf y from hd.symm)
   subst this
   rw [K.eqE_self] at hq; cases hq
theorem takeE_snoc (L : List K.En) (k : Nat) (h : k < L.length) : L.take (k + 1) = L.take k ++ [L.getD k K.en0] := by
 rw [List.take_succ_eq_append_getElem h]; simp [List.getD, h]
theorem takeR_snoc (L : List Rc) (k : Nat) (h : k < L.length) : L.take (k + 1) = L.take k ++ [L.getD k rc0] := by
 rw [List.take_succ_eq_append_getElem h]; simp [List.getD, h]
attribute [local go_sem ↓] ldFa_eq stFa_eq ldD_eq stD_eq K.ld28_eq K.st28_eq ldRe_eq stRe_eq ldP_eq stP_eq bldR_eq
attribute [local go_sem] cells_FaV FaC_size cells_RV RC_size zero_RC fold_RC K.zero_EC K.cells_EV K.EC_size K.fold_EC cells_ReV ReC_size zero_ReC cells_PV PC_size
theorem lessAdds_any (ao bo : Option Addr) (n c m cb : Nat) (L M : List K.En) (w : World) (hS : K.ESrc w ao n c L) (hR : K.ESrc w bo m cb M) (hc : K.chk M = 0) :
  Calls Tryz.prog 76 #[.slice ao n c, .slice bo m cb] w fun x w' => ∃ ap n2 c2, x = .returned (.slice ap n2 c2) /\ K.ESrc w' ap n2 c2 (L.filter (notIn M)) /\ Below w.heap.size w w' /\ ∀ ad, ap = some ad -> w.heap.size <= ad.block := by
 have HS := hide hS
 have HR := hide hR
 have HC := hide hc
 have HLn : Hid (L.length = n) := hS.1
 have hn := hS.2.2.2.2
 clear hS hR hc
 go_enter Tryz.func76, Tryz.ntmps76
 go_wp2_with fail
 go_loopw [5, 12] (fun v i wr => ∃ (k : Nat) (ap : Option Addr) (c2 : Nat) (acc : List K.En), k <= n /\ v = .slice ap acc.length c2 /\ i = .int .i64 (k : Int) /\ Hid (acc = (L.take k).filter (notIn M) /\ K.OwnE w.heap.size w.heap.size w wr ap c2 acc)) (fun _ i _ => n - (intOf i).toNat)
 case atStart => exact ⟨0, none, 0, [], Nat.zero_le _, rfl, rfl, rfl, K.OwnE.nil (Below.refl _ _) (Nat.le_refl _) (Nat.le_refl _)⟩
 case round =>
  obtain ⟨k, ap, c2, acc, hk, rfl, rfl, HO⟩ := hrel
  rename World => wr
  by_cases hlt : k < n
  ·have hlti : (k : Int) < (n : Int) := by omega
   have hal : acc.length <= k := by
    rw [HO.out.1]; exact Nat.le_trans (List.length_filter_le _ _) (by rw [List.length_take]; omega)
   have halb : acc.length < 3518437208883 := by omega
   have HT := hide (takeE_snoc L k (by rw [HLn.out]; exact hlt))
   obtain ⟨ad, hao, A0⟩ := (HS.out.below HO.out.2.below).at k hlt
   subst hao
   obtain ⟨e, He⟩ : ∃ e, Hid (L.getD k K.en0 = e) := ⟨_, rfl⟩
   rw [He.out] at A0 HT
   have hld := K.run_ld28 A0
   obtain ⟨g3, hg3⟩ : ∃ g3, wr.heap.size = g3 := ⟨_, rfl⟩
   obtain ⟨w3, hst, X3, B3, -⟩ := K.made wr e g3 hg3
   have HX3 := hide X3
   have HO3 := hide (HO.out.2.later B3)
   have Hlt := hide hlt
   have Hacc : Hid (acc = (L.take k).filter (notIn M)) := HO.out.1
   have ldd : (ldD (.pointer (some ⟨g3, 0, none⟩))).run Tryz.prog w3 = .ok (RV (dotE e)) w3 := run_ldD ⟨X3.at.c0, X3.at.c1⟩
   clear A0 X3 B3 hlt hk HO
   go_wp2_with fail
   clear hld hst hg3 ldd
   refine (addOf_any bo m cb M (dotE e) _ (HR.out.below HO3.out.below) HC.out).mono ?_
   rintro x w4 ⟨y, b, rfl, hA, b4⟩
   have hnot := ao_not HC.out hA
   obtain ⟨g5, hg5⟩ : ∃ g5, w4.heap.size = g5 := ⟨_, rfl⟩
   obtain ⟨w5, hst, X5, B5, -⟩ := K.made w4 y g5 hg5
   have b35 := b4.trans (B5.mono b4.size)
   have HO5 := hide (HO3.out.later b35)
   have HX35 := hide (HX3.out.below b35)
   have l5 := K.run_ld28 X5.at
   have l3 := K.run_ld28 HX35.out.at
   obtain ⟨q, hq⟩ : ∃ q, K.eqE y e = q := ⟨_, rfl⟩
   have leq : ∀ W : World, (Op.equalIn 10000 36 (K.EV y) (K.EV e)).run Tryz.prog W = .ok q W := fun W => by rw [<- hq]; exact K.run_eq28 y e W
   rw [hq] at hnot
   clear hA b4 X5 B5 b35 hq
   have HNo : Hid (notIn M e = false -> acc = (L.take (k + 1)).filter (notIn M)) := fun h => by
    rw [HT.out, List.filter_append, <- Hacc.out, List.filter_cons_of_neg (by simp [h]), List.filter_nil, List.append_nil]
   have HYes : Hid (notIn M e = true -> acc ++ [e] = (L.take (k + 1)).filter (notIn M)) := fun h => by
    rw [HT.out, List.filter_append, <- Hacc.out, List.filter_cons_of_pos h, List.filter_nil]
   cases b with
   | false =>
    have HN := hide (HYes.out hnot)
    clear hnot
    go_wp2_with (at_builtin; refine HO5.out.append e _ rfl halb rfl (.tmp 30) (.tmp 32) rfl acc.length rfl rfl rfl ?_; intro g6 c6 w6 O6 hk6; have HO6 := hide O6; clear O6 hk6)
    clear hst l5 l3 leq hg5
    go_roundw
    case rel => exact ⟨k + 1, some ⟨g6, 0, none⟩, c6, acc ++ [e], Hlt.out, by simp, by simp, HN.out, HO6.out⟩
    case measure => simp [intOf]; have := Hlt.out; omega
   | true =>
    cases q with
    | true =>
     have HN := hide (HNo.out hnot)
     clear hnot
     go_wp2_with fail
     clear hst l5 l3 leq hg5
     go_roundw
     case rel => exact ⟨k + 1, ap, c2, acc, Hlt.out, rfl, by simp, HN.out, HO5.out⟩
     case measure => simp [intOf]; have := Hlt.out; omega
    | false =>
     have HN := hide (HYes.out hnot)
     clear hnot
     go_wp2_with (at_builtin; refine HO5.out.append e _ rfl halb rfl (.tmp 30) (.tmp 32) rfl acc.length rfl rfl rfl ?_; intro g6 c6 w6 O6 hk6; have HO6 := hide O6; clear O6 hk6)
     clear hst l5 l3 leq hg5
     go_roundw
     case rel => exact ⟨k + 1, some ⟨g6, 0, none⟩, c6, acc ++ [e], Hlt.out, by simp, by simp, HN.out, HO6.out⟩
     case measure => simp [intOf]; have := Hlt.out; omega
  ·have hlti : ¬ (k : Int) < (n : Int) := by omega
   have hacc : acc = L.filter (notIn M) := by rw [HO.out.1, List.take_of_length_le (by rw [HLn.out]; omega)]
   obtain ⟨S9, N9⟩ := HO.out.2.src (fun e he => HS.out.2.2.2.1 e (by rw [hacc] at he; exact (List.mem_filter.1 he).1)) (by
    have h1 : acc.length <= L.length := by rw [hacc]; exact List.length_filter_le _ _
    have h2 := HLn.out
    omega)
   have HE : Hid (∃ ap2 n2 c3, Ending.returned (.slice ap acc.length c2) = .returned (.slice ap2 n2 c3) /\ K.ESrc wr ap2 n2 c3 (L.filter (notIn M)) /\ Below w.heap.size w wr /\ ∀ ad, ap2 = some ad -> w.heap.size <= ad.block) := ⟨ap, acc.length, c2, rfl, by rw [<- hacc]; exact S9, HO.out.2.below, N9⟩
   clear S9 N9 hacc
   go_wp2_with fail
   go_ret
   exact HE.out
def notR (M : List Rc) (y : Rp) : Prop := y ∉ plR M
theorem first_notR {M : List Rc} {d : Rc} {n i : Nat} {b : Bool} (hs : Srt ck (plR M)) (hl : M.length = n) (hF : FirstC M d n i) (hb : b = true ↔ i < n /\ rcC (M.getD i rc0) d = 0) : b = true ↔ rck d ∈ plR M := by
 rw [hb]
 constructor
 ·rintro ⟨h1, h2⟩
  rw [<- (ck_tot.eq _ _).1 h2]
  exact List.mem_map.2 ⟨_, rcD_mem (by omega), rfl⟩
 ·intro h
  obtain ⟨r, hr, e⟩ := List.mem_map.1 h
  obtain ⟨j, hj, rfl⟩ := List.getElem_of_mem hr
  have e0 := rcD_at hj
  have h0 : rcC (M.getD j rc0) d = 0 := by unfold rcC; rw [e0, show rck M[j] = rck d from e]; exact (ck_tot.eq _ _).2 rfl
  rcases Nat.lt_trichotomy j i with q | q | q
  ·have := hF.2.1 j q; omega
  ·subst q; exact ⟨by omega, h0⟩
  ·have h1 := hF.2.2 (by omega)
   have hp : ck (rck (M.getD i rc0)) (rck (M.getD j rc0)) < 0 := by
    unfold Srt at hs
    rw [plR_rck, List.pairwise_map, List.pairwise_iff_getElem] at hs
    rw [rcD_at (by omega), e0]
    exact hs i j (by omega) hj q
   have h2 : ck (rck (M.getD i rc0)) (rck d) < 0 := ck_tot.lt hp (by unfold rcC at h0; omega)
   unfold rcC at h1
   omega
theorem rcC_mono {M : List Rc} {d : Rc} (hs : Srt ck (plR M)) (a b : Nat) (hab : a <= b) (hb : b < M.length) (hn : rcC (M.getD b rc0) d < 0) : rcC (M.getD a rc0) d < 0 := by
 by_cases e : a = b
 ·rw [e]; exact hn
 ·unfold Srt at hs
  rw [plR_rck, List.pairwise_map, List.pairwise_iff_getElem] at hs
  have := hs a b (by omega) hb (by omega)
  unfold rcC at hn ⊢
  rw [rcD_at (by omega)]
  rw [rcD_at hb] at hn
  exact ck_tot.lt this (by omega)
def LrOf (L M F : List Rc) : Prop := Srt ck (plR F) /\ (∀ r ∈ F, RecOk r) /\ ∀ y, y ∈ plR F ↔ y ∈ plR L /\ y ∉ plR M
structure LrI (L M : List Rc) (k : Nat) (D : List Rc) : Prop where
 ok : ∀ r ∈ D, RecOk r
 sub : (plR D).Sublist (plR (L.take k))
 all : ∀ y, y ∈ plR D ↔ y ∈ plR (L.take k) /\ y ∉ plR M
theorem LrI.start (L M : List Rc) : LrI L M 0 [] := ⟨fun r h => (by cases h), List.Sublist.refl _, fun y => by simp [plR]⟩
theorem LrI.skip {L M D : List Rc} {k : Nat} (h : LrI L M k D) (hk : k < L.length) (hm : rck (L.getD k rc0) ∈ plR M) : LrI L M (k + 1) D := by
 refine ⟨h.ok, ?_, fun y => ?_⟩ <;> rw [takeR_snoc L k hk, plR_sn]
 ·exact h.sub.trans (List.sublist_append_left _ _)
 ·rw [h.all y, List.mem_append, List.mem_singleton]
  constructor
  ·rintro ⟨q1, q2⟩; exact ⟨.inl q1, q2⟩
  ·rintro ⟨q1 | rfl, q2⟩
   ·exact ⟨q1, q2⟩
   ·exact absurd hm q2
theorem LrI.add {L M D : List Rc} {k : Nat} {c : Rc} (h : LrI L M k D) (hk : k < L.length) (hm : rck (L.getD k rc0) ∉ plR M) (hc : RecOk c) (e : rck c = rck (L.getD k rc0)) : LrI L M (k + 1) (D ++ [c]) := by
 refine ⟨mem_snoc h.ok hc, ?_, fun y => ?_⟩ <;> rw [takeR_snoc L k hk, plR_sn, plR_sn, e]
 ·exact h.sub.append (List.Sublist.refl _)
 ·rw [List.mem_append, List.mem_append, h.all y, List.mem_singleton]
  constructor
  ·rintro (⟨q1, q2⟩ | rfl)
   ·exact ⟨.inl q1, q2⟩
   ·exact ⟨.inr rfl, hm⟩
  ·rintro ⟨q1 | rfl, q2⟩
   ·exact .inl ⟨q1, q2⟩
   ·exact .inr rfl
theorem LrI.done {L M D : List Rc} (h : LrI L M L.length D) (hs : Srt ck (plR L)) : LrOf L M D := by
 have h1 := h.sub
 have h2 := h.all
 rw [List.take_of_length_le (Nat.le_refl _)] at h1 h2
 exact ⟨List.Pairwise.sublist h1 hs, h.ok, h2⟩
theorem lessRecs_any (ao bo : Option Addr) (n c m cb : Nat) (L M : List Rc) (w : World) (hS : RcS w ao n c L) (hR : RcS w bo m cb M) (hL : OkR L n) (hM : OkR M m) (hb1 : n <= 2199023255551) :
  Calls Tryz.prog 78 #[.slice ao n c, .slice bo m cb] w fun x w' => ∃ (h : Hs) (F : List Rc), x = .returned (HsV h) /\ GvR w w' h F /\ h.n <= n /\ LrOf L M F := by
 have HS := hide hS
 have HR := hide hR
 have HLn : Hid (L.length = n) := hS.len
 have HMn : Hid (M.length = m) := hR.len
 have HL := hide (okR_iff.1 (by rw [hS.len]; exact hL) : (∀ r ∈ L, RecOk r) /\ Srt ck (plR L))
 have HM := hide (okR_iff.1 (by rw [hR.len]; exact hM) : (∀ r ∈ M, RecOk r) /\ Srt ck (plR M))
 clear hS hR hL hM
 go_enter Tryz.func78, Tryz.ntmps78
 go_wp2_with fail
 go_loopw [5, 12] (fun v i wr => ∃ (k : Nat) (h : Hs) (D : List Rc), k <= n /\ v = .slice h.o h.n h.c /\ i = .int .i64 (k : Int) /\ Hid (OwnRc w.heap.size w wr h D /\ LrI L M k D /\ (∀ r ∈ D, PNew w.heap.size r.p) /\ h.n <= k)) (fun _ i _ => n - (intOf i).toNat)
 case atStart => exact ⟨0, hs0, [], Nat.zero_le _, rfl, rfl, OwnRc.nil w, LrI.start L M, fun r hr => (by cases hr), Nat.le_refl _⟩
 case round =>
  obtain ⟨k, h, D, hk, rfl, rfl, HO⟩ := hrel
  rename World => wr
  by_cases hlt : k < n
  ·have hlti : (k : Int) < (n : Int) := by omega
   obtain ⟨ad, hao, A0⟩ := (HS.out.below HO.out.1.below).at k hlt
   have hOk := (HS.out.below HO.out.1.below).okAt k hlt
   have hkL : k < L.length := by rw [HLn.out]; exact hlt
   have hro := HL.out.1 _ (rcD_mem hkL)
   subst hao
   obtain ⟨r, Hr⟩ : ∃ r, Hid (L.getD k rc0 = r) := ⟨_, rfl⟩
   rw [Hr.out] at A0 hOk hro
   have hld := run_laRe A0
   obtain ⟨g7, hg7⟩ : ∃ g7, wr.heap.size = g7 := ⟨_, rfl⟩
   obtain ⟨w7, hst, X7, B7, S7⟩ := madeRe wr (mkR r) g7 hg7
   have HO7 := hide (HO.out.1.later B7)
   have HNE : Hid (∀ j, (HsV h).ownBlock = some j -> j < g7) := fun j hj => by have := (HO.out.1.own.lt j hj).2; omega
   have HX7 := hide X7
   have HQ7 := hide (hOk.below B7)
   have HRo := hide hro
   have HI := hide HO.out.2
   have HkL := hide hkL
   have Hlt := hide hlt
   have l7 := run_ldRe X7
   clear A0 X7 B7 S7 hOk hlt hk hkL hro HO
   go_wp2_with fail
   clear hst hld hg7 l7
   refine (bsC_any bo m cb M r _ (HR.out.below HO7.out.below) HQ7.out (fun x hx => (HM.out.1 x hx).2.1) HRo.out.2.1 (fun a b hab hb hn => rcC_mono HM.out.2 a b hab (by rw [HMn.out]; exact hb) hn)).mono ?_
   rintro x w8 ⟨i, b, rfl, hF, hb, b8⟩
   have hin := first_notR HM.out.2 HMn.out hF hb
   have HO8 := hide (HO7.out.later b8)
   have HX8 := hide (HX7.out.below b8)
   have HQ8 := hide (HQ7.out.below b8)
   clear hF hb b8
   cases b with
   | true =>
    have HN := hide (HI.out.1.skip HkL.out (by rw [Hr.out]; exact hin.1 rfl))
    clear hin
    go_wp2_with fail
    go_roundw
    case rel => exact ⟨k + 1, h, D, Hlt.out, rfl, by simp, HO8.out, HN.out, HI.out.2.1, Nat.le_succ_of_le HI.out.2.2⟩
    case measure => simp [intOf]; have := Hlt.out; omega
   | false =>
    have HNo : Hid (rck (L.getD k rc0) ∉ plR M) := by rw [Hr.out]; exact fun q => by have := hin.2 q; cases this
    clear hin
    go_upto_region 7 with fail
    have HSt : Hid (∀ W : World, W.heap[g7]? = w8.heap[g7]? -> W.cell? ⟨g7, 0, none⟩ = some (.string r.s) /\ (ldP (.pointer (some ⟨g7, 1, none⟩))).run Tryz.prog W = .ok (PV r.p) W) := fun W h => by
     have X : ReBox W g7 (mkR r) := h.trans HX8.out
     exact ⟨X.sk, run_ldP X.past⟩
    refine wp_region_held_drew (S := fun v => v.cell? ⟨g7, 0, none⟩ = some (.string r.s) /\ (ldP (.pointer (some ⟨g7, 1, none⟩))).run Tryz.prog v = .ok (PV r.p) v) (by kernel_rfl) (HSt.out _ rfl) (fun hHeld => ?_)
    refine wTk 0 ⟨some 24, .move (.tmp 5), 27, "order.go:70", #[], none⟩ rfl ?_
    refine wTk 1 ⟨some 25, .fieldAddr 62 (.tmp 7) 0, 0, "order.go:70", #[], none⟩ rfl ?_
    refine wTk 2 ⟨some 26, .load 9 (.tmp 25), 9, "order.go:70", #[⟨1, .data⟩], none⟩ rfl ?_
    refine wTk 3 ⟨some 27, .fieldAddr 62 (.tmp 7) 1, 0, "order.go:70", #[], none⟩ rfl ?_
    refine wTk 4 ⟨some 28, .load 26 (.tmp 27), 26, "order.go:70", #[⟨3, .data⟩], none⟩ rfl ?_
    refine wpAnyH_ready (rs := [5]) (by kernel_rfl) (by simp) (.cons rfl (fun K hK => ?_) .nil)
    go_simp
    go_wp2_with fail
    refine (pastNorm_any r.p _ (HQ8.out.1.below (below_drew1 w8))).mono ?_
    rintro x wa ⟨cp, rfl, Sc, Nc, ba, Cc⟩
    have hBa : Below w8.heap.size w8 wa := (below_drew1 w8).trans ba
    have hne : (HsV h).ownBlock ≠ some g7 := fun e => by have h1 := HNE.out; have h2 := h1 g7 e; omega
    have za : wa.heap[g7]? = w8.heap[g7]? := hBa.block g7 HX8.out.lt
    have Oa := HO8.out.later hBa
    have hfar : FarH h cp := fun j hj => PFar.new Nc (HO8.out.own.lt j hj).2
    obtain ⟨gb, cb2, wb, hab, Ob, hkb⟩ := Oa.app ⟨r.s, cp⟩ ⟨Sc, HQ8.out.2⟩ hfar (by have := HI.out.2.2; have := Hlt.out; omega)
    have HAb : Hid ((Builtin.append_ #[27, 27] 27 #[.slice h.o h.n h.c, .slice (some ⟨wa.heap.size, 0, none⟩) 1 1]).run Tryz.prog (wa.alloc (.cells #[.string r.s, .slice cp.vo cp.vn cp.vc, .slice cp.co cp.cn cp.cc] 62)) = .ok (.slice (some ⟨gb, 0, none⟩) (h.n + 1) cb2) wb) := hab
    have zb : wb.heap[g7]? = w8.heap[g7]? := (hkb g7 (Nat.lt_of_lt_of_le HX8.out.lt hBa.size) hne).trans za
    have hrk : rck ⟨r.s, cp⟩ = rck r := copy_rck HRo.out rfl Cc
    have HN : Hid (OwnRc w.heap.size w wb ⟨some ⟨gb, 0, none⟩, h.n + 1, cb2⟩ (D ++ [⟨r.s, cp⟩]) /\ LrI L M (k + 1) (D ++ [⟨r.s, cp⟩]) /\ (∀ x ∈ D ++ [⟨r.s, cp⟩], PNew w.heap.size x.p) /\ h.n + 1 <= k + 1) := ⟨Ob, HI.out.1.add HkL.out HNo.out (recOk_rck HRo.out hrk) (by rw [Hr.out]; exact hrk), mem_snoc HI.out.2.1 (Nc.mono (by have := HO8.out.below.size; exact this)), by have := HI.out.2.2; omega⟩
    have HSa := hide (HSt.out _ za)
    have HSb := hide (HSt.out (wa.alloc (.cells #[.string r.s, .slice cp.vo cp.vn cp.vc, .slice cp.co cp.cn cp.cc] 62)) ((Below.heap_alloc wa _ g7 (Nat.lt_of_lt_of_le HX8.out.lt hBa.size)).trans za))
    have HSc := hide (HSt.out _ zb)
    have lbr : ∀ W : World, (bldR #[(0, .string r.s), (1, PV cp)]).run Tryz.prog W = .ok (.agg #[.string r.s, .slice cp.vo cp.vn cp.vc, .slice cp.co cp.cn cp.cc]) W := fun W => run_bldRp r.s cp W
    refine hK.out _ _ HSa.out (fun hHeld => ?_)
    clear hK K hab Ob Oa hfar Sc Nc ba Cc hBa za zb hkb hne hrk
    refine wTk 6 ⟨some 30, .build 62 #[(0, .tmp 26), (1, .tmp 29)], 62, "order.go:70", #[⟨2, .data⟩, ⟨5, .data⟩], none⟩ rfl ?_
    refine wpAnyH_ready (rs := [7]) (by kernel_rfl) (by simp) (.cons rfl (fun K hK => ?_) .nil)
    go_simp
    refine hK.out _ _ HSb.out (fun hHeld => ?_)
    clear hK K
    refine wpAnyH_ready (rs := [8]) (by kernel_rfl) (by simp) (.cons rfl (fun K hK => ?_) .nil)
    refine step_appM (by rfl) (.tmp 24) (.tmp 31) (by rfl) (by rfl) (by rfl) HAb.out ?_
    refine hK.out _ _ HSc.out (fun hHeld => ?_)
    clear hK K
    refine wpAnyH_ready (rs := [9]) (by kernel_rfl) (by simp) (.cons rfl (fun K hK => ?_) .nil)
    go_simp
    refine hK.out _ _ HSc.out (fun hHeld => ?_)
    clear hK K
    refine wpAnyH_done (by kernel_rfl) ?_ _
    clear hHeld
    clear lbr
    go_wp2_with fail
    go_roundw
    case rel => exact ⟨k + 1, ⟨some ⟨gb, 0, none⟩, h.n + 1, cb2⟩, D ++ [(⟨r.s, cp⟩ : Rc)], Hlt.out, rfl, by simp, HN.out⟩
    case measure => simp [intOf]; have := Hlt.out; omega
  ·have hlti : ¬ (k : Int) < (n : Int) := by omega
   have HE : Hid (∃ (h2 : Hs) (F : List Rc), Ending.returned (.slice h.o h.n h.c) = .returned (HsV h2) /\ GvR w wr h2 F /\ h2.n <= n /\ LrOf L M F) := by
    obtain ⟨q1, q2, q3, q4⟩ := HO.out
    obtain rfl : k = n := by omega
    exact ⟨h, D, rfl, q1.give (Below.refl _ _) q3 (by omega), q4, (by rw [<- HLn.out] at q2; exact q2.done HL.out.2)⟩
   go_wp2_with fail
   go_ret
   obtain ⟨h2, F, q1, q2, q3, q4⟩ := HE.out
   first | exact ⟨h2, F, q1, q2, q3, q4⟩ | exact ⟨h2, q1, F, q2, q3, q4⟩
end
end Go.Proofs.YtalpnhfoaohhhaaGreat
