/- TEb LFnd -/
import Derived.Test.YtalpnhfoaohhhaaGreatTk
import Derived.Test.YtalpnhfoaohhhaaGreatTd36
import Derived.Deep.CutRange
import Derived.Test.YtalpnhfoaohhhaaGreatTd29
set_option maxRecDepth 100000
set_option maxHeartbeats 4000000
namespace Go.Proofs.YtalpnhfoaohhhaaGreat
open Go.RowKit
attribute [local go_sem ↓] K.ld28_eq K.st28_eq ldD_eq stD_eq
attribute [local go_sem] K.zero_EC K.cells_EV K.EC_size
variable {w w' w2 W W' : World} {g : Nat}

def FirstE (L : List K.En) (d : Rn) (n i : Nat) : Prop := i <= n /\ (∀ j, j < i -> nrE (L.getD j K.en0) d < 0) /\ (i < n -> 0 <= nrE (L.getD i K.en0) d)
def BsE (w w' : World) (e : Ending) (L : List K.En) (d : Rn) (n : Nat) : Prop := ∃ (i : Nat) (b : Bool), e = .returned (.tuple #[.int .i64 (i : Int), .bool b]) /\ FirstE L d n i /\ (b = true ↔ i < n /\ nrE (L.getD i K.en0) d = 0) /\ Below w.heap.size w w'
theorem bsE_any (ao : Option Addr) (n cap : Nat) (L : List K.En) (d : Rn) (w : World) (hS : K.ESrc w ao n cap L) (hm : ∀ a b, a <= b -> b < n -> nrE (L.getD b K.en0) d < 0 -> nrE (L.getD a K.en0) d < 0) :
  Calls Tryz.prog 56 #[.slice ao n cap, RV d, .func (.func 57) #[] #[]] w fun e w' => BsE w w' e L d n := by
 have hcf : ∀ (args : Array Value) (w : World), (callFunc 57 args).run Tryz.prog w = .ok (.enter 57 args) w := fun _ _ => rfl
 have b1 := below_new w (.cells (RC d) 32)
 have x1 := box_new w 32 d
 obtain ⟨w1, hw1⟩ : ∃ w1, w.alloc (.cells (RC d) 32) = w1 := ⟨_, rfl⟩
 obtain ⟨g1, hg1⟩ : ∃ g1, w.heap.size = g1 := ⟨_, rfl⟩
 rw [hw1] at b1 x1
 rw [hg1] at x1
 have HB1 := hide b1
 have HX : Hid (Box w1 g1 32 d /\ K.ESrc w1 ao n cap L) := ⟨x1, hS.below b1⟩
 have hnb : n <= 3518437208883 := hS.2.2.2.2
 have HM := hide hm
 clear b1 x1 hS hm
 go_enter Tryz.func56, Tryz.ntmps56
 go_wp2_with fail
 clear hw1 hg1
 go_loopw [9, 10] (fun a b wr => ∃ (lo hi : Nat), a = .int .i64 (lo : Int) /\ b = .int .i64 (hi : Int) /\ lo <= hi /\ hi <= n /\ Hid (Below w1.heap.size w1 wr /\ (∀ j, j < lo -> nrE (L.getD j K.en0) d < 0) /\ (hi < n -> 0 <= nrE (L.getD hi K.en0) d))) (fun a b _ => (intOf b).toNat - (intOf a).toNat)
 case atStart => exact ⟨0, n, rfl, rfl, Nat.zero_le _, Nat.le_refl _, Below.refl _ _, (fun j hj => by omega), fun h => by omega⟩
 case round =>
  obtain ⟨lo, hi, rfl, rfl, hlh, hhn, HI⟩ := hrel
  rename World => wr
  by_cases hlt : lo < hi
  ·have hlti : (lo : Int) < (hi : Int) := by omega
   obtain ⟨h, hh⟩ : ∃ h : Nat, (lo + hi) / 2 = h := ⟨_, rfl⟩
   have hlb : lo <= 3518437208883 := by omega
   have hhb : hi <= 3518437208883 := by omega
   obtain ⟨t, ht⟩ : ∃ t : Nat, lo + hi = t := ⟨_, rfl⟩
   have et : (lo : Int) + (hi : Int) = (t : Int) := by omega
   have e2 : (t : Int) / 2 = (h : Int) := by omega
   have e3 : t / 2 = h := by omega
   have HH : Hid (lo <= h /\ h < hi /\ h < n) := ⟨by omega, by omega, by omega⟩
   have htb : t <= 20000000000000 := by omega
   obtain ⟨ad, rfl, A0⟩ := (HX.out.2.below HI.out.1).at h HH.out.2.2
   obtain ⟨s, Hs⟩ : ∃ s, Hid (L.getD h K.en0 = s) := ⟨_, rfl⟩
   have HSt : Hid (∀ W, Below wr.heap.size wr W -> (K.ld28 (.pointer (some (ad.add (h * 4))))).run Tryz.prog W = .ok (K.EV s) W /\ (ldD (.pointer (some ⟨g1, 0, none⟩))).run Tryz.prog W = .ok (RV d) W) := fun W hW => by
    obtain ⟨ad', e', A1⟩ := ((HX.out.2.below HI.out.1).below hW).at h HH.out.2.2
    obtain rfl := Option.some.inj e'
    rw [Hs.out] at A1
    exact ⟨K.run_ld28 A1, run_ldD ((HX.out.1.below HI.out.1).below hW).at⟩
   have hhi : (h : Int) < (n : Int) := by have := HH.out; omega
   clear A0 hh ht
   go_upto_region 5 with fail
   clear et e2 e3
   refine wp_region_held_drew (S := fun W => (Go.Proofs.YtalpnhfoaohhhaaGreat.K.ld28 (.pointer (some (ad.add (h * 4))))).run Tryz.prog W = .ok (K.EV s) W /\ (ldD (.pointer (some ⟨g1, 0, none⟩))).run Tryz.prog W = .ok (RV d) W) (by kernel_rfl) (HSt.out _ (below_drew1 wr)) (fun hHeld => ?_)
   refine wTk 0 ⟨some 24, .move (.tmp 2), 80, "sort.go:160", #[], none⟩ rfl ?_
   refine wTk 1 ⟨some 25, .move (.tmp 0), 22, "sort.go:160", #[], none⟩ rfl ?_
   refine wTk 2 ⟨some 26, .move (.tmp 11), 3, "sort.go:160", #[], none⟩ rfl ?_
   refine wTk 3 ⟨some 27, .indexAddr 22 (.tmp 25) (.tmp 26), 0, "sort.go:160", #[⟨1, .data⟩, ⟨2, .data⟩], none⟩ rfl ?_
   refine wTk 4 ⟨some 28, .load 36 (.tmp 27), 36, "sort.go:160", #[⟨3, .data⟩], none⟩ rfl ?_
   refine wTk 5 ⟨some 29, .load 32 (.tmp 4), 32, "sort.go:160", #[], none⟩ rfl ?_
   refine wpAnyH_ready (rs := [6]) (by kernel_rfl) (by simp) (.cons rfl (fun K hK => ?_) .nil)
   go_simp
   go_wp2_with fail
   refine (nrE_any s d _).mono ?_
   rintro e w3 ⟨rfl, b3⟩
   have hB3 : Below wr.heap.size wr w3 := (below_drew1 wr).trans b3
   have HB3 := hide (HI.out.1.trans (hB3.mono HI.out.1.size))
   refine hK.out _ _ (HSt.out _ hB3) (fun hHeld => ?_)
   clear hK K b3 hB3
   obtain ⟨z, hz⟩ : ∃ z, nrE s d = z := ⟨_, rfl⟩
   rw [hz]
   refine wTk 7 ⟨some 31, .binOp .lss 3 (.tmp 30) (.const (.int .i64 0)) 3, 4, "sort.go:160", #[⟨6, .data⟩], none⟩ rfl ?_
   refine wpAnyH_done (by kernel_rfl) ?_ _
   clear hHeld
   by_cases hz0 : z < 0
   ·have HN : Hid (∀ j, j < h + 1 -> nrE (L.getD j K.en0) d < 0) := fun j hj => HM.out j h (by omega) HH.out.2.2 (by rw [Hs.out, hz]; exact hz0)
    clear hz
    go_wp2_with fail
    go_roundw
    case rel => exact ⟨h + 1, hi, by simp, rfl, by have := HH.out; omega, hhn, HB3.out, HN.out, HI.out.2.2⟩
    case measure => simp [intOf]; have := HH.out; omega
   ·have HN : Hid (h < n -> 0 <= nrE (L.getD h K.en0) d) := fun _ => by rw [Hs.out, hz]; omega
    clear hz
    go_wp2_with fail
    go_roundw
    case rel => exact ⟨lo, h, rfl, rfl, HH.out.1, by have := HH.out; omega, HB3.out, HI.out.2.1, HN.out⟩
    case measure => simp [intOf]; have := HH.out; omega
  ·have hlti : ¬ (lo : Int) < (hi : Int) := by omega
   obtain rfl : lo = hi := by omega
   have HF : Hid (FirstE L d n lo) := ⟨hhn, HI.out.2.1, HI.out.2.2⟩
   have HBw := hide (HB1.out.trans (HI.out.1.mono HB1.out.size))
   by_cases hln : lo < n
   ·have hlni : (lo : Int) < (n : Int) := by omega
    obtain ⟨ad, rfl, A0⟩ := (HX.out.2.below HI.out.1).at lo hln
    obtain ⟨s, Hs⟩ : ∃ s, Hid (L.getD lo K.en0 = s) := ⟨_, rfl⟩
    have HSt : Hid (∀ W, Below wr.heap.size wr W -> (K.ld28 (.pointer (some (ad.add (lo * 4))))).run Tryz.prog W = .ok (K.EV s) W /\ (ldD (.pointer (some ⟨g1, 0, none⟩))).run Tryz.prog W = .ok (RV d) W) := fun W hW => by
     obtain ⟨ad', e', A1⟩ := ((HX.out.2.below HI.out.1).below hW).at lo hln
     obtain rfl := Option.some.inj e'
     rw [Hs.out] at A1
     exact ⟨K.run_ld28 A1, run_ldD ((HX.out.1.below HI.out.1).below hW).at⟩
    clear A0
    go_upto_region 8 with fail
    refine wp_region_held_drew (S := fun W => (Go.Proofs.YtalpnhfoaohhhaaGreat.K.ld28 (.pointer (some (ad.add (lo * 4))))).run Tryz.prog W = .ok (K.EV s) W /\ (ldD (.pointer (some ⟨g1, 0, none⟩))).run Tryz.prog W = .ok (RV d) W) (by kernel_rfl) (HSt.out _ (below_drew1 wr)) (fun hHeld => ?_)
    refine wTk 0 ⟨some 35, .move (.tmp 9), 3, "sort.go:167", #[], none⟩ rfl ?_
    refine wTk 1 ⟨some 36, .move (.tmp 9), 3, "sort.go:167", #[], none⟩ rfl ?_
    refine wTk 2 ⟨some 37, .move (.tmp 8), 3, "sort.go:167", #[], none⟩ rfl ?_
    refine wTk 3 ⟨some 38, .binOp .lss 3 (.tmp 36) (.tmp 37) 3, 4, "sort.go:167", #[⟨1, .data⟩, ⟨2, .data⟩], none⟩ rfl ?_
    refine wTk 4 ⟨some 39, .move (.tmp 38), 4, "sort.go:167", #[⟨3, .data⟩], none⟩ rfl ?_
    refine wTk 5 ⟨some 40, .move (.tmp 2), 80, "sort.go:167", #[⟨4, .guard⟩], some (4, true)⟩ rfl ?_
    refine wTk 6 ⟨some 41, .move (.tmp 0), 22, "sort.go:167", #[⟨4, .guard⟩], some (4, true)⟩ rfl ?_
    refine wTk 7 ⟨some 42, .move (.tmp 9), 3, "sort.go:167", #[⟨4, .guard⟩], some (4, true)⟩ rfl ?_
    refine wTk 8 ⟨some 43, .indexAddr 22 (.tmp 41) (.tmp 42), 0, "sort.go:167", #[⟨6, .data⟩, ⟨7, .data⟩, ⟨4, .guard⟩], some (4, true)⟩ rfl ?_
    refine wTk 9 ⟨some 44, .load 36 (.tmp 43), 36, "sort.go:167", #[⟨8, .data⟩, ⟨4, .guard⟩], some (4, true)⟩ rfl ?_
    refine wTk 10 ⟨some 45, .load 32 (.tmp 4), 32, "sort.go:167", #[⟨4, .guard⟩], some (4, true)⟩ rfl ?_
    refine wpAnyH_ready (rs := [11]) (by kernel_rfl) (by simp) (.cons rfl (fun K hK => ?_) .nil)
    go_simp
    go_wp2_with fail
    refine (nrE_any s d _).mono ?_
    rintro e w3 ⟨rfl, b3⟩
    have hB3 : Below wr.heap.size wr w3 := (below_drew1 wr).trans b3
    have HB3 := hide (HBw.out.trans (hB3.mono HBw.out.size))
    refine hK.out _ _ (HSt.out _ hB3) (fun hHeld => ?_)
    clear hK K b3 hB3
    obtain ⟨z, hz⟩ : ∃ z, nrE s d = z := ⟨_, rfl⟩
    rw [hz]
    have HZ0 : Hid (nrE (L.getD lo K.en0) d = z) := by show _ = _; rw [Hs.out]; exact hz
    clear hz
    refine wTk 14 ⟨some 6, .assign (.tmp 35), 3, "sort.go:167", #[⟨0, .data⟩, ⟨11, .chain⟩, ⟨0, .phase⟩, ⟨1, .textOnly .lateStores⟩, ⟨2, .textOnly .lateStores⟩, ⟨3, .textOnly .lateStores⟩, ⟨4, .textOnly .lateStores⟩, ⟨5, .textOnly .lateStores⟩, ⟨6, .textOnly .lateStores⟩, ⟨7, .textOnly .lateStores⟩, ⟨8, .textOnly .lateStores⟩, ⟨9, .textOnly .lateStores⟩, ⟨10, .textOnly .lateStores⟩, ⟨11, .textOnly .lateStoresUnsure⟩, ⟨12, .textOnly .lateStores⟩, ⟨13, .textOnly .lateStores⟩], none⟩ rfl ?_
    refine wTk 12 ⟨some 47, .binOp .eql 3 (.tmp 46) (.const (.int .i64 0)) 3, 4, "sort.go:167", #[⟨11, .data⟩, ⟨4, .guard⟩, ⟨14, .gcOnly .lateStores⟩], some (4, true)⟩ rfl ?_
    refine wTk 13 ⟨some 48, .pick (.tmp 39) (.tmp 47) (.const (.bool false)), 4, "sort.go:167", #[⟨4, .data⟩, ⟨12, .data⟩, ⟨14, .gcOnly .lateStores⟩], none⟩ rfl ?_
    refine wTk 15 ⟨some 7, .assign (.tmp 48), 4, "sort.go:167", #[⟨13, .data⟩, ⟨14, .chain⟩, ⟨0, .phase⟩, ⟨1, .phase⟩, ⟨2, .phase⟩, ⟨3, .phase⟩, ⟨4, .phase⟩, ⟨5, .phase⟩, ⟨6, .phase⟩, ⟨7, .phase⟩, ⟨8, .phase⟩, ⟨9, .phase⟩, ⟨10, .phase⟩, ⟨11, .phase⟩, ⟨12, .phase⟩, ⟨13, .phase⟩, ⟨14, .phase⟩], none⟩ rfl ?_
    refine wpAnyH_done (by kernel_rfl) ?_ _
    clear hHeld
    go_wp2_with fail
    go_ret2
    exact ⟨lo, _, rfl, HF.out, by rw [HZ0.out]; simp [hln], HB3.out⟩
   ·have hlni : ¬ (lo : Int) < (n : Int) := by omega
    go_upto_region 8 with fail
    refine wp_region_held_drew (S := fun _ => True) (by kernel_rfl) (trivial) (fun hHeld => ?_)
    refine wTk 0 ⟨some 35, .move (.tmp 9), 3, "sort.go:167", #[], none⟩ rfl ?_
    refine wTk 1 ⟨some 36, .move (.tmp 9), 3, "sort.go:167", #[], none⟩ rfl ?_
    refine wTk 2 ⟨some 37, .move (.tmp 8), 3, "sort.go:167", #[], none⟩ rfl ?_
    refine wTk 3 ⟨some 38, .binOp .lss 3 (.tmp 36) (.tmp 37) 3, 4, "sort.go:167", #[⟨1, .data⟩, ⟨2, .data⟩], none⟩ rfl ?_
    refine wTk 4 ⟨some 39, .move (.tmp 38), 4, "sort.go:167", #[⟨3, .data⟩], none⟩ rfl ?_
    refine wSk 5 ⟨some 40, .move (.tmp 2), 80, "sort.go:167", #[⟨4, .guard⟩], some (4, true)⟩ rfl ?_
    refine wSk 6 ⟨some 41, .move (.tmp 0), 22, "sort.go:167", #[⟨4, .guard⟩], some (4, true)⟩ rfl ?_
    refine wSk 7 ⟨some 42, .move (.tmp 9), 3, "sort.go:167", #[⟨4, .guard⟩], some (4, true)⟩ rfl ?_
    refine wSk 8 ⟨some 43, .indexAddr 22 (.tmp 41) (.tmp 42), 0, "sort.go:167", #[⟨6, .data⟩, ⟨7, .data⟩, ⟨4, .guard⟩], some (4, true)⟩ rfl ?_
    refine wSk 9 ⟨some 44, .load 36 (.tmp 43), 36, "sort.go:167", #[⟨8, .data⟩, ⟨4, .guard⟩], some (4, true)⟩ rfl ?_
    refine wSk 10 ⟨some 45, .load 32 (.tmp 4), 32, "sort.go:167", #[⟨4, .guard⟩], some (4, true)⟩ rfl ?_
    refine wSk 11 ⟨some 46, .call ⟨.value (.tmp 40), #[.tmp 44, .tmp 45], #[36, 32]⟩, 3, "sort.go:167", #[⟨5, .data⟩, ⟨9, .data⟩, ⟨10, .data⟩, ⟨4, .chain⟩, ⟨4, .guard⟩], some (4, true)⟩ rfl ?_
    refine wSk 12 ⟨some 47, .binOp .eql 3 (.tmp 46) (.const (.int .i64 0)) 3, 4, "sort.go:167", #[⟨11, .data⟩, ⟨4, .guard⟩, ⟨14, .gcOnly .lateStores⟩], some (4, true)⟩ rfl ?_
    refine wTk 14 ⟨some 6, .assign (.tmp 35), 3, "sort.go:167", #[⟨0, .data⟩, ⟨11, .chain⟩, ⟨0, .phase⟩, ⟨1, .textOnly .lateStores⟩, ⟨2, .textOnly .lateStores⟩, ⟨3, .textOnly .lateStores⟩, ⟨4, .textOnly .lateStores⟩, ⟨5, .textOnly .lateStores⟩, ⟨6, .textOnly .lateStores⟩, ⟨7, .textOnly .lateStores⟩, ⟨8, .textOnly .lateStores⟩, ⟨9, .textOnly .lateStores⟩, ⟨10, .textOnly .lateStores⟩, ⟨11, .textOnly .lateStoresUnsure⟩, ⟨12, .textOnly .lateStores⟩, ⟨13, .textOnly .lateStores⟩], none⟩ rfl ?_
    refine wTk 13 ⟨some 48, .pick (.tmp 39) (.tmp 47) (.const (.bool false)), 4, "sort.go:167", #[⟨4, .data⟩, ⟨12, .data⟩, ⟨14, .gcOnly .lateStores⟩], none⟩ rfl ?_
    refine wTk 15 ⟨some 7, .assign (.tmp 48), 4, "sort.go:167", #[⟨13, .data⟩, ⟨14, .chain⟩, ⟨0, .phase⟩, ⟨1, .phase⟩, ⟨2, .phase⟩, ⟨3, .phase⟩, ⟨4, .phase⟩, ⟨5, .phase⟩, ⟨6, .phase⟩, ⟨7, .phase⟩, ⟨8, .phase⟩, ⟨9, .phase⟩, ⟨10, .phase⟩, ⟨11, .phase⟩, ⟨12, .phase⟩, ⟨13, .phase⟩, ⟨14, .phase⟩], none⟩ rfl ?_
    refine wpAnyH_done (by kernel_rfl) ?_ _
    clear hHeld
    go_wp2_with fail
    go_ret2
    exact ⟨lo, _, rfl, HF.out, by simp [hln], HBw.out.trans ((below_drew1 wr).mono HBw.out.size)⟩
end Go.Proofs.YtalpnhfoaohhhaaGreat
namespace Go.Proofs.YtalpnhfoaohhhaaGreat.K
open Go.RowKit
attribute [local go_sem ↓] ld28_eq st28_eq ld26_eq run_eqD run_eq28
attribute [local go_sem] zero_EC cells_EV EC_size
structure DotAt (w : World) (g : Nat) (e : En) : Prop where
 c0 : w.cell? ⟨g, 0, none⟩ = some (.int .i64 e.rep)
 c1 : w.cell? ⟨g, 1, none⟩ = some (.int .i64 e.num)
theorem DotAt.on {w w' : World} {g : Nat} {e : En} (D : DotAt w g e) (hb : Below w.heap.size w w') : DotAt w' g e :=
 ⟨(hb.cell (World.block_lt_of_cell? _ _ D.c0)).trans D.c0, (hb.cell (World.block_lt_of_cell? _ _ D.c1)).trans D.c1⟩
theorem dot_new (w : World) (e : En) : DotAt (w.alloc (.cells (DC e) 32)) w.heap.size e := ⟨by simp [DC], by simp [DC]⟩
theorem run_ldD {w : World} {g : Nat} {e : En} (D : DotAt w g e) : (ld26 (.pointer (some ⟨g, 0, none⟩))).run Tryz.prog w = .ok (.agg (DC e)) w := by
 have hl := run_loadCells_list (P := Tryz.prog) (w := w) ⟨g, 0, none⟩ (DC e).toList (fun j v hv => by
  match j, hv with
  | 0, hv => cases hv; rw [add_zero]; exact D.c0
  | 1, hv => cases hv; rw [Addr.add_lit]; exact D.c1
  | j + 2, hv => simp [DC] at hv)
 cases hq : Tryz.prog.info? 32 with
 | none => have := size26; simp [hq] at this
 | some x =>
  have hs : x.size = 2 := by have := size26; simpa [hq] using this
  have hagg : (isAgg 32).run Tryz.prog w = .ok true w := by
   unfold isAgg
   rw [Sem.run_bind, run_underlying Tryz.underlying32 w]
   rfl
  have e4 : (DC e).toList.length = 2 := rfl
  rw [e4] at hl
  unfold ld26
  simp only [Instr.loadAt, Instr.sureAddr, Sem.run_bind, Sem.run_pure, Result.andThen]
  simp [loadVar, Sem.run_bind, hagg, sizeOf, typeInfo, hq, hs, hl]
theorem cells_DV (e : En) : (Value.agg (DC e)).cells = DC e := by simp [Value.cells]
attribute [local go_sem] cells_DV
def IxOf (L : List En) (x : En) (k : Int) : Prop := (k = -1 /\ ∀ i, i < L.length -> sameDot (L.getD i en0) x = false) ∨ ∃ i, i < L.length /\ k = (i : Int) /\ sameDot (L.getD i en0) x = true /\ ∀ j, j < i -> sameDot (L.getD j en0) x = false
def fdE (L : List En) (k : Int) : En := if k < 0 then en0 else L.getD k.toNat en0
def fdB (k : Int) : Bool := decide (0 <= k)
theorem resF {fn : Func} {p q : Tmp} {w : World} {g : Nat} {T : TypeId} {e : En} {b : Value} (h : fn.results = #[.cell p 36, .tmp q]) {tmps : Array Value} (hp : tmps.getD p undef = .pointer (some ⟨g, 0, none⟩)) (hq : tmps.getD q undef = b) (A : Box w g T e) :
  (results fn tmps).run Tryz.prog w = .ok (.tuple #[EV e, b]) w := by
 have hl := run_lv28 A.at
 simp only [results, h]
 rw [Array.getD_eq_getD_getElem?] at hp hq
 simp [hp, hq, asAddr, hl]
def GivesF (w w' : World) (y : Ending) (L : List En) (x : En) : Prop := ∃ k, y = .returned (.tuple #[EV (fdE L k), .bool (fdB k)]) /\ IxOf L x k /\ Below w.heap.size w w'
theorem refFind_any (ao : Option Addr) (n cap : Nat) (L : List En) (x : En) (w : World) (hS : ESrc w ao n cap L) :
  Calls Tryz.prog 28 #[.slice ao n cap, .agg (DC x)] w fun y w' => GivesF w w' y L x := by
 have hn := hS.2.2.2.2
 have HL : Hid (L.length = n) := hS.1
 have B1 := below_new w (.cells (DC x) 32)
 have HB2 : Hid (Below w.heap.size w ((w.alloc (.cells (DC x) 32)).alloc (.cells (EC en0) 36))) := B1.trans ((below_new _ _).mono B1.size)
 have HD : Hid (DotAt ((w.alloc (.cells (DC x) 32)).alloc (.cells (EC en0) 36)) w.heap.size x) := (dot_new w x).on (below_new _ _)
 have HX : Hid (Box ((w.alloc (.cells (DC x) 32)).alloc (.cells (EC en0) 36)) (w.heap.size + 1) 36 en0) := by have := box_new (w.alloc (.cells (DC x) 32)) 36 en0; rwa [World.size_alloc] at this
 have HS := hide (hS.below HB2.out)
 obtain ⟨w2, Hw2⟩ : ∃ w2, Hid ((w.alloc (.cells (DC x) 32)).alloc (.cells (EC en0) 36) = w2) := ⟨_, rfl⟩
 rw [Hw2.out] at HB2 HD HX HS
 clear hS B1
 go_enter Tryz.func28, Tryz.ntmps28
 go_wp2_with fail
 rw [Hw2.out]
 go_loopw [6] (fun i wr => ∃ k : Nat, k <= n /\ i = .int .i64 k /\ Hid ((∀ j, j < k -> sameDot (L.getD j en0) x = false) /\ Below w2.heap.size w2 wr)) (fun i _ => n - (intOf i).toNat)
 case atStart => exact ⟨0, Nat.zero_le _, rfl, fun i hi => by omega, Below.refl _ _⟩
 case round =>
  obtain ⟨k, hk, rfl, H⟩ := hrel
  rename World => w4
  by_cases hlt : k < n
  ·obtain ⟨ad, rfl, A0⟩ := (HS.out.below H.out.2).at k hlt
   obtain ⟨e, He⟩ : ∃ e, Hid (L.getD k en0 = e) := ⟨_, rfl⟩
   rw [He.out] at A0
   have HA0 := hide A0
   have HD4 := hide (HD.out.on H.out.2)
   clear A0
   have l0 : ∀ d os, (ld26 (.pointer (some (ad.add (k * 4))))).run Tryz.prog (Sort.grow (redrawn w4 d) os) = .ok (.agg (DC e)) (Sort.grow (redrawn w4 d) os) := fun d os => run_ld26 (HA0.out.on (below_regrown w4 d os))
   have l1 : ∀ d os, (ld26 (.pointer (some ⟨w.heap.size, 0, none⟩))).run Tryz.prog (Sort.grow (redrawn w4 d) os) = .ok (.agg (DC x)) (Sort.grow (redrawn w4 d) os) := fun d os => run_ldD (HD4.out.on (below_regrown w4 d os))
   obtain ⟨q, hq⟩ : ∃ q, sameDot e x = q := ⟨_, rfl⟩
   cases q with
   | false =>
    have HQ := hide hq
    go_wp2_with fail
    refine wp_region_quiet_below (by kernel_rfl) (by kernel_rfl) ?_
    repeat (with_reducible (refine wpQuiet_step ?_); intro K hK; go_simp; (try rw [if_neg (by unfold undef; simp)]); first | (with_reducible (refine hK _ ?_); clear hK K) | (apply Exists.intro; refine ⟨fun _ => ?_, hK _ ?_⟩; (fail); clear hK K))
    with_reducible (refine wpQuiet_nil ?_)
    intro w5 hw'
    obtain ⟨⟨dq, osq⟩, hw''⟩ := hw'
    have b5 : Below w4.heap.size w4 w5 := by rw [hw'']; exact below_regrown w4 dq osq
    clear hw'' dq osq
    have HN : Hid ((∀ j, j < k + 1 -> sameDot (L.getD j en0) x = false) /\ Below w2.heap.size w2 w5) := ⟨fun j hj => by
     by_cases ej : j = k
     ·rw [ej, He.out]; exact HQ.out
     ·exact H.out.1 j (by omega), H.out.2.trans (b5.mono H.out.2.size)⟩
    clear b5 l0 l1
    go_wp2_with fail
    go_roundw
    case rel => exact ⟨k + 1, by omega, by go_num, HN⟩
    case measure => simp [intOf]; omega
   | true =>
    have HQ := hide hq
    go_wp2_with fail
    refine wp_region_quiet_below (by kernel_rfl) (by kernel_rfl) ?_
    repeat (with_reducible (refine wpQuiet_step ?_); intro K hK; go_simp; (try rw [if_neg (by unfold undef; simp)]); first | (with_reducible (refine hK _ ?_); clear hK K) | (apply Exists.intro; refine ⟨fun _ => ?_, hK _ ?_⟩; (fail); clear hK K))
    with_reducible (refine wpQuiet_nil ?_)
    intro w5 hw'
    obtain ⟨⟨dq, osq⟩, hw''⟩ := hw'
    have b5 : Below w4.heap.size w4 w5 := by rw [hw'']; exact below_regrown w4 dq osq
    clear hw'' dq osq
    have l5 := run_ld28 (HA0.out.on b5)
    have HX5 := hide ((HX.out.below H.out.2).below b5)
    have HB5 := hide (HB2.out.trans ((H.out.2.trans (b5.mono H.out.2.size)).mono HB2.out.size))
    have HE : Hid (fdE L (k : Int) = e) := by show _ = _; unfold fdE; rw [if_neg (by omega), Int.toNat_natCast, He.out]
    have HF : Hid (fdB (k : Int) = true) := by show _ = _; unfold fdB; simp
    have HK : Hid (IxOf L x (k : Int)) := Or.inr ⟨k, by rw [HL.out]; exact hlt, rfl, by rw [He.out]; exact HQ.out, H.out.1⟩
    have hst := run_st28 (e' := e) HX5.out
    have HX6 := hide (HX5.out.setRow (e' := e))
    have HB6 : Hid (Below w.heap.size w (w5.setRow (w.heap.size + 1) (EC e))) := below_setRow HB5.out (by omega)
    clear b5 l0 l1
    go_wp2_with fail
    refine bodyPost_ret (resF Tryz.results28 rfl rfl HX6.out) rfl ⟨(k : Int), by rw [HE.out, HF.out]; rfl, HK.out, HB6.out⟩
  ·obtain rfl : k = n := by omega
   have HE : Hid (fdE L (-1) = en0) := by show _ = _; unfold fdE; rw [if_pos (by omega)]
   have HF : Hid (fdB (-1) = false) := by show _ = _; unfold fdB; simp
   have HK : Hid (IxOf L x (-1)) := Or.inl ⟨rfl, by rw [HL.out]; exact H.out.1⟩
   have HX4 := hide (HX.out.below H.out.2)
   have hst := run_st28 (e' := en0) HX4.out
   have HX5 := hide (HX4.out.setRow (e' := en0))
   have HB5 : Hid (Below w.heap.size w (w4.setRow (w.heap.size + 1) (EC en0))) := below_setRow (HB2.out.trans (H.out.2.mono HB2.out.size)) (by omega)
   go_wp2_with fail
   refine bodyPost_ret (resF Tryz.results28 rfl rfl HX5.out) rfl ⟨-1, by rw [HE.out, HF.out]; rfl, HK.out, HB5.out⟩
end Go.Proofs.YtalpnhfoaohhhaaGreat.K
