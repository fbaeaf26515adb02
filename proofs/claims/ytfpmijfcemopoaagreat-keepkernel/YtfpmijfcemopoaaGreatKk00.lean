/- barrowlaw07.has, dotIn. -/
import Derived.Test.YtfpmijfcemopoaaGreatTk
import Derived.Test.YtfpmijfcemopoaaGreatKm01
import Derived.Deep.CutRange
namespace Go.Proofs.YtfpmijfcemopoaaGreat.K
open Go.RowKit
attribute [local go_sem ↓] ld28_eq st28_eq ld26_eq run_eq28 run_eqD
attribute [local go_sem] cells_EV EC_size
theorem Box.on {w w' : World} {g : Nat} {T : TypeId} {e : En} (h : Box w g T e) (hb : Below w.heap.size w w') : Box w' g T e := (hb.block g (Array.getElem?_eq_some_iff.1 h).1).trans h
set_option maxRecDepth 100000 in
set_option maxHeartbeats 1600000 in
theorem hasE_any (bo : Option Addr) (m cap : Nat) (B : List En) (y : En) (w : World) (hS : ESrc w bo m cap B) :
  Calls Tryz.prog 34 #[.slice bo m cap, EV y] w fun x w' => x = .returned (.bool (B.any (fun e => eqE e y))) ∧ Below w.heap.size w w' := by
 have b1 := below_new w (.cells (EC y) 49)
 have HX := hide (box_new w 49 y)
 have HS := hide (hS.below b1)
 have HB := hide b1
 have hmb := hS.2.2.2.2
 have HL : Hid (B.length = m) := hS.1
 clear hS b1
 obtain ⟨wk, hwk⟩ : ∃ wk, w.alloc (.cells (EC y) 49) = wk := ⟨_, rfl⟩
 obtain ⟨G, hG⟩ : ∃ G, w.heap.size = G := ⟨_, rfl⟩
 rw [hwk] at HX HS HB
 rw [hG] at HX
 go_enter Tryz.func34, Tryz.ntmps34
 go_wp2_with fail
 clear hwk hG
 go_loopw [5] (fun i wr => ∃ k : Nat, k ≤ m ∧ i = .int .i64 (k : Int) ∧ Hid (Below wk.heap.size wk wr ∧ (B.take k).any (fun e => eqE e y) = false)) (fun i _ => m - (intOf i).toNat)
 case atStart => exact ⟨0, Nat.zero_le _, rfl, Below.refl _ _, rfl⟩
 case round =>
  obtain ⟨k, hk, rfl, HI⟩ := hrel
  rename World => wr
  by_cases hlt : k < m
  ·have hlti : (k : Int) < (m : Int) := by omega
   obtain ⟨ad, hao, A0⟩ := (HS.out.below HI.out.1).at k hlt
   subst hao
   obtain ⟨e, He⟩ : ∃ e, Hid (B.getD k en0 = e) := ⟨_, rfl⟩
   rw [He.out] at A0
   have HA0 := hide A0
   have Hlt := hide hlt
   have HT := hide (take_snoc B k (by rw [HL.out]; exact hlt))
   rw [He.out] at HT
   have HXr := hide (HX.out.on HI.out.1)
   have HSt : Hid (∀ W, Below wr.heap.size wr W → (ld28 (.pointer (some (ad.add (k * 4))))).run Tryz.prog W = .ok (EV e) W ∧ (ld28 (.pointer (some ⟨G, 0, none⟩))).run Tryz.prog W = .ok (EV y) W) := fun W hW => ⟨run_ld28 (HA0.out.on hW), run_ld28 (HXr.out.on hW).at⟩
   clear A0 hlt hk
   go_upto_region 4 with fail
   refine wp_region_held_drew (S := fun W => (ld28 (.pointer (some (ad.add (k * 4))))).run Tryz.prog W = .ok (EV e) W ∧ (ld28 (.pointer (some ⟨G, 0, none⟩))).run Tryz.prog W = .ok (EV y) W) (by kernel_rfl) (HSt.out _ (below_drew1 wr)) (fun hHeld => ?_)
   refine wTk 0 ⟨some 12, .move (.tmp 0), 23, "law.go:116", #[], none⟩ rfl ?_
   refine wTk 1 ⟨some 13, .move (.tmp 5), 3, "law.go:116", #[], none⟩ rfl ?_
   refine wTk 2 ⟨some 14, .indexAddr 23 (.tmp 12) (.tmp 13), 0, "law.go:116", #[⟨0, .data⟩, ⟨1, .data⟩], none⟩ rfl ?_
   refine wTk 3 ⟨some 15, .load 49 (.tmp 14), 49, "law.go:116", #[⟨2, .data⟩], none⟩ rfl ?_
   refine wTk 4 ⟨some 16, .load 49 (.tmp 3), 49, "law.go:116", #[], none⟩ rfl ?_
   refine wTk 5 ⟨some 17, .binOp .eql 49 (.tmp 15) (.tmp 16) 49, 4, "law.go:116", #[⟨3, .data⟩, ⟨4, .data⟩], none⟩ rfl ?_
   refine wpAnyH_done (by kernel_rfl) ?_ _
   clear hHeld
   have HBd := hide (HI.out.1.trans ((below_drew1 wr).mono HI.out.1.size))
   cases hq : eqE e y with
   | true =>
    have HE : Hid (Ending.returned (.bool true) = .returned (.bool (B.any (fun e => eqE e y))) ∧ Below w.heap.size w wr.drew) := by
     refine ⟨?_, HB.out.trans (HBd.out.mono HB.out.size)⟩
     have hkl : k < B.length := by rw [HL.out]; exact Hlt.out
     have et : B.getD k en0 = B[k] := by simp [List.getD, List.getElem?_eq_getElem hkl]
     have : B.any (fun e => eqE e y) = true := by
      rw [List.any_eq_true]
      exact ⟨e, by rw [← He.out, et]; exact List.getElem_mem hkl, hq⟩
     rw [this]
    clear hq
    go_wp2_with fail
    go_ret
    exact HE.out
   | false =>
    have HN : Hid ((B.take (k + 1)).any (fun e => eqE e y) = false) := by
     show _ = _
     rw [HT.out, List.any_append, HI.out.2]
     simp [hq]
    clear hq
    go_wp2_with fail
    go_roundw
    case rel => exact ⟨k + 1, Hlt.out, by simp, HBd.out, HN.out⟩
    case measure => simp [intOf]; have := Hlt.out; omega
  ·have hlti : ¬ (k : Int) < (m : Int) := by omega
   have HE : Hid (Ending.returned (.bool false) = .returned (.bool (B.any (fun e => eqE e y))) ∧ Below w.heap.size w wr) := by
    refine ⟨?_, HB.out.trans (HI.out.1.mono HB.out.size)⟩
    have h := HI.out.2
    rw [List.take_of_length_le (by have := HL.out; omega)] at h
    rw [h]
   go_wp2_with fail
   go_ret
   exact HE.out
set_option maxRecDepth 100000 in
set_option maxHeartbeats 1600000 in
theorem dotInE_any (bo : Option Addr) (m cap : Nat) (B : List En) (y : En) (w : World) (hS : ESrc w bo m cap B) :
  Calls Tryz.prog 36 #[.slice bo m cap, .agg (DC y)] w fun x w' => x = .returned (.bool (B.any (fun e => sameDot e y))) ∧ Below w.heap.size w w' := by
 have b1 := below_new w (.cells (DC y) 47)
 have HX := hide (DBox_new w y)
 have HS := hide (hS.below b1)
 have HB := hide b1
 have hmb := hS.2.2.2.2
 have HL : Hid (B.length = m) := hS.1
 clear hS b1
 obtain ⟨wk, hwk⟩ : ∃ wk, w.alloc (.cells (DC y) 47) = wk := ⟨_, rfl⟩
 obtain ⟨G, hG⟩ : ∃ G, w.heap.size = G := ⟨_, rfl⟩
 rw [hwk] at HX HS HB
 rw [hG] at HX
 go_enter Tryz.func36, Tryz.ntmps36
 go_wp2_with fail
 clear hwk hG
 go_loopw [5] (fun i wr => ∃ k : Nat, k ≤ m ∧ i = .int .i64 (k : Int) ∧ Hid (Below wk.heap.size wk wr ∧ (B.take k).any (fun e => sameDot e y) = false)) (fun i _ => m - (intOf i).toNat)
 case atStart => exact ⟨0, Nat.zero_le _, rfl, Below.refl _ _, rfl⟩
 case round =>
  obtain ⟨k, hk, rfl, HI⟩ := hrel
  rename World => wr
  by_cases hlt : k < m
  ·have hlti : (k : Int) < (m : Int) := by omega
   obtain ⟨ad, hao, A0⟩ := (HS.out.below HI.out.1).at k hlt
   subst hao
   obtain ⟨e, He⟩ : ∃ e, Hid (B.getD k en0 = e) := ⟨_, rfl⟩
   rw [He.out] at A0
   have HA0 := hide A0
   have Hlt := hide hlt
   have HT := hide (take_snoc B k (by rw [HL.out]; exact hlt))
   rw [He.out] at HT
   have HXr := hide (HX.out.below HI.out.1)
   have HSt : Hid (∀ W, Below wr.heap.size wr W → (ld26 (.pointer (some (ad.add (k * 4))))).run Tryz.prog W = .ok (.agg (DC e)) W ∧ (ld26 (.pointer (some ⟨G, 0, none⟩))).run Tryz.prog W = .ok (.agg (DC y)) W) := fun W hW => ⟨run_ld26 (HA0.out.on hW), run_ldb (HXr.out.below hW)⟩
   clear A0 hlt hk
   go_upto_region 4 with fail
   refine wp_region_held_drew (S := fun W => (ld26 (.pointer (some (ad.add (k * 4))))).run Tryz.prog W = .ok (.agg (DC e)) W ∧ (ld26 (.pointer (some ⟨G, 0, none⟩))).run Tryz.prog W = .ok (.agg (DC y)) W) (by kernel_rfl) (HSt.out _ (below_drew1 wr)) (fun hHeld => ?_)
   refine wTk 0 ⟨some 12, .move (.tmp 0), 23, "law.go:126", #[], none⟩ rfl ?_
   refine wTk 1 ⟨some 13, .move (.tmp 5), 3, "law.go:126", #[], none⟩ rfl ?_
   refine wTk 2 ⟨some 14, .indexAddr 23 (.tmp 12) (.tmp 13), 0, "law.go:126", #[⟨0, .data⟩, ⟨1, .data⟩], none⟩ rfl ?_
   refine wTk 3 ⟨some 15, .fieldAddr 49 (.tmp 14) 0, 0, "law.go:126", #[⟨2, .data⟩], none⟩ rfl ?_
   refine wTk 4 ⟨some 16, .load 47 (.tmp 15), 47, "law.go:126", #[⟨3, .data⟩], none⟩ rfl ?_
   refine wTk 5 ⟨some 17, .load 47 (.tmp 3), 47, "law.go:126", #[], none⟩ rfl ?_
   refine wTk 6 ⟨some 18, .binOp .eql 47 (.tmp 16) (.tmp 17) 47, 4, "law.go:126", #[⟨4, .data⟩, ⟨5, .data⟩], none⟩ rfl ?_
   refine wpAnyH_done (by kernel_rfl) ?_ _
   clear hHeld
   have HBd := hide (HI.out.1.trans ((below_drew1 wr).mono HI.out.1.size))
   cases hq : sameDot e y with
   | true =>
    have HE : Hid (Ending.returned (.bool true) = .returned (.bool (B.any (fun e => sameDot e y))) ∧ Below w.heap.size w wr.drew) := by
     refine ⟨?_, HB.out.trans (HBd.out.mono HB.out.size)⟩
     have hkl : k < B.length := by rw [HL.out]; exact Hlt.out
     have et : B.getD k en0 = B[k] := by simp [List.getD, List.getElem?_eq_getElem hkl]
     have : B.any (fun e => sameDot e y) = true := by
      rw [List.any_eq_true]
      exact ⟨e, by rw [← He.out, et]; exact List.getElem_mem hkl, hq⟩
     rw [this]
    clear hq
    go_wp2_with fail
    go_ret
    exact HE.out
   | false =>
    have HN : Hid ((B.take (k + 1)).any (fun e => sameDot e y) = false) := by
     show _ = _
     rw [HT.out, List.any_append, HI.out.2]
     simp [hq]
    clear hq
    go_wp2_with fail
    go_roundw
    case rel => exact ⟨k + 1, Hlt.out, by simp, HBd.out, HN.out⟩
    case measure => simp [intOf]; have := Hlt.out; omega
  ·have hlti : ¬ (k : Int) < (m : Int) := by omega
   have HE : Hid (Ending.returned (.bool false) = .returned (.bool (B.any (fun e => sameDot e y))) ∧ Below w.heap.size w wr) := by
    refine ⟨?_, HB.out.trans (HI.out.1.mono HB.out.size)⟩
    have h := HI.out.2
    rw [List.take_of_length_le (by have := HL.out; omega)] at h
    rw [h]
   go_wp2_with fail
   go_ret
   exact HE.out
end Go.Proofs.YtfpmijfcemopoaaGreat.K
