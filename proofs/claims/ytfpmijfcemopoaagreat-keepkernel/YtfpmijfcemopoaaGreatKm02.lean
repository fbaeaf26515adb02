/- barrowref07.left. -/
import Derived.Test.YtfpmijfcemopoaaGreatTk
import Derived.Test.YtfpmijfcemopoaaGreatKm01
import Derived.Test.YtfpmijfcemopoaaGreatKb31
import Derived.Deep.CutRange
namespace Go.Proofs.YtfpmijfcemopoaaGreat
open Go.RowKit
attribute [local go_sem ↓] ldP_eq stP_eq K.ld28_eq K.st28_eq K.ld26_eq
attribute [local go_sem] cells_PV PC_size K.cells_EV K.EC_size
def stayB (B : List K.En) (P : Pst) (x : K.En) : Bool := B.any (fun y => K.sameDot y x) || !inB P x
theorem take_snocK (L : List K.En) (k : Nat) (h : k < L.length) : L.take (k + 1) = L.take k ++ [L.getD k K.en0] := K.take_snoc L k h
set_option maxRecDepth 100000 in
set_option maxHeartbeats 3200000 in
theorem left_any (ao bo : Option Addr) (n cap m cap' : Nat) (A B : List K.En) (p : Pv) (w : World) (hS : K.ESrc w ao n cap A) (hR : K.ESrc w bo m cap' B) (hB : K.Asc B) (hP : PSrc w p) :
  Calls Tryz.prog 76 #[.slice ao n cap, .slice bo m cap', PV p] w fun x w' => ∃ a l c, x = .returned (.slice a l c) ∧ K.ESrc w' a l c (A.filter (stayB B p.P)) ∧ Below w.heap.size w w' := by
 have b1 := below_new w (.cells (PC p) 27)
 have HX := hide (pbox_new w p)
 have HS := hide (hS.below b1)
 have HR := hide (hR.below b1)
 have HP := hide (hP.below b1)
 have HB := hide b1
 have hnb := hS.2.2.2.2
 have HL : Hid (A.length = n) := hS.1
 have HBA := hide hB
 clear hS hR hB hP b1
 obtain ⟨wk, hwk⟩ : ∃ wk, w.alloc (.cells (PC p) 27) = wk := ⟨_, rfl⟩
 obtain ⟨G, hG⟩ : ∃ G, w.heap.size = G := ⟨_, rfl⟩
 rw [hwk] at HX HS HR HP HB
 rw [hG] at HX
 go_enter Tryz.func76, Tryz.ntmps76
 go_wp2_with fail
 clear hwk hG
 go_loopw [7, 8] (fun v i wr => ∃ (k : Nat) (ap : Option Addr) (c : Nat), k ≤ n ∧ v = .slice ap ((A.take k).filter (stayB B p.P)).length c ∧ i = .int .i64 (k : Int) ∧ Hid (K.OwnE wk.heap.size wk.heap.size wk wr ap c ((A.take k).filter (stayB B p.P)))) (fun _ i _ => n - (intOf i).toNat)
 case atStart => exact ⟨0, none, 0, Nat.zero_le _, rfl, rfl, K.OwnE.nil (Below.refl _ _) (Nat.le_refl _) (Nat.le_refl _)⟩
 case round =>
  obtain ⟨k, ap, c, hk, rfl, rfl, HO⟩ := hrel
  rename World => wr
  obtain ⟨acc, Hacc⟩ : ∃ acc, Hid ((A.take k).filter (stayB B p.P) = acc) := ⟨_, rfl⟩
  have hal : acc.length ≤ k := by
   rw [← Hacc.out]; have h1 := List.length_filter_le (stayB B p.P) (A.take k); have h2 := List.length_take_le k A; omega
  rw [Hacc.out] at HO ⊢
  obtain ⟨an, han⟩ : ∃ an, acc.length = an := ⟨_, rfl⟩
  rw [han] at hal ⊢
  by_cases hlt : k < n
  ·have hlti : (k : Int) < (n : Int) := by omega
   obtain ⟨ad, hao, A0⟩ := (HS.out.below HO.out.below).at k hlt
   subst hao
   obtain ⟨e, He⟩ : ∃ e, Hid (A.getD k K.en0 = e) := ⟨_, rfl⟩
   rw [He.out] at A0
   have HT := hide (take_snocK A k (by rw [HL.out]; exact hlt))
   rw [He.out] at HT
   have HA0 := hide A0
   have Hlt := hide hlt
   have Han := hide han
   have HXr := hide (HX.out.below HO.out.below)
   have HSt : Hid (∀ W, Below wr.heap.size wr W → (K.ld26 (.pointer (some (ad.add (k * 4))))).run Tryz.prog W = .ok (.agg (K.DC e)) W ∧ (ldP (.pointer (some ⟨G, 0, none⟩))).run Tryz.prog W = .ok (PV p) W) := fun W hW => ⟨K.run_ld26 (HA0.out.on hW), run_ldP (HXr.out.below hW).at⟩
   clear A0 hlt hk han
   go_upto_region 5 with fail
   refine wp_region_held_drew (S := fun W => (K.ld26 (.pointer (some (ad.add (k * 4))))).run Tryz.prog W = .ok (.agg (K.DC e)) W ∧ (ldP (.pointer (some ⟨G, 0, none⟩))).run Tryz.prog W = .ok (PV p) W) (by kernel_rfl) (HSt.out _ (below_drew1 wr)) (fun hHeld => ?_)
   refine wTk 0 ⟨some 15, .move (.tmp 1), 23, "ref.go:218", #[], none⟩ rfl ?_
   refine wTk 1 ⟨some 16, .move (.tmp 0), 23, "ref.go:218", #[], none⟩ rfl ?_
   refine wTk 2 ⟨some 17, .move (.tmp 8), 3, "ref.go:218", #[], none⟩ rfl ?_
   refine wTk 3 ⟨some 18, .indexAddr 23 (.tmp 16) (.tmp 17), 0, "ref.go:218", #[⟨1, .data⟩, ⟨2, .data⟩], none⟩ rfl ?_
   refine wTk 4 ⟨some 19, .fieldAddr 49 (.tmp 18) 0, 0, "ref.go:218", #[⟨3, .data⟩], none⟩ rfl ?_
   refine wTk 5 ⟨some 20, .load 47 (.tmp 19), 47, "ref.go:218", #[⟨4, .data⟩], none⟩ rfl ?_
   refine wpAnyH_ready (rs := [6]) (by kernel_rfl) (by simp) (.cons rfl (fun K hK => ?_) .nil)
   go_simp
   go_wp2_with fail
   refine (Go.Proofs.YtfpmijfcemopoaaGreat.K.place_any bo m cap' B e _ ((HR.out.below HO.out.below).below (below_drew1 wr)) HBA.out).mono ?_
   rintro x w3 ⟨z, rfl, b3, hz⟩
   have HB3 : Hid (Below wr.heap.size wr w3) := (below_drew1 wr).trans b3
   refine hK.out _ _ (HSt.out _ HB3.out) (fun hHeld => ?_)
   clear hK K
   clear b3
   rcases hz with ⟨rfl, hno⟩ | ⟨j, hj, rfl, hs⟩
   ·refine wTk 7 ⟨some 22, .binOp .geq 3 (.tmp 21) (.const (.int .i64 0)) 3, 4, "ref.go:218", #[⟨6, .data⟩], none⟩ rfl ?_
    refine wTk 8 ⟨some 23, .move (.tmp 22), 4, "ref.go:218", #[⟨7, .data⟩, ⟨6, .chain⟩], none⟩ rfl ?_
    refine wTk 9 ⟨some 24, .load 27 (.tmp 5), 27, "ref.go:218", #[⟨8, .guard⟩], some (8, false)⟩ rfl ?_
    refine wTk 10 ⟨some 25, .move (.tmp 0), 23, "ref.go:218", #[⟨8, .guard⟩], some (8, false)⟩ rfl ?_
    refine wTk 11 ⟨some 26, .move (.tmp 8), 3, "ref.go:218", #[⟨8, .guard⟩], some (8, false)⟩ rfl ?_
    refine wTk 12 ⟨some 27, .indexAddr 23 (.tmp 25) (.tmp 26), 0, "ref.go:218", #[⟨10, .data⟩, ⟨11, .data⟩, ⟨8, .guard⟩], some (8, false)⟩ rfl ?_
    refine wTk 13 ⟨some 28, .fieldAddr 49 (.tmp 27) 0, 0, "ref.go:218", #[⟨12, .data⟩, ⟨8, .guard⟩], some (8, false)⟩ rfl ?_
    refine wTk 14 ⟨some 29, .load 47 (.tmp 28), 47, "ref.go:218", #[⟨13, .data⟩, ⟨8, .guard⟩], some (8, false)⟩ rfl ?_
    refine wpAnyH_ready (rs := [15]) (by kernel_rfl) (by simp) (.cons rfl (fun K hK => ?_) .nil)
    go_simp
    go_wp2_with fail
    refine (refHas_any p ⟨e.rep, e.num⟩ _ ((HP.out.below HO.out.below).below HB3.out)).mono ?_
    rintro x w4 ⟨b, rfl, hb, b4⟩
    have HBx : Hid (Below wr.heap.size wr w4) := HB3.out.trans (b4.mono HB3.out.size)
    refine hK.out _ _ (HSt.out _ HBx.out) (fun hHeld => ?_)
    clear hK K
    clear b4
    have hnone : B.any (fun y => K.sameDot y e) = false := by
     rw [List.any_eq_false]
     intro y hy
     rw [hno y hy]
     decide
    refine wTk 16 ⟨some 31, .unOp .not 4 (.tmp 30), 4, "ref.go:218", #[⟨15, .data⟩, ⟨8, .guard⟩], some (8, false)⟩ rfl ?_
    refine wTk 17 ⟨some 32, .pick (.tmp 23) (.const (.bool true)) (.tmp 31), 4, "ref.go:218", #[⟨8, .data⟩, ⟨16, .data⟩], none⟩ rfl ?_
    refine wpAnyH_done (by kernel_rfl) ?_ _
    clear hHeld
    cases b with
    | true =>
     have HF : Hid (stayB B p.P e = false) := by
      show _ = _
      unfold stayB
      rw [hnone, (inB_iff p.P e).2 (hb.out.1 rfl)]
      rfl
     clear hno hb hnone
     have HN : Hid ((A.take (k + 1)).filter (stayB B p.P) = acc) := by
      show _ = _
      rw [HT.out, List.filter_append, Hacc.out]
      simp [HF.out]
     have HO6 := hide (HO.out.later HBx.out)
     go_wp2_with fail
     go_roundw
     case rel => exact ⟨k + 1, ap, c, Hlt.out, by rw [HN.out, Han.out], by simp, by rw [HN.out]; exact HO6⟩
     case measure => simp [intOf]; have := Hlt.out; omega
    | false =>
     have HF : Hid (stayB B p.P e = true) := by
      show _ = _
      unfold stayB
      have : inB p.P e = false := by
       cases h : inB p.P e
       ·rfl
       ·have := hb.out.2 ((inB_iff p.P e).1 h)
        cases this
      rw [hnone, this]
      rfl
     clear hno hb hnone
     have HN : Hid ((A.take (k + 1)).filter (stayB B p.P) = acc ++ [e]) := by
      show _ = _
      rw [HT.out, List.filter_append, Hacc.out]
      simp [HF.out]
     have HO6 := hide (HO.out.later HBx.out)
     have l6 := K.run_ld28 (HA0.out.on HBx.out)
     go_wp2_with (at_builtin; refine HO6.out.append e _ rfl (by have := Han.out; have := Hlt.out; omega) rfl (.tmp 33) (.tmp 38) rfl an Han.out rfl rfl ?_; intro g7 c7 w7 O7 hk7; have HO7 := hide O7; clear O7 hk7)
     clear l6
     go_roundw
     case rel => exact ⟨k + 1, some ⟨g7, 0, none⟩, c7, Hlt.out, by rw [HN.out, List.length_append, Han.out]; rfl, by simp, by rw [HN.out]; exact HO7⟩
     case measure => simp [intOf]; have := Hlt.out; omega
   ·have hj0 : (0 : Int) ≤ (j : Int) := by omega
    have HBx := HB3
    refine wTk 7 ⟨some 22, .binOp .geq 3 (.tmp 21) (.const (.int .i64 0)) 3, 4, "ref.go:218", #[⟨6, .data⟩], none⟩ rfl ?_
    refine wTk 8 ⟨some 23, .move (.tmp 22), 4, "ref.go:218", #[⟨7, .data⟩, ⟨6, .chain⟩], none⟩ rfl ?_
    refine wSk 9 ⟨some 24, .load 27 (.tmp 5), 27, "ref.go:218", #[⟨8, .guard⟩], some (8, false)⟩ rfl ?_
    refine wSk 10 ⟨some 25, .move (.tmp 0), 23, "ref.go:218", #[⟨8, .guard⟩], some (8, false)⟩ rfl ?_
    refine wSk 11 ⟨some 26, .move (.tmp 8), 3, "ref.go:218", #[⟨8, .guard⟩], some (8, false)⟩ rfl ?_
    refine wSk 12 ⟨some 27, .indexAddr 23 (.tmp 25) (.tmp 26), 0, "ref.go:218", #[⟨10, .data⟩, ⟨11, .data⟩, ⟨8, .guard⟩], some (8, false)⟩ rfl ?_
    refine wSk 13 ⟨some 28, .fieldAddr 49 (.tmp 27) 0, 0, "ref.go:218", #[⟨12, .data⟩, ⟨8, .guard⟩], some (8, false)⟩ rfl ?_
    refine wSk 14 ⟨some 29, .load 47 (.tmp 28), 47, "ref.go:218", #[⟨13, .data⟩, ⟨8, .guard⟩], some (8, false)⟩ rfl ?_
    refine wSk 15 ⟨some 30, .call ⟨.value (.func 63), #[.tmp 24, .tmp 29], #[27, 47]⟩, 4, "ref.go:218", #[⟨9, .data⟩, ⟨14, .data⟩, ⟨8, .chain⟩, ⟨8, .guard⟩], some (8, false)⟩ rfl ?_
    refine wSk 16 ⟨some 31, .unOp .not 4 (.tmp 30), 4, "ref.go:218", #[⟨15, .data⟩, ⟨8, .guard⟩], some (8, false)⟩ rfl ?_
    refine wTk 17 ⟨some 32, .pick (.tmp 23) (.const (.bool true)) (.tmp 31), 4, "ref.go:218", #[⟨8, .data⟩, ⟨16, .data⟩], none⟩ rfl ?_
    refine wpAnyH_done (by kernel_rfl) ?_ _
    clear hHeld
    have HF : Hid (stayB B p.P e = true) := by
     show _ = _
     unfold stayB
     have : B.any (fun y => K.sameDot y e) = true := by
      rw [List.any_eq_true]
      refine ⟨B.getD j K.en0, ?_, hs⟩
      have : B.getD j K.en0 = B[j] := by simp [List.getD, List.getElem?_eq_getElem hj]
      rw [this]
      exact List.getElem_mem hj
     rw [this]
     rfl
    clear hs
    have HN : Hid ((A.take (k + 1)).filter (stayB B p.P) = acc ++ [e]) := by
     show _ = _
     rw [HT.out, List.filter_append, Hacc.out]
     simp [HF.out]
    have HO6 := hide (HO.out.later HBx.out)
    have l6 := K.run_ld28 (HA0.out.on HBx.out)
    go_wp2_with (at_builtin; refine HO6.out.append e _ rfl (by have := Han.out; have := Hlt.out; omega) rfl (.tmp 33) (.tmp 38) rfl an Han.out rfl rfl ?_; intro g7 c7 w7 O7 hk7; have HO7 := hide O7; clear O7 hk7)
    clear l6
    go_roundw
    case rel => exact ⟨k + 1, some ⟨g7, 0, none⟩, c7, Hlt.out, by rw [HN.out, List.length_append, Han.out]; rfl, by simp, by rw [HN.out]; exact HO7⟩
    case measure => simp [intOf]; have := Hlt.out; omega
  ·have hlti : ¬ (k : Int) < (n : Int) := by omega
   have HE : Hid (K.ESrc wr ap an c (A.filter (stayB B p.P)) ∧ Below w.heap.size w wr) := by
    have h1 := HO.out.src (fun e he => by rw [← Hacc.out] at he; exact HS.out.2.2.2.1 e (List.mem_of_mem_take (List.mem_filter.1 he).1)) (by omega)
    rw [han] at h1
    have e : acc = A.filter (stayB B p.P) := by rw [← Hacc.out, List.take_of_length_le (by have := HL.out; omega)]
    rw [← e]
    exact ⟨h1.1, HB.out.trans (HO.out.below.mono HB.out.size)⟩
   clear hlt
   go_wp2_with fail
   go_ret
   exact ⟨ap, an, c, rfl, HE.out.1, HE.out.2⟩
end Go.Proofs.YtfpmijfcemopoaaGreat
