/- BSm TUa TShg TUc -/
import Derived.Test.YtalcmdjiejhkgaaGreatTk
import Derived.Test.YtalcmdjiejhkgaaGreatKl24
import Derived.Test.YtalcmdjiejhkgaaGreatKl11
import Derived.Deep.CutRange
import Derived.Test.YtalcmdjiejhkgaaGreatKl22
import Derived.Shelf.Spec.SlicesGrow
import Derived.Test.YtalcmdjiejhkgaaGreatProg
import Derived.Test.YtalcmdjiejhkgaaGreatKl18
import Derived.Laws.AppendOwnNone
import Derived.Deep.LoopGhost
set_option maxRecDepth 100000
set_option maxHeartbeats 4000000
namespace Go.Proofs.YtalcmdjiejhkgaaGreat
section
open Go.RowKit
attribute [local go_sem ↓] K.ld28_eq K.st28_eq K.run_eq28 ldP_eq stP_eq ldRe_eq stRe_eq
attribute [local go_sem] K.zero_EC K.cells_EV cells_PV PC_size
theorem list_ext {s u : ByteArray} (h : s.toList = u.toList) : s = u := by
 rw [ByteArray.toList_eq, ByteArray.toList_eq] at h
 exact ByteArray.ext (Array.ext' h)
theorem eqE_iff (x y : K.En) : K.eqE x y = true ↔ x = y := by
 obtain ⟨a, b, s, q⟩ := x
 obtain ⟨a', b', s', q'⟩ := y
 simp only [K.eqE, Bool.and_eq_true, beq_iff_eq, K.En.mk.injEq]
 constructor
 ·rintro ⟨⟨⟨h1, h2⟩, h3⟩, h4⟩
  exact ⟨h1, h2, list_ext h3, h4⟩
 ·rintro ⟨h1, h2, h3, h4⟩
  exact ⟨⟨⟨h1, h2⟩, by rw [h3]⟩, h4⟩
theorem below_drewB {n : Nat} {w W : World} (h : Below n w W) : Below n w W.drew := ⟨h.os, h.tape, h.output, h.size, h.block⟩
theorem sameEntries_any (ao bo : Option Addr) (n m ca cb : Nat) (L M : List K.En) (w : World) (hL : K.ESrc w ao n ca L) (hM : K.ESrc w bo m cb M) : Calls Tryz.prog 20 #[.slice ao n ca, .slice bo m cb] w fun e w' => GivesB w w' e (L = M) := by
 have HL := hide hL
 have HM := hide hM
 have hn := hL.2.2.2.2
 have hm := hM.2.2.2.2
 have HLl : Hid (L.length = n /\ M.length = m) := ⟨hL.1, hM.1⟩
 clear hL hM
 by_cases hnm : n = m
 ·subst hnm
  go_enter Tryz.func20, Tryz.ntmps20
  go_wp2_with fail
  go_loopw [5] (fun i wr => ∃ k : Nat, k <= n /\ i = .int .i64 k /\ Hid (L.take k = M.take k /\ Below w.heap.size w wr)) (fun i _ => n - (intOf i).toNat)
  case atStart => exact ⟨0, Nat.zero_le _, rfl, rfl, Below.refl _ _⟩
  case round =>
   obtain ⟨k, hk, rfl, HK⟩ := hrel
   rename World => wr
   by_cases hlt : k < n
   ·obtain ⟨ad, rfl, A0⟩ := (HL.out.below HK.out.2).at k hlt
    obtain ⟨bd, rfl, B0⟩ := (HM.out.below HK.out.2).at k hlt
    obtain ⟨x, Hx⟩ : ∃ x, Hid (L.getD k K.en0 = x) := ⟨_, rfl⟩
    obtain ⟨y, Hy⟩ : ∃ y, Hid (M.getD k K.en0 = y) := ⟨_, rfl⟩
    rw [Hx.out] at A0
    rw [Hy.out] at B0
    have HA := hide A0
    have HB := hide B0
    clear A0 B0
    have HTk : Hid (L.take (k + 1) = L.take k ++ [x] /\ M.take (k + 1) = M.take k ++ [y]) := ⟨by rw [K.take_snoc L k (by have := HLl.out; omega), Hx.out], by rw [K.take_snoc M k (by have := HLl.out; omega), Hy.out]⟩
    have Hlt := hide hlt
    go_upto_region 6 with fail
    refine wp_region_held_drew (S := fun v => (K.ld28 (.pointer (some (ad.add (k * 4))))).run Tryz.prog v = .ok (K.EV x) v /\ (K.ld28 (.pointer (some (bd.add (k * 4))))).run Tryz.prog v = .ok (K.EV y) v) (by kernel_rfl) (⟨K.run_ld28 (HA.out.on (below_drew1 wr)), K.run_ld28 (HB.out.on (below_drew1 wr))⟩) (fun hHeld => ?_)
    refine wTk 0 ⟨some 17, .move (.tmp 0), 23, "lists.go:379", #[], none⟩ rfl ?_
    refine wTk 1 ⟨some 18, .move (.tmp 5), 3, "lists.go:379", #[], none⟩ rfl ?_
    refine wTk 2 ⟨some 19, .indexAddr 23 (.tmp 17) (.tmp 18), 0, "lists.go:379", #[⟨0, .data⟩, ⟨1, .data⟩], none⟩ rfl ?_
    refine wTk 3 ⟨some 20, .load 49 (.tmp 19), 49, "lists.go:379", #[⟨2, .data⟩], none⟩ rfl ?_
    refine wTk 4 ⟨some 21, .move (.tmp 1), 23, "lists.go:379", #[], none⟩ rfl ?_
    refine wTk 5 ⟨some 22, .move (.tmp 5), 3, "lists.go:379", #[], none⟩ rfl ?_
    refine wTk 6 ⟨some 23, .indexAddr 23 (.tmp 21) (.tmp 22), 0, "lists.go:379", #[⟨4, .data⟩, ⟨5, .data⟩], none⟩ rfl ?_
    refine wTk 7 ⟨some 24, .load 49 (.tmp 23), 49, "lists.go:379", #[⟨6, .data⟩], none⟩ rfl ?_
    cases hxy : K.eqE x y with
    | false =>
     refine wTk 8 ⟨some 25, .binOp .neq 49 (.tmp 20) (.tmp 24) 49, 4, "lists.go:379", #[⟨3, .data⟩, ⟨7, .data⟩], none⟩ rfl ?_
     refine wpAnyH_done (by kernel_rfl) ?_ _
     clear hHeld
     have HF : Hid (GivesB w wr.drew (.returned (.bool false)) (L = M)) := by
      refine ⟨false, rfl, ⟨(fun h => by cases h), fun h => ?_⟩, below_drewB HK.out.2⟩
      have : x = y := by rw [<- Hx.out, <- Hy.out, h]
      rw [(eqE_iff x y).2 this] at hxy
      cases hxy
     clear hxy
     go_wp2_with fail
     go_ret
     exact HF.out
    | true =>
     refine wTk 8 ⟨some 25, .binOp .neq 49 (.tmp 20) (.tmp 24) 49, 4, "lists.go:379", #[⟨3, .data⟩, ⟨7, .data⟩], none⟩ rfl ?_
     refine wpAnyH_done (by kernel_rfl) ?_ _
     clear hHeld
     have HE : Hid (L.take (k + 1) = M.take (k + 1)) := by show _ = _; rw [HTk.out.1, HTk.out.2, HK.out.1, (eqE_iff x y).1 hxy]
     clear hxy
     go_wp2_with fail
     go_roundw
     case rel => exact ⟨k + 1, by omega, by simp, HE.out, below_drewB HK.out.2⟩
     case measure => simp [intOf]; omega
   ·obtain rfl : k = n := by omega
    have HF : Hid (GivesB w wr (.returned (.bool true)) (L = M)) := by
     refine ⟨true, rfl, ⟨fun _ => ?_, fun _ => rfl⟩, HK.out.2⟩
     have h := HK.out.1
     rw [List.take_of_length_le (by have := HLl.out; omega), List.take_of_length_le (by have := HLl.out; omega)] at h
     exact h
    go_wp2_with fail
    go_ret
    exact HF.out
 ·have hne : ((n : Int) != (m : Int)) = true := by simp; omega
  have HF : Hid (GivesB w w (.returned (.bool false)) (L = M)) := ⟨false, rfl, ⟨(fun h => by cases h), fun h => by rw [h] at HLl; have := HLl.out; omega⟩, Below.refl _ _⟩
  go_enter Tryz.func20, Tryz.ntmps20
  go_wp2_with fail
  go_ret
  exact HF.out
abbrev Rp := ByteArray × Pst
def plR (L : List Rc) : List Rp := L.map fun r => (r.s, r.p.P)
theorem plR_len (L : List Rc) : (plR L).length = L.length := by simp [plR]
theorem plR_snoc (L : List Rc) (r : Rc) : plR (L ++ [r]) = plR L ++ [(r.s, r.p.P)] := by simp [plR]
theorem plR_take (L : List Rc) (k : Nat) (h : k < L.length) : plR (L.take (k + 1)) = plR (L.take k) ++ [((L.getD k rc0).s, (L.getD k rc0).p.P)] := by
 rw [take_snocR L k h, plR_snoc]
theorem ReAt.flat {w : World} {b o : Nat} {r : Rc} (A : ReAt w ⟨b, o, none⟩ (mkR r)) : w.cell? ⟨b, o, none⟩ = some (.string r.s) /\ PAt w ⟨b, o + 1, none⟩ r.p := by
 obtain ⟨h0, h1, h2⟩ := A
 rw [Addr.add_lit] at h1 h2
 refine ⟨h0, h1, ?_⟩
 rw [Addr.add_lit]
 exact h2
theorem RcS.spot {w : World} {ad : Addr} {n c : Nat} {L : List Rc} (h : RcS w (some ad) n c L) (hn : 0 < n) : ∃ b o, ad = ⟨b, o, none⟩ := by
 obtain ⟨ad0, e0, A00⟩ := h.at 0 hn
 obtain rfl := Option.some.inj e0
 have hsp := World.cell?_spot A00.c0
 rw [Nat.zero_mul, add_zero] at hsp
 obtain ⟨b, o, sp⟩ := ad
 have hsp : sp = none := hsp
 subst hsp
 exact ⟨b, o, rfl⟩
theorem sameRecords_any (ao bo : Option Addr) (n m ca cb : Nat) (L M : List Rc) (w : World) (hL : RcS w ao n ca L) (hM : RcS w bo m cb M) : Calls Tryz.prog 8 #[.slice ao n ca, .slice bo m cb] w fun e w' => GivesB w w' e (plR L = plR M) := by
 have HL := hide hL
 have HM := hide hM
 have hn := hL.big
 have hm := hM.big
 have HLl : Hid (L.length = n /\ M.length = m) := ⟨hL.len, hM.len⟩
 clear hL hM
 by_cases hnm : n = m
 ·subst hnm
  go_enter Tryz.func8, Tryz.ntmps8
  go_wp2_with fail
  go_loopw [5] (fun i wr => ∃ k : Nat, k <= n /\ i = .int .i64 k /\ Hid (plR (L.take k) = plR (M.take k) /\ Below w.heap.size w wr)) (fun i _ => n - (intOf i).toNat)
  case atStart => exact ⟨0, Nat.zero_le _, rfl, rfl, Below.refl _ _⟩
  case round =>
   obtain ⟨k, hk, rfl, HK⟩ := hrel
   rename World => wr
   by_cases hlt : k < n
   ·obtain ⟨ad, rfl, A0⟩ := (HL.out.below HK.out.2).at k hlt
    obtain ⟨bd, rfl, B0⟩ := (HM.out.below HK.out.2).at k hlt
    obtain ⟨b1, o1, rfl⟩ := HL.out.spot (by omega)
    obtain ⟨b2, o2, rfl⟩ := HM.out.spot (by omega)
    have HO1 := (HL.out.below HK.out.2).okAt k hlt
    have HO2 := (HM.out.below HK.out.2).okAt k hlt
    have ht1 := plR_take L k (by have := HLl.out; omega)
    have ht2 := plR_take M k (by have := HLl.out; omega)
    obtain ⟨x, Hx⟩ : ∃ x, Hid (L.getD k rc0 = x) := ⟨_, rfl⟩
    obtain ⟨y, Hy⟩ : ∃ y, Hid (M.getD k rc0 = y) := ⟨_, rfl⟩
    rw [Hx.out] at A0 HO1 ht1
    rw [Hy.out] at B0 HO2 ht2
    rw [Addr.add_lit] at A0 B0
    have HA := hide A0
    have HB := hide B0
    have HTk : Hid (plR (L.take (k + 1)) = plR (L.take k) ++ [(x.s, x.p.P)] /\ plR (M.take (k + 1)) = plR (M.take k) ++ [(y.s, y.p.P)]) := ⟨ht1, ht2⟩
    have HO : Hid (PSrc wr x.p /\ PSrc wr y.p) := ⟨HO1.1, HO2.1⟩
    clear A0 B0 HO1 HO2 ht1 ht2
    have HNo : Hid ((x.s, x.p.P) ≠ (y.s, y.p.P) -> ¬ plR L = plR M) := fun hne h => by
     have h1 := congrArg (fun z : List Rp => z.take (k + 1)) h
     simp only [plR, <- List.map_take] at h1
     have h2 := HTk.out
     unfold plR at h2
     rw [h2.1, h2.2] at h1
     have h3 := HK.out.1
     unfold plR at h3
     rw [h3] at h1
     have := List.append_cancel_left h1
     exact hne (List.cons.inj this).1
    have Hlt := hide hlt
    go_upto_region 6 with fail
    refine wp_region_held_drew (S := fun v => (v.cell? ⟨b1, o1 + k * 3, none⟩ = some (.string x.s) /\ v.cell? ⟨b2, o2 + k * 3, none⟩ = some (.string y.s)) /\ (ldP (.pointer (some ⟨b1, o1 + k * 3 + 1, none⟩))).run Tryz.prog v = .ok (PV x.p) v /\ (ldP (.pointer (some ⟨b2, o2 + k * 3 + 1, none⟩))).run Tryz.prog v = .ok (PV y.p) v) (by kernel_rfl) (⟨⟨(HA.out.on (below_drew1 wr)).flat.1, (HB.out.on (below_drew1 wr)).flat.1⟩, run_ldP (HA.out.on (below_drew1 wr)).flat.2, run_ldP (HB.out.on (below_drew1 wr)).flat.2⟩) (fun hHeld => ?_)
    refine wTk 0 ⟨some 17, .move (.tmp 0), 22, "lists.go:414", #[], none⟩ rfl ?_
    refine wTk 1 ⟨some 18, .move (.tmp 5), 3, "lists.go:414", #[], none⟩ rfl ?_
    refine wTk 2 ⟨some 19, .indexAddr 22 (.tmp 17) (.tmp 18), 0, "lists.go:414", #[⟨0, .data⟩, ⟨1, .data⟩], none⟩ rfl ?_
    refine wTk 3 ⟨some 20, .fieldAddr 43 (.tmp 19) 0, 0, "lists.go:414", #[⟨2, .data⟩], none⟩ rfl ?_
    refine wTk 4 ⟨some 21, .load 9 (.tmp 20), 9, "lists.go:414", #[⟨3, .data⟩], none⟩ rfl ?_
    refine wTk 5 ⟨some 22, .move (.tmp 1), 22, "lists.go:414", #[], none⟩ rfl ?_
    refine wTk 6 ⟨some 23, .move (.tmp 5), 3, "lists.go:414", #[], none⟩ rfl ?_
    refine wTk 7 ⟨some 24, .indexAddr 22 (.tmp 22) (.tmp 23), 0, "lists.go:414", #[⟨5, .data⟩, ⟨6, .data⟩], none⟩ rfl ?_
    refine wTk 8 ⟨some 25, .fieldAddr 43 (.tmp 24) 0, 0, "lists.go:414", #[⟨7, .data⟩], none⟩ rfl ?_
    refine wTk 9 ⟨some 26, .load 9 (.tmp 25), 9, "lists.go:414", #[⟨8, .data⟩], none⟩ rfl ?_
    by_cases hs : x.s = y.s
    ·have hsb : (x.s.toList == y.s.toList) = true := by rw [hs]; simp
     have HS := hide hs
     clear hs
     refine wTk 10 ⟨some 27, .binOp .neq 9 (.tmp 21) (.tmp 26) 9, 4, "lists.go:414", #[⟨4, .data⟩, ⟨9, .data⟩], none⟩ rfl ?_
     refine wTk 11 ⟨some 28, .move (.tmp 27), 4, "lists.go:414", #[⟨10, .data⟩], none⟩ rfl ?_
     refine wTk 12 ⟨some 29, .move (.tmp 0), 22, "lists.go:414", #[⟨11, .guard⟩], some (11, false)⟩ rfl ?_
     refine wTk 13 ⟨some 30, .move (.tmp 5), 3, "lists.go:414", #[⟨11, .guard⟩], some (11, false)⟩ rfl ?_
     refine wTk 14 ⟨some 31, .indexAddr 22 (.tmp 29) (.tmp 30), 0, "lists.go:414", #[⟨12, .data⟩, ⟨13, .data⟩, ⟨11, .guard⟩], some (11, false)⟩ rfl ?_
     refine wTk 15 ⟨some 32, .fieldAddr 43 (.tmp 31) 1, 0, "lists.go:414", #[⟨14, .data⟩, ⟨11, .guard⟩], some (11, false)⟩ rfl ?_
     refine wTk 16 ⟨some 33, .load 27 (.tmp 32), 27, "lists.go:414", #[⟨15, .data⟩, ⟨11, .guard⟩], some (11, false)⟩ rfl ?_
     refine wTk 17 ⟨some 34, .move (.tmp 1), 22, "lists.go:414", #[⟨11, .guard⟩], some (11, false)⟩ rfl ?_
     refine wTk 18 ⟨some 35, .move (.tmp 5), 3, "lists.go:414", #[⟨11, .guard⟩], some (11, false)⟩ rfl ?_
     refine wTk 19 ⟨some 36, .indexAddr 22 (.tmp 34) (.tmp 35), 0, "lists.go:414", #[⟨17, .data⟩, ⟨18, .data⟩, ⟨11, .guard⟩], some (11, false)⟩ rfl ?_
     refine wTk 20 ⟨some 37, .fieldAddr 43 (.tmp 36) 1, 0, "lists.go:414", #[⟨19, .data⟩, ⟨11, .guard⟩], some (11, false)⟩ rfl ?_
     refine wTk 21 ⟨some 38, .load 27 (.tmp 37), 27, "lists.go:414", #[⟨20, .data⟩, ⟨11, .guard⟩], some (11, false)⟩ rfl ?_
     refine wpAnyH_ready (rs := [22]) (by kernel_rfl) (by simp) (.cons rfl (fun K hK => ?_) .nil)
     go_simp
     go_wp2_with fail
     refine (samePast_any x.p y.p _ (HO.out.1.below (below_drew1 wr)) (HO.out.2.below (below_drew1 wr))).mono ?_
     rintro e w7 ⟨z, rfl, hz, b7⟩
     have hB7 : Below wr.heap.size wr w7 := (below_drew1 wr).trans b7
     have HB7 := hide (HK.out.2.trans (hB7.mono HK.out.2.size))
     refine hK.out _ _ (⟨⟨(HA.out.on (hB7)).flat.1, (HB.out.on (hB7)).flat.1⟩, run_ldP (HA.out.on (hB7)).flat.2, run_ldP (HB.out.on (hB7)).flat.2⟩) (fun hHeld => ?_)
     clear hK K b7 hB7
     cases z with
     | false =>
      have HN := hide (HNo.out (fun h => by have := hz.2 (Prod.mk.inj h).2; cases this))
      clear hz
      refine wTk 23 ⟨some 40, .unOp .not 4 (.tmp 39), 4, "lists.go:414", #[⟨22, .data⟩, ⟨11, .guard⟩], some (11, false)⟩ rfl ?_
      refine wTk 24 ⟨some 41, .pick (.tmp 28) (.const (.bool true)) (.tmp 40), 4, "lists.go:414", #[⟨11, .data⟩, ⟨23, .data⟩], none⟩ rfl ?_
      refine wpAnyH_done (by kernel_rfl) ?_ _
      clear hHeld
      go_wp2_with fail
      go_ret
      exact ⟨false, rfl, ⟨(fun h => by cases h), fun h => absurd h HN.out⟩, HB7.out⟩
     | true =>
      have HE : Hid (plR (L.take (k + 1)) = plR (M.take (k + 1))) := by show _ = _; rw [HTk.out.1, HTk.out.2, HK.out.1, HS.out, hz.1 rfl]
      clear hz
      refine wTk 23 ⟨some 40, .unOp .not 4 (.tmp 39), 4, "lists.go:414", #[⟨22, .data⟩, ⟨11, .guard⟩], some (11, false)⟩ rfl ?_
      refine wTk 24 ⟨some 41, .pick (.tmp 28) (.const (.bool true)) (.tmp 40), 4, "lists.go:414", #[⟨11, .data⟩, ⟨23, .data⟩], none⟩ rfl ?_
      refine wpAnyH_done (by kernel_rfl) ?_ _
      clear hHeld
      go_wp2_with fail
      go_roundw
      case rel => exact ⟨k + 1, by omega, by simp, HE.out, HB7.out⟩
      case measure => simp [intOf]; omega
    ·have hsb : (x.s.toList == y.s.toList) = false := by rw [beq_eq_false_iff_ne]; exact fun h => hs (list_ext h)
     have HN := hide (HNo.out (fun h => hs (Prod.mk.inj h).1))
     refine wTk 10 ⟨some 27, .binOp .neq 9 (.tmp 21) (.tmp 26) 9, 4, "lists.go:414", #[⟨4, .data⟩, ⟨9, .data⟩], none⟩ rfl ?_
     refine wTk 11 ⟨some 28, .move (.tmp 27), 4, "lists.go:414", #[⟨10, .data⟩], none⟩ rfl ?_
     refine wSk 12 ⟨some 29, .move (.tmp 0), 22, "lists.go:414", #[⟨11, .guard⟩], some (11, false)⟩ rfl ?_
     refine wSk 13 ⟨some 30, .move (.tmp 5), 3, "lists.go:414", #[⟨11, .guard⟩], some (11, false)⟩ rfl ?_
     refine wSk 14 ⟨some 31, .indexAddr 22 (.tmp 29) (.tmp 30), 0, "lists.go:414", #[⟨12, .data⟩, ⟨13, .data⟩, ⟨11, .guard⟩], some (11, false)⟩ rfl ?_
     refine wSk 15 ⟨some 32, .fieldAddr 43 (.tmp 31) 1, 0, "lists.go:414", #[⟨14, .data⟩, ⟨11, .guard⟩], some (11, false)⟩ rfl ?_
     refine wSk 16 ⟨some 33, .load 27 (.tmp 32), 27, "lists.go:414", #[⟨15, .data⟩, ⟨11, .guard⟩], some (11, false)⟩ rfl ?_
     refine wSk 17 ⟨some 34, .move (.tmp 1), 22, "lists.go:414", #[⟨11, .guard⟩], some (11, false)⟩ rfl ?_
     refine wSk 18 ⟨some 35, .move (.tmp 5), 3, "lists.go:414", #[⟨11, .guard⟩], some (11, false)⟩ rfl ?_
     refine wSk 19 ⟨some 36, .indexAddr 22 (.tmp 34) (.tmp 35), 0, "lists.go:414", #[⟨17, .data⟩, ⟨18, .data⟩, ⟨11, .guard⟩], some (11, false)⟩ rfl ?_
     refine wSk 20 ⟨some 37, .fieldAddr 43 (.tmp 36) 1, 0, "lists.go:414", #[⟨19, .data⟩, ⟨11, .guard⟩], some (11, false)⟩ rfl ?_
     refine wSk 21 ⟨some 38, .load 27 (.tmp 37), 27, "lists.go:414", #[⟨20, .data⟩, ⟨11, .guard⟩], some (11, false)⟩ rfl ?_
     refine wSk 22 ⟨some 39, .call ⟨.value (.func 25), #[.tmp 33, .tmp 38], #[27, 27]⟩, 4, "lists.go:414", #[⟨16, .data⟩, ⟨21, .data⟩, ⟨11, .chain⟩, ⟨11, .guard⟩], some (11, false)⟩ rfl ?_
     refine wSk 23 ⟨some 40, .unOp .not 4 (.tmp 39), 4, "lists.go:414", #[⟨22, .data⟩, ⟨11, .guard⟩], some (11, false)⟩ rfl ?_
     refine wTk 24 ⟨some 41, .pick (.tmp 28) (.const (.bool true)) (.tmp 40), 4, "lists.go:414", #[⟨11, .data⟩, ⟨23, .data⟩], none⟩ rfl ?_
     refine wpAnyH_done (by kernel_rfl) ?_ _
     clear hHeld
     clear hs
     go_wp2_with fail
     go_ret
     exact ⟨false, rfl, ⟨(fun h => by cases h), fun h => absurd h HN.out⟩, below_drewB HK.out.2⟩
   ·obtain rfl : k = n := by omega
    have HF : Hid (GivesB w wr (.returned (.bool true)) (plR L = plR M)) := by
     refine ⟨true, rfl, ⟨fun _ => ?_, fun _ => rfl⟩, HK.out.2⟩
     have h := HK.out.1
     rw [List.take_of_length_le (by have := HLl.out; omega), List.take_of_length_le (by have := HLl.out; omega)] at h
     exact h
    go_wp2_with fail
    go_ret
    exact HF.out
 ·have hne : ((n : Int) != (m : Int)) = true := by simp; omega
  have HF : Hid (GivesB w w (.returned (.bool false)) (plR L = plR M)) := ⟨false, rfl, ⟨(fun h => by cases h), fun h => by have h1 := congrArg List.length h; rw [plR_len, plR_len] at h1; have := HLl.out; omega⟩, Below.refl _ _⟩
  go_enter Tryz.func8, Tryz.ntmps8
  go_wp2_with fail
  go_ret
  exact HF.out
end
section
open Go.RowKit
/-! ### any total order -/
section
variable {α : Type} {c : α -> α -> Int}
def Srt (c : α -> α -> Int) (L : List α) : Prop := L.Pairwise fun x y => c x y < 0
theorem Tot.irr (h : Tot c) (x : α) : ¬ c x x < 0 := by have := (h.eq x x).2 rfl; omega
theorem Tot.asym (h : Tot c) {x y : α} (h1 : c x y < 0) : ¬ c y x < 0 := by have := h.neg x y; omega
theorem Srt.uniq (h : Tot c) : ∀ {X Y : List α}, Srt c X -> Srt c Y -> (∀ x, x ∈ X ↔ x ∈ Y) -> X = Y
 | [], [], _, _, _ => rfl
 | [], b :: _, _, _, e => absurd ((e b).2 List.mem_cons_self) List.not_mem_nil
 | a :: _, [], _, _, e => absurd ((e a).1 List.mem_cons_self) List.not_mem_nil
 | a :: X, b :: Y, h1, h2, e => by
  obtain ⟨a1, a2⟩ := List.pairwise_cons.1 h1
  obtain ⟨b1, b2⟩ := List.pairwise_cons.1 h2
  have hab : a = b := by
   rcases List.mem_cons.1 ((e a).1 List.mem_cons_self) with q | q
   ·exact q
   ·rcases List.mem_cons.1 ((e b).2 List.mem_cons_self) with q' | q'
    ·exact q'.symm
    ·exact absurd (a1 b q') (h.asym (b1 a q))
  subst hab
  rw [Srt.uniq h a2 b2 fun x => ?_]
  have hx := e x
  rw [List.mem_cons, List.mem_cons] at hx
  constructor
  ·intro hm
   rcases hx.1 (.inr hm) with rfl | q
   ·exact absurd (a1 _ hm) (h.irr _)
   ·exact q
  ·intro hm
   rcases hx.2 (.inr hm) with rfl | q
   ·exact absurd (b1 _ hm) (h.irr _)
   ·exact q
structure Mg (c : α -> α -> Int) (X Y : List α) (D A B : List α) : Prop where
 sd : Srt c D
 sa : Srt c A
 sb : Srt c B
 da : ∀ d ∈ D, ∀ x ∈ A, c d x < 0
 db : ∀ d ∈ D, ∀ x ∈ B, c d x < 0
 all : ∀ x, (x ∈ D ∨ x ∈ A ∨ x ∈ B) ↔ (x ∈ X ∨ x ∈ Y)
theorem Mg.start {X Y : List α} (h1 : Srt c X) (h2 : Srt c Y) : Mg c X Y [] X Y :=
 ⟨List.Pairwise.nil, h1, h2, fun d h => (by cases h), fun d h => (by cases h), fun x => by simp⟩
theorem Mg.symm {X Y D A B : List α} (h : Mg c X Y D A B) : Mg c X Y D B A :=
 ⟨h.sd, h.sb, h.sa, h.db, h.da, fun x => by rw [<- h.all x]; constructor <;> (rintro (q | q | q) <;> simp [q])⟩
theorem Mg.left {X Y D A B : List α} {x : α} (h : Mg c X Y D (x :: A) B) (hx : ∀ y ∈ B, c x y < 0) : Mg c X Y (D ++ [x]) A B := by
 obtain ⟨a1, a2⟩ := List.pairwise_cons.1 h.sa
 refine ⟨List.pairwise_append.2 ⟨h.sd, List.pairwise_singleton _ _, fun d hd y hy => ?_⟩, a2, h.sb, fun d hd y hy => ?_, fun d hd y hy => ?_, fun y => ?_⟩
 ·obtain rfl := List.mem_singleton.1 hy
  exact h.da d hd _ List.mem_cons_self
 ·rcases List.mem_append.1 hd with q | q
  ·exact h.da d q y (List.mem_cons_of_mem _ hy)
  ·obtain rfl := List.mem_singleton.1 q
   exact a1 y hy
 ·rcases List.mem_append.1 hd with q | q
  ·exact h.db d q y hy
  ·obtain rfl := List.mem_singleton.1 q
   exact hx y hy
 ·rw [<- h.all y]
  simp only [List.mem_append, List.mem_cons]
  constructor
  ·rintro ((q | q) | q | q)
   ·exact .inl q
   ·exact .inr (.inl (.inl (by simpa using q)))
   ·exact .inr (.inl (.inr q))
   ·exact .inr (.inr q)
  ·rintro (q | (q | q) | q)
   ·exact .inl (.inl q)
   ·exact .inl (.inr (by simp [q]))
   ·exact .inr (.inl q)
   ·exact .inr (.inr q)
theorem Mg.right {X Y D A B : List α} {x : α} (h : Mg c X Y D A (x :: B)) (hx : ∀ y ∈ A, c x y < 0) : Mg c X Y (D ++ [x]) A B := (h.symm.left hx).symm
theorem Mg.drop {X Y D A B : List α} {x : α} (h : Mg c X Y D (x :: A) B) (hx : x ∈ B) : Mg c X Y D A B :=
 ⟨h.sd, (List.pairwise_cons.1 h.sa).2, h.sb, fun d hd y hy => h.da d hd y (List.mem_cons_of_mem _ hy), h.db, fun y => by
  rw [<- h.all y]
  constructor
  ·rintro (q | q | q)
   ·exact .inl q
   ·exact .inr (.inl (List.mem_cons_of_mem _ q))
   ·exact .inr (.inr q)
  ·rintro (q | q | q)
   ·exact .inl q
   ·rcases List.mem_cons.1 q with rfl | q
    ·exact .inr (.inr hx)
    ·exact .inr (.inl q)
   ·exact .inr (.inr q)⟩
theorem srt_head (h : Tot c) {x y : α} {B : List α} (hB : Srt c (y :: B)) (hxy : c x y < 0) : ∀ z ∈ y :: B, c x z < 0 := fun z hz => by
 rcases List.mem_cons.1 hz with rfl | q
 ·exact hxy
 ·exact h.lt hxy (by have := (List.pairwise_cons.1 hB).1 z q; omega)
theorem Mg.eq (t : Tot c) {X Y D A B : List α} {x y : α} (h : Mg c X Y D (x :: A) (y :: B)) (hxy : c x y = 0) : Mg c X Y D A (y :: B) := h.drop (by rw [(t.eq x y).1 hxy]; exact List.mem_cons_self)
theorem Mg.eq2 (t : Tot c) {X Y D A B : List α} {x y : α} (h : Mg c X Y D (x :: A) (y :: B)) (hxy : c x y = 0) : Mg c X Y (D ++ [x]) A B := by
 have e := (t.eq x y).1 hxy
 have h2 := h.eq t hxy
 subst e
 exact h2.right (List.pairwise_cons.1 h.sa).1
def UnK (c : α -> α -> Int) (X Y Z : List α) : Prop := Srt c Z /\ ∀ x, x ∈ Z ↔ (x ∈ X ∨ x ∈ Y)
theorem Mg.doneL {X Y D A : List α} (h : Mg c X Y D A []) : UnK c X Y (D ++ A) :=
 ⟨List.pairwise_append.2 ⟨h.sd, h.sa, h.da⟩, fun x => by rw [<- h.all x]; simp⟩
theorem Mg.doneR {X Y D B : List α} (h : Mg c X Y D [] B) : UnK c X Y (D ++ B) := h.symm.doneL
theorem Mg.done {X Y D : List α} (h : Mg c X Y D [] []) : UnK c X Y D := by have := h.doneL; rwa [List.append_nil] at this
theorem UnK.uniq (t : Tot c) {X Y Z Z' : List α} (h : UnK c X Y Z) (h' : UnK c X Y Z') : Z = Z' := Srt.uniq t h.1 h'.1 fun x => (h.2 x).trans (h'.2 x).symm
end
/-! ### records -/
def cmpU (x y : UInt8) : Int := if x < y then -1 else if y < x then 1 else 0
theorem cmpU_tot : Tot cmpU := by
 refine ⟨fun x y => ?_, fun x y => ?_, fun x y => ?_, fun x y z => ?_⟩ <;> simp only [cmpU, UInt8.lt_iff_toNat_lt]
 ·split
  ·simp
  ·split <;> simp
 ·split <;> split <;> (first | omega | rfl)
 ·constructor
  ·intro h
   split at h
   ·omega
   ·split at h
    ·omega
    ·exact UInt8.toNat_inj.1 (by omega)
  ·rintro rfl; simp
 ·intro h1 h2
  split at h1 <;> split at h2 <;> split <;> (try split) <;> (try split at h1) <;> (try split at h2) <;> omega
theorem cb_lex : ∀ a b : List UInt8, Lib.compareBytes a b = lex cmpU a b
 | [], [] => rfl
 | [], _ :: _ => rfl
 | _ :: _, [] => rfl
 | a :: x, b :: y => by
  have ih := cb_lex x y
  simp only [Lib.compareBytes, lex, cmpU]
  by_cases h : a < b
  ·simp [h]
  ·by_cases h2 : b < a
   ·simp [h, h2]
   ·simp [h, h2, ih]
theorem cmpS_lex (a b : ByteArray) : cmpS a b = lex cmpU a.data.toList b.data.toList := cb_lex _ _
theorem bytes_ext {a b : ByteArray} (h : a.data.toList = b.data.toList) : a = b := by
 obtain ⟨⟨x⟩⟩ := a; obtain ⟨⟨y⟩⟩ := b; simp at h; rw [h]
theorem cmpS_tot : Tot cmpS := by
 have t := cmpU_tot.lex
 refine ⟨fun x y => ?_, fun x y => ?_, fun x y => ?_, fun x y z => ?_⟩ <;> simp only [cmpS_lex]
 ·exact t.rng _ _
 ·exact t.neg _ _
 ·exact ⟨fun h => bytes_ext ((t.eq _ _).1 h), fun h => by rw [h]; exact (t.eq _ _).2 rfl⟩
 ·exact t.tr _ _ _
def rck (r : Rc) : Rp := (r.s, r.p.P)
theorem plR_rck (L : List Rc) : plR L = L.map rck := rfl
def ck (x y : Rp) : Int := if cmpS x.1 y.1 = 0 then cmpP x.2 y.2 else cmpS x.1 y.1
theorem ck_tot : Tot ck := Tot.both (f := Prod.fst) (g := Prod.snd) cmpS_tot cmpP_tot (fun _ _ h1 h2 => Prod.ext h1 h2)
theorem cmpR_ck {a b : Rc} {z : Int} (ha : InForm a.p.P) (hb : InForm b.p.P) (h : CmpR a b z) : z = ck (rck a) (rck b) := by
 have e : CmpOf a.p.P b.p.P (cmpP a.p.P b.p.P) := ⟨_, _, canon_iff.2 ha, canon_iff.2 hb, rfl⟩
 unfold ck
 rcases h with ⟨h1, h2⟩ | ⟨h1, h2⟩
 ·rw [if_neg (show ¬ cmpS (rck a).1 (rck b).1 = 0 from h1)]; exact h2
 ·rw [if_pos (show cmpS (rck a).1 (rck b).1 = 0 from h1)]; exact h2.unique e
theorem ck_cmpR {a b : Rc} (ha : InForm a.p.P) (hb : InForm b.p.P) : CmpR a b (ck (rck a) (rck b)) := by
 by_cases h : cmpS a.s b.s = 0
 ·refine .inr ⟨h, ?_⟩
  unfold ck
  rw [if_pos (show cmpS (rck a).1 (rck b).1 = 0 from h)]
  exact ⟨_, _, canon_iff.2 ha, canon_iff.2 hb, rfl⟩
 ·refine .inl ⟨h, ?_⟩
  unfold ck
  rw [if_neg (show ¬ cmpS (rck a).1 (rck b).1 = 0 from h)]
  rfl
theorem rcD_mem {L : List Rc} {j : Nat} (h : j < L.length) : L.getD j rc0 ∈ L := by
 rw [List.getD_eq_getElem?_getD, List.getElem?_eq_getElem h]; exact List.getElem_mem h
theorem rcD_at {L : List Rc} {j : Nat} (h : j < L.length) : L.getD j rc0 = L[j] := by
 rw [List.getD_eq_getElem?_getD, List.getElem?_eq_getElem h]; rfl
theorem okR_iff {L : List Rc} : OkR L L.length ↔ (∀ r ∈ L, RecOk r) /\ Srt ck (plR L) := by
 constructor
 ·intro h
  have hr : ∀ r ∈ L, RecOk r := fun r hr => by
   obtain ⟨j, hj, rfl⟩ := List.getElem_of_mem hr
   rw [<- rcD_at hj]; exact (h j hj).1
  refine ⟨hr, ?_⟩
  have step : ∀ k, ∀ i, (hk : i + k + 1 < L.length) -> ck (rck L[i]) (rck L[i + k + 1]) < 0 := by
   intro k
   have one : ∀ i, (hi : i + 1 < L.length) -> ck (rck L[i]) (rck L[i + 1]) < 0 := fun i hi => by
    obtain ⟨z, hz, hlt⟩ := (h (i + 1) hi).2 (by omega)
    rw [rcD_at hi, show i + 1 - 1 = i from rfl, rcD_at (by omega)] at hz
    rw [<- cmpR_ck (hr _ (List.getElem_mem _)).2.1 (hr _ (List.getElem_mem _)).2.1 hz]
    exact hlt
   induction k with
   | zero => intro i hk; exact one i (by omega)
   | succ k ih =>
    intro i hk
    have h1 := ih i (by omega)
    have h2 := one (i + k + 1) (by omega)
    exact ck_tot.lt h1 (Int.le_of_lt h2)
  unfold Srt
  rw [plR_rck, List.pairwise_map, List.pairwise_iff_getElem]
  intro i j hi hj hij
  obtain ⟨k, rfl⟩ : ∃ k, j = i + k + 1 := ⟨j - i - 1, by omega⟩
  exact step k i hj
 ·rintro ⟨hr, hs⟩ j hj
  unfold Srt at hs
  rw [plR_rck, List.pairwise_map, List.pairwise_iff_getElem] at hs
  refine ⟨hr _ (rcD_mem hj), fun h0 => ?_⟩
  rw [rcD_at hj, rcD_at (by omega)]
  exact ⟨_, ck_cmpR (hr _ (List.getElem_mem _)).2.1 (hr _ (List.getElem_mem _)).2.1, hs (j - 1) j (by omega) hj (by omega)⟩
def UnOf (L M F : List Rc) : Prop := UnK ck (plR L) (plR M) (plR F) /\ ∀ r ∈ F, RecOk r
theorem UnOf.ok {L M F : List Rc} (h : UnOf L M F) : OkR F F.length := okR_iff.2 ⟨h.2, h.1.1⟩
theorem UnOf.one {L M F G : List Rc} (h : UnOf L M F) (h' : UnOf L M G) : plR F = plR G := h.1.uniq ck_tot h'.1
theorem recOk_rck {r r' : Rc} (h : RecOk r) (e : rck r' = rck r) : RecOk r' := by
 have e1 : r'.s = r.s := congrArg Prod.fst e
 have e2 : r'.p.P = r.p.P := congrArg Prod.snd e
 exact ⟨by rw [e1]; exact h.1, by rw [e2]; exact h.2⟩
end
end Go.Proofs.YtalcmdjiejhkgaaGreat
namespace Go.Proofs
open Go.Shelf
def Tryz.growRe_ren : Go.Shelf.Ren := ⟨fun | 4 => 55 | n => n, fun | 22 => 22 | 25 => 43 | 3 => 3 | 4 => 4 | 9 => 9 | 20 => 20 | 0 => 0 | n => n, fun | n => n⟩
theorem Tryz.growRe : Go.Proofs.Lays8.n4 Tryz.prog Tryz.growRe_ren := {
 mixed := by kernel_rfl
 f4 := ⟨Tryz.f55.name, by decide, Tryz.func55.trans (congrArg some (by kernel_rfl))⟩
 t0 := Tryz.underlying0
 a0 := Tryz.isAgg0
 z0 := Tryz.sizeOf0
 v0 := Tryz.zeroValue0
 t3 := Tryz.underlying3
 a3 := Tryz.isAgg3
 z3 := Tryz.sizeOf3
 v3 := Tryz.zeroValue3
 t4 := Tryz.underlying4
 a4 := Tryz.isAgg4
 z4 := Tryz.sizeOf4
 v4 := Tryz.zeroValue4
 t9 := Tryz.underlying9
 a9 := Tryz.isAgg9
 z9 := Tryz.sizeOf9
 v9 := Tryz.zeroValue9
 t20 := Tryz.underlying20
 a20 := Tryz.isAgg20
 z20 := Tryz.sizeOf20
 v20 := Tryz.zeroValue20
 t22 := Tryz.underlying22
 a22 := Tryz.isAgg22
 z22 := Tryz.sizeOf22
 v22 := Tryz.zeroValue22 }
end Go.Proofs
namespace Go.Proofs.YtalcmdjiejhkgaaGreat
open Go.RowKit Go.Lib Go.Maps Go.Sort
theorem rvs_cells (R : List Rc) : ∀ v ∈ rvs R, v.oneCell' = true := by
 intro v hv
 obtain ⟨l, hl, hv⟩ := List.mem_flatten.1 hv
 obtain ⟨r, -, rfl⟩ := List.mem_map.1 hl
 exact rvs_cell r v hv
theorem RcS.cells {w : World} {ad : Addr} {n cap : Nat} {L : List Rc} (h : RcS w (some ad) n cap L) : ∀ j u, (rvs L)[j]? = some u -> w.cell? (ad.add j) = some u := fun j u hj => by
 have hlt : j < L.length * 3 := by
  have := (List.getElem?_eq_some_iff.1 hj).1
  rwa [rvs_length] at this
 have hn := h.len
 have ht : j / 3 < n := by omega
 have A := h.at_ ad rfl (j / 3) ht
 have e : j = j / 3 * 3 + j % 3 := by omega
 have hm : j % 3 < 3 := Nat.mod_lt _ (by decide)
 rw [e, rvs_at L (j / 3) (j % 3) (by omega) hm] at hj
 have hc : ∀ i, i < 3 -> w.cell? ((ad.add (j / 3 * 3)).add i) = (ReC (mkR (L.getD (j / 3) rc0))).toList[i]? := by
  intro i hi
  match i, hi with
  | 0, _ => rw [add_zero]; exact A.c0
  | 1, _ => exact A.c1
  | 2, _ => exact A.c2
 rw [e, <- add_add, hc _ hm, hj]
theorem OwnRc.appAll {B : Nat} {w W : World} {h : Hs} {L : List Rc} (O : OwnRc B w W h L) (bo : Option Addr) (m c : Nat) (R : List Rc) (hR : RcS W bo m c R) (hc : bo = none -> c = 0) (hf : ∀ r ∈ R, FarH h r.p) (hn : h.n + m <= 2199023255552) :
  ∃ h2 W2, (Builtin.append_ #[22, 22] 22 #[HsV h, .slice bo m c]).run Tryz.prog W = .ok (HsV h2) W2 /\ h2.n = h.n + m /\ OwnRc B w W2 h2 (L ++ R) /\ (∀ q, q < W.heap.size -> (HsV h).ownBlock ≠ some q -> W2.heap[q]? = W.heap[q]?) := by
 obtain ⟨i0, hi, hz0, hz1, hz2⟩ := info_parts infoRec
 cases bo with
 | none =>
  obtain rfl : c = 0 := hc rfl
  obtain rfl : m = 0 := hR.nil rfl
  obtain rfl : R = [] := List.eq_nil_of_length_eq_zero hR.len
  refine ⟨h, W, run_append_owned_none (P := Tryz.prog) (w := W) B 22 22 43 i0 3 Tryz.underlying22 hi _ h.n (rvs L) O.own, rfl, by rw [List.append_nil]; exact O, fun q _ _ => rfl⟩
 | some ad =>
  obtain ⟨v', W2, hrun, hown, hgrow, _, hat⟩ := run_append_own_at (P := Tryz.prog) W B 22 22 43 i0 (.agg #[.string ⟨#[]⟩, .slice none 0 0, .slice none 0 0]) 3 64 Tryz.underlying22 hi hz0 hz1 hz2 (by simp [Value.cells]) (by decide) (HsV h) h.n (rvs L) O.own ad m c (rvs R) (by rw [rvs_length, hR.len]) hR.cells (rvs_cells R) (by unfold maxLen; omega) (by omega) O.hB.2
  have hall : ∀ q ∈ L ++ R, RcOk W q /\ FarH h q.p := fun q hq => by
   rcases List.mem_append.1 hq with hq | hq
   ·exact O.ok q hq
   ·exact ⟨hR.ok q hq, hf q hq⟩
  have hrow : ∀ k, (HsV h).ownBlock = some k -> B <= k := fun k hk => (O.own.lt k hk).1
  have hb2 : Below w.heap.size w W2 := O.below.grown hgrow O.below.size (fun k hk => by have := hrow k hk; have := O.hB; omega)
  have hkp : ∀ q, q < W.heap.size -> (HsV h).ownBlock ≠ some q -> W2.heap[q]? = W.heap[q]? := fun q hq hn => hgrow.block q hq (fun e => hn e.symm)
  have hsrc : ∀ q ∈ L ++ R, RcOk W2 q := fun q hq => ⟨psrc_keep (hall q hq).1.1 (fun k hk => (hall q hq).2 k hk) (fun k hk hn => hgrow.block k hk hn), (hall q hq).1.2⟩
  have key : ∀ h2 : Hs, v' = HsV h2 -> h2.n = h.n + m -> OwnRc B w W2 h2 (L ++ R) := fun h2 e2 en => by
   subst e2
   refine ⟨by rw [rvs_append, en]; exact hown, fun q hq => ⟨hsrc q hq, fun k hk => ?_⟩, hb2, O.hB.1, Nat.le_trans O.hB.2 hgrow.size⟩
   rcases hat with e | e
   ·exact (hall q hq).2 k (by rw [<- e]; exact hk)
   ·rw [e] at hk
    have := Option.some.inj hk
    exact PFar.old (hall q hq).1.1 (by omega)
  rcases hown.2 with ⟨h0, h00⟩ | ⟨g, cap2, cur, hv, hbg, hgg, hnc, hcm, hcsz, htake⟩
  ·exact ⟨hs0, W2, by rw [hrun, h0]; rfl, h00.symm, key hs0 h0 h00.symm, hkp⟩
  ·exact ⟨⟨some ⟨g, 0, none⟩, h.n + m, cap2⟩, W2, by rw [hrun, hv], rfl, key ⟨some ⟨g, 0, none⟩, h.n + m, cap2⟩ hv rfl, hkp⟩
theorem OwnRc.appAt {B : Nat} {w W : World} {h : Hs} {L : List Rc} (O : OwnRc B w W h L) (r : Rc) (hp : RcOk W r) (hf : FarH h r.p) (hn : h.n <= 2199023255551) :
  ∃ g c2 W2, (Builtin.append_ #[22, 22] 22 #[HsV h, .slice (some ⟨W.heap.size, 0, none⟩) 1 1]).run Tryz.prog (W.alloc (.cells (ReC (mkR r)) 43)) = .ok (.slice (some ⟨g, 0, none⟩) (h.n + 1) c2) W2 /\ OwnRc B w W2 ⟨some ⟨g, 0, none⟩, h.n + 1, c2⟩ (L ++ [r]) /\ (∀ q, q < W.heap.size -> (HsV h).ownBlock ≠ some q -> W2.heap[q]? = W.heap[q]?) /\ ((HsV h).ownBlock = some g ∨ W.heap.size <= g) /\ W.heap.size <= W2.heap.size := by
 obtain ⟨i0, hi, hz0, hz1, hz2⟩ := info_parts infoRec
 have b1 := below_new W (.cells (ReC (mkR r)) 43)
 have O1 := O.later b1
 obtain ⟨v', W2, hrun, hown, hgrow, _, hat⟩ := run_append_own_at (P := Tryz.prog) (W.alloc (.cells (ReC (mkR r)) 43)) B 22 22 43 i0 (.agg #[.string ⟨#[]⟩, .slice none 0 0, .slice none 0 0]) 3 64 Tryz.underlying22 hi hz0 hz1 hz2 (by simp [Value.cells]) (by decide) (HsV h) h.n (rvs L) O1.own ⟨W.heap.size, 0, none⟩ 1 1 (ReC (mkR r)).toList rfl (fun j u hj => by
  rw [Addr.add_lit, Nat.zero_add, World.cell?_alloc_new]
  simpa using hj) (rvs_cell r) (by unfold maxLen; omega) (by omega) O1.hB.2
 obtain ⟨g, cap2, W3, hrun3, O3, hk3⟩ := O.app r hp hf hn
 rw [hrun] at hrun3
 have e1 : v' = .slice (some ⟨g, 0, none⟩) (h.n + 1) cap2 := by cases hrun3; rfl
 have e2 : W2 = W3 := by cases hrun3; rfl
 subst e1 e2
 refine ⟨g, cap2, W2, hrun, O3, hk3, ?_, by have h1 := hgrow.size; rw [World.size_alloc] at h1; omega⟩
 rcases hat with e | e
 ·exact .inl e.symm
 ·refine .inr ?_
  have h1 := Option.some.inj (e.symm.trans (rfl : (Value.slice (some ⟨g, 0, none⟩) (h.n + 1) cap2).ownBlock = some g))
  simp at h1
  omega
theorem rcs_mv {w w' : World} {ao : Option Addr} {n cap : Nat} {L : List Rc} (h : RcS w ao n cap L) (hk : ∀ ad, ao = some ad -> w'.heap[ad.block]? = w.heap[ad.block]?) (hp : ∀ r ∈ L, RcOk w' r) : RcS w' ao n cap L := by
 refine ⟨h.len, h.nil, fun ad ha t ht => ?_, hp, h.big⟩
 have A := h.at_ ad ha t ht
 have hc : ∀ a : Addr, a.block = ad.block -> w'.cell? a = w.cell? a := fun a e => by unfold World.cell?; rw [e, hk ad ha]
 have e1 : (ad.add (t * 3)).block = ad.block := block_add _ _
 exact ⟨by rw [hc _ e1]; exact A.c0, by rw [hc _ (by rw [block_add]; exact e1)]; exact A.c1, by rw [hc _ (by rw [block_add]; exact e1)]; exact A.c2⟩
theorem zcr_size (n : Nat) : (Builtin.zeroCells (ReC re0) n).size = n * 3 := by simp [Builtin.zeroCells, ReC]
theorem below_drewR (w : World) : Below w.heap.size w w.drew := ⟨rfl, rfl, rfl, Nat.le_refl _, fun _ _ => rfl⟩
theorem growRe_nil (n : Nat) (w : World) (hn : n <= 2199023255552) : Calls Tryz.prog 55 #[.slice none 0 0, .int .i64 n] w fun e w' => ∃ h : Hs, e = .returned (HsV h) /\ h.n = 0 /\ OwnRc w.heap.size w w' h [] := by
 by_cases h0 : n = 0
 ·subst h0
  refine Calls.mono (Any8.slices_Grow_room Tryz.growRe none 0 0 0 w (Nat.le_refl _) (by omega) (by omega) (Nat.le_refl _)) ?_
  rintro e w' ⟨rfl, rfl⟩
  exact ⟨hs0, rfl, rfl, OwnRc.nil _⟩
 ·obtain ⟨i0, hi, hz0, hz1, hz2⟩ := info_parts infoRec
  have h := Any8.slices_Grow_grow Tryz.growRe i0 _ hi hz0 (by rw [hz1]; omega) none 0 0 n [] w (Nat.le_refl _) (by omega) (by rw [hz2]; omega) (by omega) (by simp) (fun _ => rfl) (fun a ha => by cases ha)
  rw [show Tryz.growRe_ren.t 25 = 43 from rfl] at h
  refine Calls.mono h ?_
  rintro e w' ⟨rfl, rfl⟩
  have hge := grownCap_ge w (0 + n) 0 43
  have hle := grownCap_le_maxLen w (0 + n) 0 43 (by unfold maxLen; omega)
  refine ⟨⟨some ⟨w.heap.size, 0, none⟩, 0, grownCap w (0 + n) 0 43⟩, rfl, rfl, ⟨⟨rfl, Or.inr ⟨w.heap.size, grownCap w (0 + n) 0 43, _, rfl, Nat.le_refl _, heap_alloc_new w.drew _, Nat.zero_le _, hle, ?_, by simp [rvs]⟩⟩, fun r hr => (by cases hr), (below_drewR w).trans ((below_new w.drew _).mono (Nat.le_refl _)), Nat.le_refl _, by simp⟩⟩
  have hc : (Value.agg #[.string ⟨#[]⟩, .slice none 0 0, .slice none 0 0]).cells = ReC re0 := by simp [Value.cells]; rfl
  rw [hc]
  simp only [Array.size_append, zcr_size]
  rw [Nat.zero_add] at hge ⊢
  simp
  omega
theorem farH_of {w W : World} {B : Nat} {h : Hs} {L : List Rc} (O : OwnRc B w W h L) {p : Pv} (hp : PSrc w p) : FarH h p := fun k hk => PFar.old hp (Nat.le_trans O.hB.1 (O.own.lt k hk).1)
theorem concatRe_any (gb : Nat) (ao bo : Option Addr) (n cap m cap' : Nat) (L R : List Rc) (w : World) (hS : RcS w ao n cap L) (hR : RcS w bo m cap' R) (ha : ao = none -> cap = 0) (hb : bo = none -> cap' = 0) (c0 : w.cell? ⟨gb, 0, none⟩ = some (.slice ao n cap)) (c1 : w.cell? ⟨gb, 1, none⟩ = some (.slice bo m cap')) (hlen : n + m <= 2199023255552) :
  Calls Tryz.prog 23 #[.slice (some ⟨gb, 0, none⟩) 2 2] w fun e w' => ∃ h : Hs, e = .returned (HsV h) /\ h.n = n + m /\ OwnRc w.heap.size w w' h (L ++ R) := by
 have HS := hide hS
 have HR := hide hR
 have HA := hide ha
 have HBb := hide hb
 have HL : Hid (L.length = n) := hS.len
 have HLR : Hid (R.length = m) := hR.len
 have HC0 := hide c0
 have HC1 := hide c1
 clear hS hR ha hb
 go_enter Tryz.func23, Tryz.ntmps23
 go_wp2_with fail
 go_loopw [3, 5, 11] (fun s _ i wr => ∃ k z : Nat, k <= 2 /\ s = .int .i64 z /\ i = .int .i64 k /\ z = (if k = 0 then 0 else if k = 1 then n else n + m) /\ w = wr) (fun _ _ i _ => 2 - (intOf i).toNat)
 case atStart => exact ⟨0, 0, Nat.zero_le _, rfl, rfl, rfl, rfl⟩
 case round =>
  obtain ⟨k, z, hk, rfl, rfl, hz, rfl⟩ := hrel
  by_cases h2 : k = 2
  ·subst h2
   simp at hz
   subst hz
   clear c0 c1
   go_wp2_with fail
   refine (growRe_nil (n + m) _ hlen).mono ?_
   rintro e w3 ⟨h3, rfl, hn3, O3⟩
   have HO3 := hide O3
   have HN3 := hide hn3
   clear O3 hn3
   go_wp2_with fail
   go_loopw [6, 8, 27] (fun v _ i wr => ∃ (k : Nat) (h : Hs) (acc : List Rc), k <= 2 /\ v = .slice h.o h.n h.c /\ i = .int .i64 k /\ Hid (h.n = (if k = 0 then 0 else if k = 1 then n else n + m) /\ acc = (if k = 0 then [] else if k = 1 then L else L ++ R) /\ OwnRc w.heap.size w wr h acc)) (fun _ _ i _ => 2 - (intOf i).toNat)
   case atStart => exact ⟨0, h3, [], Nat.zero_le _, rfl, rfl, HN3.out, rfl, HO3.out⟩
   case round =>
    clear HO3 HN3
    obtain ⟨k, h, acc, hk, rfl, rfl, H⟩ := hrel
    rename World => w4
    have d0 : w4.cell? ⟨gb, 0, none⟩ = some (.slice ao n cap) := by rw [H.out.2.2.below.cell (World.block_lt_of_cell? _ _ HC0.out)]; exact HC0.out
    have d1 : w4.cell? ⟨gb, 1, none⟩ = some (.slice bo m cap') := by rw [H.out.2.2.below.cell (World.block_lt_of_cell? _ _ HC1.out)]; exact HC1.out
    by_cases h2 : k = 2
    ·subst h2
     have HF : Hid (h.n = n + m /\ OwnRc w.heap.size w w4 h (L ++ R)) := by
      obtain ⟨q1, q2, q3⟩ := H.out
      simp at q1 q2
      rw [q2] at q3
      exact ⟨q1, q3⟩
     clear d0 d1
     go_wp2_with fail
     go_ret
     exact ⟨h, rfl, HF.out.1, HF.out.2⟩
    ·by_cases h1 : k = 1
     ·subst h1
      obtain ⟨q1, q2, q3⟩ := H.out
      simp at q1 q2
      obtain ⟨h5, w5, ha5, n5, O5, -⟩ := q3.appAll bo m cap' R (HR.out.below q3.below) HBb.out (fun r hr => farH_of q3 (HR.out.ok r hr).1) (by omega)
      have HA5 : Hid ((Builtin.append_ #[22, 22] 22 #[.slice h.o h.n h.c, .slice bo m cap']).run Tryz.prog w4 = .ok (.slice h5.o h5.n h5.c) w5) := ha5
      have HN : Hid (h5.n = n + m /\ OwnRc w.heap.size w w5 h5 (L ++ R)) := ⟨by omega, by rw [<- q2]; exact O5⟩
      clear ha5 n5 O5 q1 q2 q3
      go_wp2_with (at_builtin; refine seq_appM rfl (.tmp 31) (.tmp 32) rfl rfl rfl HA5.out ?_)
      go_roundw
      case rel => exact ⟨1 + 1, h5, L ++ R, by omega, rfl, by go_num, by simp; exact HN.out.1, by simp, HN.out.2⟩
      case measure => simp [intOf]
     ·obtain rfl : k = 0 := by omega
      obtain ⟨q1, q2, q3⟩ := H.out
      simp at q1 q2
      obtain ⟨h5, w5, ha5, n5, O5, -⟩ := q3.appAll ao n cap L (HS.out.below q3.below) HA.out (fun r hr => farH_of q3 (HS.out.ok r hr).1) (by omega)
      have HA5 : Hid ((Builtin.append_ #[22, 22] 22 #[.slice h.o h.n h.c, .slice ao n cap]).run Tryz.prog w4 = .ok (.slice h5.o h5.n h5.c) w5) := ha5
      have HN : Hid (h5.n = n /\ OwnRc w.heap.size w w5 h5 L) := ⟨by omega, by rw [q2, List.nil_append] at O5; exact O5⟩
      clear ha5 n5 O5 q1 q2 q3
      go_wp2_with (at_builtin; refine seq_appM rfl (.tmp 31) (.tmp 32) rfl rfl rfl HA5.out ?_)
      go_roundw
      case rel => exact ⟨0 + 1, h5, L, by omega, rfl, by go_num, by simp; exact HN.out.1, by simp, HN.out.2⟩
      case measure => simp [intOf]
  ·by_cases h1 : k = 1
   ·subst h1
    simp at hz
    subst hz
    go_wp2_with fail
    go_roundw
    case rel => exact ⟨1 + 1, z + m, by omega, by go_num, by go_num, rfl, trivial⟩
    case measure => simp [intOf]
   ·obtain rfl : k = 0 := by omega
    simp at hz
    subst hz
    go_wp2_with fail
    go_roundw
    case rel => exact ⟨0 + 1, n, by omega, by go_num, by go_num, rfl, trivial⟩
    case measure => simp [intOf]
end Go.Proofs.YtalcmdjiejhkgaaGreat
