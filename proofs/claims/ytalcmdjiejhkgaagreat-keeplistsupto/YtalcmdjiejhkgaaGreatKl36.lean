/- HWa PLp BFp BCs PVw LView BVc -/
import Derived.Test.YtalcmdjiejhkgaaGreatTk
import Derived.Test.YtalcmdjiejhkgaaGreatKl23
import Derived.Test.YtalcmdjiejhkgaaGreatKl28
import Derived.Test.YtalcmdjiejhkgaaGreatKl32
import Derived.Test.YtalcmdjiejhkgaaGreatKl35
import Derived.Test.YtalcmdjiejhkgaaGreatKl10
import Derived.Test.YtalcmdjiejhkgaaGreatKl21
import Derived.Test.YtalcmdjiejhkgaaGreatKl07
import Derived.Test.YtalcmdjiejhkgaaGreatKl22
import Derived.Test.YtalcmdjiejhkgaaGreatKl00
import Derived.ProofKit
import Derived.OpenShut
import Derived.Lib.SmallJoins
import Derived.HandedShaped
import Derived.SizedLaws
import Derived.ChangeMaps5
import Derived.JoinedCond
import Derived.Test.YtalcmdjiejhkgaaGreatKl17
set_option maxRecDepth 100000
set_option maxHeartbeats 6400000
namespace Go.Proofs.YtalcmdjiejhkgaaGreat
section
open Go.RowKit Go.Maps
open Classical in
noncomputable def waitB (P : Pst) (y : Rp) : Bool := decide (¬ wiP y.2 P)
def WtOf (L : List Rc) (P : Pst) (F : List Rc) : Prop := (∀ r ∈ F, RecOk r) /\ plR F = (plR L).filter (waitB P)
theorem waitB_no {P : Pst} {y : Rp} (h : wiP y.2 P) : waitB P y = false := by unfold waitB; simp [h]
theorem waitB_yes {P : Pst} {y : Rp} (h : ¬ wiP y.2 P) : waitB P y = true := by unfold waitB; simp [h]
structure WtI (L : List Rc) (P : Pst) (k : Nat) (D : List Rc) : Prop where
 ok : ∀ r ∈ D, RecOk r
 eq : plR D = (plR (L.take k)).filter (waitB P)
theorem WtI.start (L : List Rc) (P : Pst) : WtI L P 0 [] := ⟨fun r h => (by cases h), rfl⟩
theorem WtI.skip {L : List Rc} {P : Pst} {k : Nat} {D : List Rc} {r : Rc} (h : WtI L P k D) (hk : k < L.length) (hr : L.getD k rc0 = r) (hw : wiP r.p.P P) : WtI L P (k + 1) D := by
 refine ⟨h.ok, ?_⟩
 rw [plR_take L k hk, hr, List.filter_append, <- h.eq, List.filter_cons_of_neg (by rw [waitB_no (show wiP (r.s, r.p.P).2 P from hw)]; decide), List.filter_nil, List.append_nil]
theorem WtI.add {L : List Rc} {P : Pst} {k : Nat} {D : List Rc} {r c : Rc} (h : WtI L P k D) (hk : k < L.length) (hr : L.getD k rc0 = r) (hw : ¬ wiP r.p.P P) (hc : RecOk c) (e : rck c = rck r) : WtI L P (k + 1) (D ++ [c]) := by
 refine ⟨mem_snoc h.ok hc, ?_⟩
 rw [plR_take L k hk, hr, List.filter_append, <- h.eq, List.filter_cons_of_pos (waitB_yes (show ¬ wiP (r.s, r.p.P).2 P from hw)), List.filter_nil, plR_sn, e]
 rfl
theorem WtI.done {L : List Rc} {P : Pst} {D : List Rc} (h : WtI L P L.length D) : WtOf L P D := ⟨h.ok, by rw [h.eq, List.take_length]⟩
theorem WtOf.one {L : List Rc} {P : Pst} {F G : List Rc} (h : WtOf L P F) (h' : WtOf L P G) : plR F = plR G := h.2.trans h'.2.symm
def WtA (w w' : World) (x : Ending) (L : List Rc) (n : Nat) (P : Pst) : Prop := (OkR L n /\ InForm P /\ ∃ (h : Hs) (F : List Rc), x = .returned (.tuple #[HsV h, .int .i64 0]) /\ GvR w w' h F /\ h.n <= n /\ WtOf L P F) ∨ (¬ (OkR L n /\ InForm P) /\ x = .returned (.tuple #[.slice none 0 0, .int .i64 1]) /\ Below w.heap.size w w')
attribute [local go_sem ↓] ldP_eq stP_eq ldRe_eq stRe_eq
attribute [local go_sem] cells_PV PC_size cells_ReV ReC_size zero_ReC
theorem keepWaits_any (ao : Option Addr) (n ca : Nat) (L : List Rc) (p : Pv) (w : World) (hS : RcT w ao n ca L) (hP : PSrc w p) (hn : n <= 2199023255551) :
  Calls Tryz.prog 9 #[.slice ao n ca, PV p] w fun x w' => WtA w w' x L n p.P := by
 have b1 := below_new w (.cells (PC p) 27)
 have x1 := pbox_new w p
 obtain ⟨wk, hwk⟩ : ∃ w1, w.alloc (.cells (PC p) 27) = w1 := ⟨_, rfl⟩
 obtain ⟨G, hG⟩ : ∃ g1, w.heap.size = g1 := ⟨_, rfl⟩
 rw [hwk] at b1 x1
 rw [hG] at x1
 have HBK := hide b1
 have HX := hide x1
 have HS := hide (hS.below b1)
 have HP := hide (hP.below b1)
 have HLn : Hid (L.length = n) := hS.src.len
 have HN := hide hn
 clear b1 x1 hS hP
 go_enter Tryz.func9, Tryz.ntmps9
 go_wp2_with fail
 clear hwk hG
 refine (keepCheck_any ao n ca L _ HS.out.src).mono ?_
 rintro x w1 ⟨z, rfl, hz, b1⟩
 have HB1 := hide b1
 have lp := run_ldP (HX.out.below b1).at
 clear b1
 rcases hz with ⟨rfl, hO⟩ | ⟨rfl, hO⟩
 rotate_left
 ·have HE : Hid (WtA w w1 (.returned (.tuple #[.slice none 0 0, .int .i64 1])) L n p.P) := .inr ⟨fun h => hO h.1, rfl, HBK.out.trans (HB1.out.mono HBK.out.size)⟩
  clear hO lp
  go_wp2_with fail
  go_ret2
  exact HE.out
 have HO := hide hO
 clear hO
 go_wp2_with fail
 clear lp
 refine (isNormP_any p _ (HP.out.below HB1.out)).mono ?_
 rintro x w0 ⟨b, rfl, hb, b2⟩
 have HB0 := hide (HB1.out.trans (b2.mono HB1.out.size))
 clear b2
 cases b with
 | false =>
  have HE : Hid (WtA w w0 (.returned (.tuple #[.slice none 0 0, .int .i64 1])) L n p.P) := .inr ⟨fun h => (by have := hb.2 h.2; cases this), rfl, HBK.out.trans (HB0.out.mono HBK.out.size)⟩
  clear hb
  go_wp2_with fail
  go_ret2
  exact HE.out
 | true =>
  have HF := hide (hb.1 rfl)
  have HOL := hide (okR_iff.1 (by rw [HLn.out]; exact HO.out) : (∀ r ∈ L, RecOk r) /\ Srt ck (plR L))
  clear hb
  go_wp2_with fail
  go_loopw [6, 8, 19] (fun v _ i wr => ∃ (k : Nat) (h : Hs) (D : List Rc), k <= n /\ v = .slice h.o h.n h.c /\ i = .int .i64 (k : Int) /\ Hid (OwnRc w0.heap.size w0 wr h D /\ WtI L p.P k D /\ (∀ r ∈ D, PNew w0.heap.size r.p) /\ h.n <= k)) (fun _ _ i _ => n - (intOf i).toNat)
  case atStart => exact ⟨0, hs0, [], Nat.zero_le _, rfl, rfl, OwnRc.nil w0, WtI.start L _, fun r hr => (by cases hr), Nat.le_refl _⟩
  case round =>
   obtain ⟨k, h, D, hk, rfl, rfl, HI⟩ := hrel
   rename World => wr
   have HBr : Hid (Below wk.heap.size wk wr) := HB0.out.trans (HI.out.1.below.mono HB0.out.size)
   have hnb := HN.out
   by_cases hlt : k < n
   ·have hlti : (k : Int) < (n : Int) := by omega
    obtain ⟨ad, hao, A0⟩ := (HS.out.below HBr.out).src.at k hlt
    have hOk := (HS.out.below HBr.out).src.okAt k hlt
    obtain ⟨r, Hr⟩ : ∃ r, Hid (L.getD k rc0 = r) := ⟨_, rfl⟩
    rw [Hr.out] at A0 hOk
    have HRo : Hid (RecOk r) := by
     have h := HOL.out.1 _ (rcD_mem (L := L) (j := k) (by rw [HLn.out]; exact hlt))
     rw [Hr.out] at h
     exact h
    subst hao
    have hld := run_laRe A0
    obtain ⟨g7, hg7⟩ : ∃ g7, wr.heap.size = g7 := ⟨_, rfl⟩
    obtain ⟨w7, hst, X7, B7, S7⟩ := madeRe wr (mkR r) g7 hg7
    have HO7 := hide (HI.out.1.later B7)
    have HB7 := hide (HBr.out.trans (B7.mono HBr.out.size))
    have HX7 := hide X7
    have HQ7 := hide (hOk.below B7)
    have lr := run_ldP X7.past
    have lp := run_ldP (HX.out.below HB7.out).at
    have Hlt := hide hlt
    clear A0 X7 B7 S7 hOk hlt hk
    go_wp2_with fail
    clear hst hld hg7 lr lp
    refine (within7_any r.p p _ HQ7.out.1 (HP.out.below HB7.out) HRo.out.2.1 HF.out).mono ?_
    rintro e w8 ⟨b, rfl, hb, b8⟩
    have HO8 := hide (HO7.out.later b8)
    have Hb := hide hb
    have HQ8 := hide (HQ7.out.below b8)
    have l7 := run_ldRe (HX7.out.below b8)
    clear hb b8
    cases b with
    | true =>
     have HN2 : Hid (OwnRc w0.heap.size w0 w8 h D /\ WtI L p.P (k + 1) D /\ (∀ r ∈ D, PNew w0.heap.size r.p) /\ h.n <= k + 1) := ⟨HO8.out, HI.out.2.1.skip (by rw [HLn.out]; exact Hlt.out) Hr.out (Hb.out.1 rfl), HI.out.2.2.1, by have := HI.out.2.2.2; omega⟩
     go_wp2_with fail
     clear l7
     go_roundw
     case rel => exact ⟨k + 1, h, D, Hlt.out, rfl, by simp, HN2.out⟩
     case measure => simp [intOf]; have := Hlt.out; omega
    | false =>
     have Hno : Hid (¬ wiP r.p.P p.P) := fun h => by have := Hb.out.2 h; cases this
     go_wp2_with fail
     clear l7
     refine (copied_any r _ HQ8.out).mono ?_
     rintro e wa ⟨c, rfl, hcs, Rc1, Nc, ba, Cc⟩
     have Oa := HO8.out.later ba
     have hfar : FarH h c.p := fun j hj => PFar.new Nc (HO8.out.own.lt j hj).2
     obtain ⟨gb, cb2, wb, hab, Ob, hkb, hgb, hsb⟩ := Oa.appAt c Rc1 hfar (by have := HI.out.2.2.2; have := HN.out; have := Hlt.out; omega)
     have HAb : Hid ((Builtin.append_ #[22, 22] 22 #[.slice h.o h.n h.c, .slice (some ⟨wa.heap.size, 0, none⟩) 1 1]).run Tryz.prog (wa.alloc (.cells #[.string c.s, .slice c.p.vo c.p.vn c.p.vc, .slice c.p.co c.p.cn c.p.cc] 43)) = .ok (.slice (some ⟨gb, 0, none⟩) (h.n + 1) cb2) wb) := hab
     have e := copy_rck HRo.out hcs Cc
     have HN2 : Hid (OwnRc w0.heap.size w0 wb ⟨some ⟨gb, 0, none⟩, h.n + 1, cb2⟩ (D ++ [c]) /\ WtI L p.P (k + 1) (D ++ [c]) /\ (∀ r ∈ D ++ [c], PNew w0.heap.size r.p) /\ h.n + 1 <= k + 1) := ⟨Ob, HI.out.2.1.add (by rw [HLn.out]; exact Hlt.out) Hr.out Hno.out (recOk_rck HRo.out e) e, mem_snoc HI.out.2.2.1 (Nc.mono HO8.out.below.size), by have := HI.out.2.2.2; omega⟩
     clear hab Ob Oa hfar hcs Rc1 Nc ba Cc hkb hgb hsb e
     go_wp2_with (at_builtin; refine seq_appM rfl (.tmp 28) (.tmp 31) rfl rfl rfl HAb.out ?_)
     go_roundw
     case rel => exact ⟨k + 1, ⟨some ⟨gb, 0, none⟩, h.n + 1, cb2⟩, D ++ [c], Hlt.out, rfl, by simp, HN2.out⟩
     case measure => simp [intOf]; have := Hlt.out; omega
   ·have hlti : ¬ (k : Int) < (n : Int) := by omega
    have HE : Hid (WtA w wr (.returned (.tuple #[.slice h.o h.n h.c, .int .i64 0])) L n p.P) := by
     obtain ⟨q1, q2, q3, q4⟩ := HI.out
     rw [show k = L.length by rw [HLn.out]; omega] at q2
     exact .inl ⟨HO.out, HF.out, h, D, rfl, q1.give (HBK.out.trans (HB0.out.mono HBK.out.size)) q3 (by omega), by omega, q2.done⟩
    clear HI
    go_wp2_with fail
    go_ret2
    exact HE.out
def WrA (w w' : World) (x : Ending) (L : List Rc) (n : Nat) (P : Pst) : Prop := (OkR L n /\ InForm P /\ ∃ (h : Hs) (F : List Rc), x = .returned (.tuple #[HsV h, .int .i64 0]) /\ RcT w' h.o h.n h.c F /\ (∀ ad, h.o = some ad -> w.heap.size <= ad.block) /\ h.n <= n /\ Below w.heap.size w w' /\ WtOf L P F) ∨ (¬ (OkR L n /\ InForm P) /\ x = .returned (.tuple #[.slice none 0 0, .int .i64 1]) /\ Below w.heap.size w w')
theorem refWaits_any (ao : Option Addr) (n ca : Nat) (L : List Rc) (p : Pv) (w : World) (hS : RcT w ao n ca L) (hP : PSrc w p) (hn : n <= 2199023255551) :
  Calls Tryz.prog 10 #[.slice ao n ca, PV p] w fun x w' => WrA w w' x L n p.P := by
 have b1 := below_new w (.cells (PC p) 27)
 have x1 := pbox_new w p
 obtain ⟨wk, hwk⟩ : ∃ w1, w.alloc (.cells (PC p) 27) = w1 := ⟨_, rfl⟩
 obtain ⟨G, hG⟩ : ∃ g1, w.heap.size = g1 := ⟨_, rfl⟩
 rw [hwk] at b1 x1
 rw [hG] at x1
 have HBK := hide b1
 have HX := hide x1
 have HS := hide (hS.below b1)
 have HP := hide (hP.below b1)
 have HLn : Hid (L.length = n) := hS.src.len
 have HN := hide hn
 clear b1 x1 hS hP
 go_enter Tryz.func10, Tryz.ntmps10
 go_wp2_with fail
 clear hwk hG
 refine (refChkR_any ao n ca L _ HS.out.src).mono ?_
 rintro x w1 ⟨z, rfl, hz, b1⟩
 have HB1 := hide b1
 have lp := run_ldP (HX.out.below b1).at
 clear b1
 rcases hz with ⟨rfl, hO⟩ | ⟨rfl, hO⟩
 rotate_left
 ·have HE : Hid (WrA w w1 (.returned (.tuple #[.slice none 0 0, .int .i64 1])) L n p.P) := .inr ⟨fun h => hO h.1, rfl, HBK.out.trans (HB1.out.mono HBK.out.size)⟩
  clear hO lp
  go_wp2_with fail
  go_ret2
  exact HE.out
 have HO := hide hO
 clear hO
 go_wp2_with fail
 clear lp
 refine (refIsNorm_any p _ (HP.out.below HB1.out)).mono ?_
 rintro x w0 ⟨b, rfl, hb, b2⟩
 have HB0 := hide (HB1.out.trans (b2.mono HB1.out.size))
 clear b2
 cases b with
 | false =>
  have HE : Hid (WrA w w0 (.returned (.tuple #[.slice none 0 0, .int .i64 1])) L n p.P) := .inr ⟨fun h => (by have := hb.2 h.2; cases this), rfl, HBK.out.trans (HB0.out.mono HBK.out.size)⟩
  clear hb
  go_wp2_with fail
  go_ret2
  exact HE.out
 | true =>
  have HF := hide (hb.1 rfl)
  have HOL := hide (okR_iff.1 (by rw [HLn.out]; exact HO.out) : (∀ r ∈ L, RecOk r) /\ Srt ck (plR L))
  clear hb
  go_wp2_with fail
  go_loopw [6, 7] (fun v i wr => ∃ (k : Nat) (h : Hs) (D : List Rc), k <= n /\ v = .slice h.o h.n h.c /\ i = .int .i64 (k : Int) /\ Hid (OwnRc w0.heap.size w0 wr h D /\ WtI L p.P k D /\ h.n <= k)) (fun _ i _ => n - (intOf i).toNat)
  case atStart => exact ⟨0, hs0, [], Nat.zero_le _, rfl, rfl, OwnRc.nil w0, WtI.start L _, Nat.le_refl _⟩
  case round =>
   obtain ⟨k, h, D, hk, rfl, rfl, HI⟩ := hrel
   rename World => wr
   have HBr : Hid (Below wk.heap.size wk wr) := HB0.out.trans (HI.out.1.below.mono HB0.out.size)
   have hnb := HN.out
   by_cases hlt : k < n
   ·have hlti : (k : Int) < (n : Int) := by omega
    obtain ⟨ad, hao, A0⟩ := (HS.out.below HBr.out).src.at k hlt
    obtain ⟨r, Hr⟩ : ∃ r, Hid (L.getD k rc0 = r) := ⟨_, rfl⟩
    obtain ⟨b1, o1, rfl⟩ : ∃ b1 o1, ad = ⟨b1, o1, none⟩ := by
     have h := (HS.out.below HBr.out).src
     rw [hao] at h
     exact h.spot (by omega)
    have HRo : Hid (RecOk r) := by
     have h := HOL.out.1 _ (rcD_mem (L := L) (j := k) (by rw [HLn.out]; exact hlt))
     rw [Hr.out] at h
     exact h
    subst hao
    have Hlt := hide hlt
    have HQ : Hid (∀ W, Below wk.heap.size wk W -> RcOk W r /\ ReAt W ⟨b1, o1 + k * 3, none⟩ (mkR r)) := fun W hW => by
     have h1 := (HS.out.below hW).src.okAt k Hlt.out
     have h2 := (HS.out.below hW).src.at_ _ rfl k Hlt.out
     rw [Hr.out] at h1 h2
     rw [Addr.add_lit] at h2
     exact ⟨h1, h2⟩
    have HSt : Hid (∀ W, Below wk.heap.size wk W -> (ldP (.pointer (some ⟨b1, o1 + k * 3 + 1, none⟩))).run Tryz.prog W = .ok (PV r.p) W /\ (ldP (.pointer (some ⟨G, 0, none⟩))).run Tryz.prog W = .ok (PV p) W) := fun W hW => ⟨run_ldP (HQ.out W hW).2.flat.2, run_ldP (HX.out.below hW).at⟩
    have HBd := hide (HBr.out.trans ((below_drew1 wr).mono HBr.out.size))
    clear A0 hlt hk
    go_upto_region 7 with fail
    refine wp_region_held_drew (S := fun W => (ldP (.pointer (some ⟨b1, o1 + k * 3 + 1, none⟩))).run Tryz.prog W = .ok (PV r.p) W /\ (ldP (.pointer (some ⟨G, 0, none⟩))).run Tryz.prog W = .ok (PV p) W) (by kernel_rfl) (HSt.out _ HBd.out) (fun hHeld => ?_)
    refine wTk 0 ⟨some 22, .move (.tmp 0), 22, "ref.go:162", #[], none⟩ rfl ?_
    refine wTk 1 ⟨some 23, .move (.tmp 7), 3, "ref.go:162", #[], none⟩ rfl ?_
    refine wTk 2 ⟨some 24, .indexAddr 22 (.tmp 22) (.tmp 23), 0, "ref.go:162", #[⟨0, .data⟩, ⟨1, .data⟩], none⟩ rfl ?_
    refine wTk 3 ⟨some 25, .fieldAddr 43 (.tmp 24) 1, 0, "ref.go:162", #[⟨2, .data⟩], none⟩ rfl ?_
    refine wTk 4 ⟨some 26, .load 27 (.tmp 25), 27, "ref.go:162", #[⟨3, .data⟩], none⟩ rfl ?_
    refine wTk 5 ⟨some 27, .load 27 (.tmp 3), 27, "ref.go:162", #[], none⟩ rfl ?_
    refine wpAnyH_ready (rs := [6]) (by kernel_rfl) (by simp) (.cons rfl (fun K hK => ?_) .nil)
    go_simp
    go_wp2_with fail
    refine (refWithin_any r.p p _ (HQ.out _ HBd.out).1.1 (HP.out.below HBd.out)).mono ?_
    rintro x w8 ⟨b, rfl, hb, b8⟩
    have Hb : Hid (b = true ↔ wiP r.p.P p.P) := hb
    have HB8 := hide (HBd.out.trans (b8.mono HBd.out.size))
    have b8 := hide b8
    refine hK.out _ _ (HSt.out _ HB8.out) (fun hHeld => ?_)
    clear hK K hb HB8
    refine wTk 7 ⟨some 29, .unOp .not 4 (.tmp 28), 4, "ref.go:162", #[⟨6, .data⟩], none⟩ rfl ?_
    refine wpAnyH_done (by kernel_rfl) ?_ _
    clear hHeld
    have HO8 := hide (HI.out.1.later ((below_drew1 wr).trans b8.out))
    cases b with
    | true =>
     have HN2 : Hid (OwnRc w0.heap.size w0 w8 h D /\ WtI L p.P (k + 1) D /\ h.n <= k + 1) := ⟨HO8.out, HI.out.2.1.skip (by rw [HLn.out]; exact Hlt.out) Hr.out (Hb.out.1 rfl), by have := HI.out.2.2; omega⟩
     go_wp2_with fail
     go_roundw
     case rel => exact ⟨k + 1, h, D, Hlt.out, rfl, by simp, HN2.out⟩
     case measure => simp [intOf]; have := Hlt.out; omega
    | false =>
     have Hno : Hid (¬ wiP r.p.P p.P) := fun h => by have := Hb.out.2 h; cases this
     have HB8 := hide (HBd.out.trans (b8.out.mono HBd.out.size))
     have la := run_laRe (HQ.out _ HB8.out).2
     obtain ⟨gb, cb2, wb, hab, Ob, hkb, hgb, hsb⟩ := HO8.out.appAt r (HQ.out _ HB8.out).1 (farH_of HO8.out ((HQ.out w0 HB0.out).1.1)) (by have := HI.out.2.2; have := HN.out; have := Hlt.out; omega)
     have HAb : Hid ((Builtin.append_ #[22, 22] 22 #[.slice h.o h.n h.c, .slice (some ⟨w8.heap.size, 0, none⟩) 1 1]).run Tryz.prog (w8.alloc (.cells #[.string r.s, .slice r.p.vo r.p.vn r.p.vc, .slice r.p.co r.p.cn r.p.cc] 43)) = .ok (.slice (some ⟨gb, 0, none⟩) (h.n + 1) cb2) wb) := hab
     have HN2 : Hid (OwnRc w0.heap.size w0 wb ⟨some ⟨gb, 0, none⟩, h.n + 1, cb2⟩ (D ++ [r]) /\ WtI L p.P (k + 1) (D ++ [r]) /\ h.n + 1 <= k + 1) := ⟨Ob, HI.out.2.1.add (by rw [HLn.out]; exact Hlt.out) Hr.out Hno.out HRo.out rfl, by have := HI.out.2.2; omega⟩
     clear hab Ob hkb hgb hsb
     go_wp2_with (at_builtin; refine seq_appM rfl (.tmp 30) (.tmp 35) rfl rfl rfl HAb.out ?_)
     clear la
     go_roundw
     case rel => exact ⟨k + 1, ⟨some ⟨gb, 0, none⟩, h.n + 1, cb2⟩, D ++ [r], Hlt.out, rfl, by simp, HN2.out⟩
     case measure => simp [intOf]; have := Hlt.out; omega
   ·have hlti : ¬ (k : Int) < (n : Int) := by omega
    have HE : Hid (WrA w wr (.returned (.tuple #[.slice h.o h.n h.c, .int .i64 0])) L n p.P) := by
     obtain ⟨q1, q2, q3⟩ := HI.out
     rw [show k = L.length by rw [HLn.out]; omega] at q2
     obtain ⟨r1, r2, r3⟩ := ownRc_row q1 (by omega)
     have hb := HBK.out.trans (HB0.out.mono HBK.out.size)
     exact .inl ⟨HO.out, HF.out, h, D, rfl, r1, fun ad e => Nat.le_trans hb.size (r2 ad e), by omega, hb.trans (r3.mono hb.size), q2.done⟩
    clear HI
    go_wp2_with fail
    go_ret2
    exact HE.out
end
section
open Go.RowKit

def mP (P : Pst) : Nat -> Int -> Prop := fun r n => mem (runsAt P r) n
def mOr (M M' : Nat -> Int -> Prop) : Nat -> Int -> Prop := fun r n => M r n ∨ M' r n
def mAnd (M M' : Nat -> Int -> Prop) : Nat -> Int -> Prop := fun r n => M r n /\ M' r n
def mNot (M M' : Nat -> Int -> Prop) : Nat -> Int -> Prop := fun r n => M r n /\ ¬ M' r n
def IsP (M : Nat -> Int -> Prop) (P : Pst) : Prop := ∃ C, CanonOf C P /\ ∀ r, r < 16 -> ∀ n, mem (C r) n ↔ M r n
def Eqv (M M' : Nat -> Int -> Prop) : Prop := ∀ r, r < 16 -> ∀ n, M r n ↔ M' r n
theorem IsP.len {M : Nat -> Int -> Prop} {P : Pst} (h : IsP M P) : P.cloud.length <= 8000000016 := by
 obtain ⟨C, hC, _⟩ := h
 exact (canon_len hC).1
theorem isP_minus {a b : Pst} {P : Pst} (h : ∃ C : Nat -> List Rn, (∀ r, r < 16 -> MinusOf (runsAt a r) (runsAt b r) (C r)) /\ CanonOf C P) : IsP (mNot (mP a) (mP b)) P := by
 obtain ⟨C, hM, hC⟩ := h
 exact ⟨C, hC, fun r hr n => (hM r hr).2 n⟩
def SzP (M : Nat -> Int -> Prop) (z : Int) : Prop := ∃ N, (∀ r, r < 16 -> form 1 (N r) /\ ∀ n, Go.Proofs.YtalcmdjiejhkgaaGreat.mem (N r) n ↔ M r n) /\ z = sumZ N 16
theorem SzP.none : SzP (fun _ _ => False) 0 := ⟨fun _ => [], fun _ _ => ⟨trivial, fun n => ⟨fun h => mem_nil n h, fun h => h.elim⟩⟩, by decide⟩
end
section
open Go.RowKit Go.Maps Go.Sort
theorem OwnRc.setOther {B : Nat} {w W : World} {h : Hs} {L : List Rc} (O : OwnRc B w W h L) (g : Nat) (cs : Array Value) (hg : w.heap.size <= g) (hne : (HsV h).ownBlock ≠ some g) (hf : ∀ r ∈ L, PFar r.p g) : OwnRc B w (W.setRow g cs) h L := by
 have hs : (W.setRow g cs).heap.size = W.heap.size := by simp [World.setRow]
 have hk : ∀ q, q < W.heap.size -> some q ≠ some g -> (W.setRow g cs).heap[q]? = W.heap[q]? := fun q _ hq => setRow_other _ _ _ _ (fun e => hq (by rw [e]))
 have hG : W.grownBy (W.setRow g cs) (some g) := ⟨rfl, rfl, rfl, by omega, hk⟩
 exact ⟨O.own.kept hG (.inr hne), fun r hr => ⟨⟨psrc_keep (O.ok r hr).1.1 (fun k e => by obtain rfl := Option.some.inj e; exact hf r hr) hk, (O.ok r hr).1.2⟩, (O.ok r hr).2⟩, below_setRow O.below hg, O.hB.1, by have := O.hB.2; omega⟩
def ofS (R : List Rc) (s : ByteArray) : List Pv := (R.filter (fun r => decide (r.s = s))).map (fun r => r.p)
theorem ofS_len (R : List Rc) (s : ByteArray) : (ofS R s).length <= R.length := by unfold ofS; rw [List.length_map]; exact List.length_filter_le _ _
theorem ofS_snoc (R : List Rc) (r : Rc) (s : ByteArray) : pvs (ofS (R ++ [r]) s) = if s = r.s then pvs (ofS R s) ++ (PC r.p).toList else pvs (ofS R s) := by
 unfold ofS
 rw [List.filter_append, List.map_append, pvs_append]
 by_cases h : s = r.s
 ·subst h; simp [pvs_one]
 ·have h' : ¬ r.s = s := fun e => h e.symm
  simp [h, h', pvs]
theorem ofS_mem {R : List Rc} {s : ByteArray} {p : Pv} : p ∈ ofS R s ↔ ∃ r ∈ R, r.s = s /\ r.p = p := by
 unfold ofS
 rw [List.mem_map]
 constructor
 ·rintro ⟨r, hr, rfl⟩
  have := List.mem_filter.1 hr
  exact ⟨r, this.1, by simpa using this.2, rfl⟩
 ·rintro ⟨r, hr, hs, rfl⟩
  exact ⟨r, List.mem_filter.2 ⟨hr, by simpa using hs⟩, rfl⟩
theorem runsOf_mem (X : List Pv) (r : Nat) (n : Int) : mem (runsOf X r) n ↔ ∃ p ∈ X, mem (runsAt p.P r) n := by
 induction X with
 | nil => simp [runsOf, mem]
 | cons p X ih =>
  have e : runsOf (p :: X) r = runsAt p.P r ++ runsOf X r := rfl
  rw [e, mem_append, ih]
  simp
def nilF : ByteArray := ⟨#[]⟩
def FoldM (R : List Rc) (s : ByteArray) (r : Nat) (n : Int) : Prop := (∃ x ∈ R, x.s = s /\ mem (runsAt x.p.P r) n) /\ (s ≠ nilF -> ¬ ∃ x ∈ R, x.s = nilF /\ mem (runsAt x.p.P r) n)
theorem join_all {R : List Rc} {s : ByteArray} {P : Pst} (h : CanonOf (runsOf (ofS R s)) P) (r : Nat) (hr : r < 16) (n : Int) : mem (runsAt P r) n ↔ ∃ x ∈ R, x.s = s /\ mem (runsAt x.p.P r) n := by
 rw [canon_mem h r hr n, runsOf_mem]
 constructor
 ·rintro ⟨p, hp, hm⟩
  obtain ⟨x, hx, hs, rfl⟩ := ofS_mem.1 hp
  exact ⟨x, hx, hs, hm⟩
 ·rintro ⟨x, hx, hs, hm⟩
  exact ⟨x.p, ofS_mem.2 ⟨x, hx, hs, rfl⟩, hm⟩
theorem fold_nil {R : List Rc} {P : Pst} (h : CanonOf (runsOf (ofS R nilF)) P) : IsP (FoldM R nilF) P :=
 ⟨_, h, fun r hr n => by
  rw [<- canon_mem h r hr n, join_all h r hr n]
  exact ⟨fun h => ⟨h, fun e => absurd rfl e⟩, fun h => h.1⟩⟩
theorem fold_sku {R : List Rc} {s : ByteArray} {P A M : Pst} (hs : s ≠ nilF) (h : CanonOf (runsOf (ofS R s)) P) (ha : CanonOf (runsOf (ofS R nilF)) A) (hm : ∃ C : Nat -> List Rn, (∀ r, r < 16 -> MinusOf (runsAt P r) (runsAt A r) (C r)) /\ CanonOf C M) : IsP (FoldM R s) M := by
 obtain ⟨C, hC, hI⟩ := isP_minus hm
 refine ⟨C, hC, fun r hr n => (hI r hr n).trans ?_⟩
 show mem (runsAt P r) n /\ ¬ mem (runsAt A r) n ↔ _
 rw [join_all h r hr n, join_all ha r hr n]
 exact ⟨fun h => ⟨h.1, fun _ => h.2⟩, fun h => ⟨h.1, h.2 hs⟩⟩
def FoldOf (R F : List Rc) : Prop := F.Pairwise (fun a b => cmpS a.s b.s < 0) /\ (∀ x ∈ F, (∃ r ∈ R, r.s = x.s) /\ IsP (FoldM R x.s) x.p.P /\ ¬ EmptyP x.p.P) /\ ∀ s, (∃ r ∈ R, r.s = s) -> (∀ x ∈ F, x.s ≠ s) -> ∀ r, r < 16 -> ∀ n, ¬ FoldM R s r n
def FPre (R : List Rc) (T : List (List UInt8)) (F : List Rc) : Prop := (F.map (fun x => x.s.data.toList)).Sublist T /\ (∀ x ∈ F, IsP (FoldM R x.s) x.p.P /\ ¬ EmptyP x.p.P) /\ ∀ t ∈ T, (∀ x ∈ F, x.s ≠ ⟨t.toArray⟩) -> ∀ r, r < 16 -> ∀ n, ¬ FoldM R ⟨t.toArray⟩ r n
theorem FPre.start (R : List Rc) : FPre R [] [] := ⟨List.Sublist.refl _, fun x h => (by cases h), fun t h => (by cases h)⟩
theorem FPre.skip {R F : List Rc} {T : List (List UInt8)} (h : FPre R T F) (t : List UInt8) (he : ∀ r, r < 16 -> ∀ n, ¬ FoldM R ⟨t.toArray⟩ r n) : FPre R (T ++ [t]) F := by
 refine ⟨h.1.trans (List.sublist_append_left _ _), h.2.1, fun u hu hn => ?_⟩
 rcases List.mem_append.1 hu with hu | hu
 ·exact h.2.2 u hu hn
 ·obtain rfl : u = t := by simpa using hu
  exact he
theorem FPre.add {R F : List Rc} {T : List (List UInt8)} (h : FPre R T F) (t : List UInt8) (x : Rc) (hx : x.s = ⟨t.toArray⟩) (hI : IsP (FoldM R x.s) x.p.P) (hE : ¬ EmptyP x.p.P) : FPre R (T ++ [t]) (F ++ [x]) := by
 refine ⟨?_, fun y hy => ?_, fun u hu hn => ?_⟩
 ·rw [List.map_append]
  refine h.1.append ?_
  simp [hx]
 ·rcases List.mem_append.1 hy with hy | hy
  ·exact h.2.1 y hy
  ·obtain rfl : y = x := by simpa using hy
   exact ⟨hI, hE⟩
 ·rcases List.mem_append.1 hu with hu | hu
  ·exact h.2.2 u hu (fun y hy => hn y (List.mem_append_left _ hy))
  ·obtain rfl : u = t := by simpa using hu
   exact absurd hx (hn x (by simp))
theorem FPre.done {R F : List Rc} {T : List (List UInt8)} (h : FPre R T F) (hT : T.Pairwise (fun a b => Lib.compareBytes a b < 0)) (hK : ∀ t, t ∈ T ↔ ∃ r ∈ R, r.s = ⟨t.toArray⟩) : FoldOf R F := by
 refine ⟨List.pairwise_map.1 (hT.sublist h.1), fun x hx => ⟨?_, h.2.1 x hx⟩, fun s hs hn => ?_⟩
 ·have := (hK x.s.data.toList).1 (h.1.subset (List.mem_map.2 ⟨x, hx, rfl⟩))
  simpa using this
 ·have hm : s.data.toList ∈ T := (hK _).2 (by simpa using hs)
  have := h.2.2 _ hm (by simpa using hn)
  simpa using this
end
section
open Go.RowKit
variable {w w' W : World} {g : Nat}
structure Ks where
 ro : Option Addr
 rn : Nat
 rc : Nat
 qo : Option Addr
 qn : Nat
 qc : Nat
 ao : Option Addr
 an : Nat
 ac : Nat
 bo : Option Addr
 bn : Nat
 bc : Nat
 p : Pv
 o : Pv
def KsC (m : Ks) : Array Value := #[.slice m.ro m.rn m.rc, .slice m.qo m.qn m.qc, .slice m.ao m.an m.ac, .slice m.bo m.bn m.bc, .slice m.p.vo m.p.vn m.p.vc, .slice m.p.co m.p.cn m.p.cc, .slice m.o.vo m.o.vn m.o.vc, .slice m.o.co m.o.cn m.o.cc]
abbrev KsV (m : Ks) : Value := .agg (KsC m)
theorem KsC_size (m : Ks) : (KsC m).size = 8 := rfl
theorem cells_KsV (m : Ks) : (KsV m).cells = KsC m := by simp [Value.cells]
def KsBox (w : World) (g : Nat) (m : Ks) : Prop := w.heap[g]? = some (.cells (KsC m) 29 (0, 0))
theorem KsBox.lt {m : Ks} (h : KsBox w g m) : g < w.heap.size := (Array.getElem?_eq_some_iff.1 h).1
theorem KsBox.below {m : Ks} (h : KsBox w g m) (hb : Below w.heap.size w w') : KsBox w' g m := (hb.block g h.lt).trans h
theorem KsBox.r {m : Ks} (h : KsBox w g m) : w.cell? ⟨g, 0, none⟩ = some (.slice m.ro m.rn m.rc) := by unfold KsBox at h; simp [World.cell?, h, KsC]
theorem KsBox.q {m : Ks} (h : KsBox w g m) : w.cell? ⟨g, 1, none⟩ = some (.slice m.qo m.qn m.qc) := by unfold KsBox at h; simp [World.cell?, h, KsC]
theorem KsBox.a {m : Ks} (h : KsBox w g m) : w.cell? ⟨g, 2, none⟩ = some (.slice m.ao m.an m.ac) := by unfold KsBox at h; simp [World.cell?, h, KsC]
theorem KsBox.b {m : Ks} (h : KsBox w g m) : w.cell? ⟨g, 3, none⟩ = some (.slice m.bo m.bn m.bc) := by unfold KsBox at h; simp [World.cell?, h, KsC]
theorem KsBox.p {m : Ks} (h : KsBox w g m) : PAt w ⟨g, 4, none⟩ m.p := ⟨by unfold KsBox at h; simp [World.cell?, h, KsC], by rw [Addr.add_lit]; unfold KsBox at h; simp [World.cell?, h, KsC]⟩
theorem KsBox_new (w : World) (m : Ks) : KsBox (w.alloc (.cells (KsC m) 29)) w.heap.size m := by unfold KsBox; rw [heap_alloc_new]
def RSm (R : List Rc) : Prop := R.length <= 209716 /\ ∀ r ∈ R, r.p.P.cloud.length <= 1048576
structure KsS (w : World) (m : Ks) (R Q : List Rc) (A B : List K.En) : Prop where
 r : RcS w m.ro m.rn m.rc R
 q : RcS w m.qo m.qn m.qc Q
 a : K.ESrc w m.ao m.an m.ac A
 b : K.ESrc w m.bo m.bn m.bc B
 p : PSrc w m.p
 o : PSrc w m.o
 sr : RSm R
 sq : RSm Q
 sa : m.an <= 1048576
 sb : m.bn <= 1048576
theorem wt_le (X : List Pv) (c : Nat) (h : ∀ p ∈ X, p.P.cloud.length <= c) : wt X <= X.length * (c + 1) := by
 induction X with
 | nil => exact Nat.zero_le _
 | cons p X ih =>
  have h1 := ih (fun q hq => h q (List.mem_cons_of_mem _ hq))
  have h2 := h p List.mem_cons_self
  simp only [wt, List.length_cons]
  rw [Nat.add_mul]
  omega
theorem RSm.wt {R : List Rc} (h : RSm R) (s : ByteArray) : wt (ofS R s) <= 8796093022207 := by
 have h1 := wt_le (ofS R s) 1048576 (fun p hp => by obtain ⟨r, hr, -, rfl⟩ := ofS_mem.1 hp; exact h.2 r hr)
 have h2 := ofS_len R s
 have h3 := h.1
 have h4 : (ofS R s).length * (1048576 + 1) <= 209716 * (1048576 + 1) := Nat.mul_le_mul_right _ (by omega)
 omega
structure BKc (w W : World) (G : Nat) (m : Ks) : Prop where
 box : KsBox W G m
 bel : Below w.heap.size w W
theorem BKc.below {W' : World} {G : Nat} {m : Ks} (h : BKc w W G m) (b : Below W.heap.size W W') : BKc w W' G m := ⟨h.box.below b, h.bel.trans (b.mono h.bel.size)⟩
end
section
open Go.ChangeShapes Go.WideShapes Go.ChangeAt Go.RowKit Go.Joins

theorem own : ownKnob Tryz.prog.godebug = none := by kernel_rfl
theorem laidOut : laidOutB Tryz.prog = true := by kernel_rfl
theorem cellsS : Tryz.prog.cellsOf 45 = 3 := by kernel_rfl
theorem cellsI : Tryz.prog.cellsOf 3 = 1 := by kernel_rfl
theorem cellsP : Tryz.prog.cellsOf 27 = 2 := by kernel_rfl
theorem cellsV : Tryz.prog.cellsOf 24 = 1 := by kernel_rfl
theorem cellsC : Tryz.prog.cellsOf 25 = 1 := by kernel_rfl
theorem bulk_pos {H : Type} (d : DataW H) : 1 <= Rows.uptoBulk d := by
 cases d with
 | lit l => cases l <;> simp only [Rows.uptoBulk] <;> omega
 | _ => simp only [Rows.uptoBulk] <;> omega
theorem bulk_len {H : Type} : ∀ (l : List (DataW H)), l.length <= Rows.uptoBulkAll l
 | [] => by simp
 | d :: l => by have := bulk_len l; have := bulk_pos d; simp only [Rows.uptoBulkAll, List.length_cons]; omega
theorem list2 {α : Type} {l : List α} (h : l.length = 2) : ∃ a b, l = [a, b] := by
 match l, h with
 | [a, b], _ => exact ⟨a, b, rfl⟩
theorem list3 {α : Type} {l : List α} (h : l.length = 3) : ∃ a b c, l = [a, b, c] := by
 match l, h with
 | [a, b, c], _ => exact ⟨a, b, c, rfl⟩
theorem open_span {H : Type} {enc : TypeId × Value -> H} {w : World} {base : Nat} {spare : Nat -> Bool} {held : Bool} {fuel : Nat} {cs : List Value} {x : DataW H × List MemPlace}
  (h : DataW.trod enc Tryz.prog w base spare held fuel 45 cs = some x) : ∃ e : Sn, cs = (SC e).toList := by
 obtain ⟨xs, m, _, hx, hcl, hxl, hf⟩ := DataW.trod_struct Tryz.underlying45 h
 obtain ⟨v0, v1, v2, rfl⟩ := list3 (hcl.trans cellsS)
 obtain ⟨y0, y1, y2, rfl⟩ := list3 hxl
 have t0 := hf 0 _ rfl
 have t1 := hf 1 _ rfl
 have t2 := hf 2 _ rfl
 simp [cellsI] at t0 t1 t2
 obtain ⟨r, e0, -, _⟩ := DataW.trod_int Tryz.underlying3 t0
 obtain ⟨n, e1, -, _⟩ := DataW.trod_int Tryz.underlying3 t1
 obtain ⟨m', e2, -, _⟩ := DataW.trod_int Tryz.underlying3 t2
 simp only [List.cons.injEq, and_true] at e0 e1 e2
 subst e0 e1 e2
 exact ⟨⟨r, n, m'⟩, rfl⟩
theorem viewI {H : Type} {enc : TypeId × Value -> H} {W : World} {fuel : Nat} {v : Value} {x : DataW H × List MemPlace}
  (h : DataW.trod enc Tryz.prog W 0 (fun _ => true) true fuel 24 [v] = some x) (hw : Rows.uptoBulk x.1 <= 1048576) : ∃ (ao : Option Addr) (n cap : Nat) (Z : List Int), v = .slice ao n cap /\ V.Src W ao n cap Z /\ n <= 1048576 := by
 rcases DataW.trod_slice Tryz.underlying24 h with h0 | ⟨a, len, cap, elems, rest, n, _, hcs, hx, hb, hl, hm, hlen, hel, hsp, hns⟩
 ·have e : v = .slice none 0 0 := by simpa using h0.1
  exact ⟨none, 0, 0, [], e, ⟨rfl, fun _ => ⟨rfl, rfl⟩, fun ad h => (by cases h)⟩, Nat.zero_le _⟩
 ·subst hx
  have e : v = .slice (some a) len cap := by simpa using hcs
  simp only [Rows.uptoBulk] at hw
  have h1 := bulk_len (elems.map (·.1))
  simp only [List.length_map] at h1
  have key : ∀ i, i < len -> ∃ z : Int, W.cell? (a.add i) = some (.int .i64 z) := by
   intro i hi
   have he := hel i hi
   obtain ⟨y, hy⟩ : ∃ y, elems[i]? = some y := ⟨_, List.getElem?_eq_getElem (by omega)⟩
   rw [hy, cellsI, Option.bind_eq_some_iff] at he
   obtain ⟨cs', hcs, hy'⟩ := he
   obtain ⟨hl', -, hce⟩ := World.cells?_some hcs
   obtain ⟨z, rfl, -, _⟩ := DataW.trod_int Tryz.underlying3 hy'
   have g0 := hce 0 (by omega)
   rw [add_zero, Nat.mul_one] at g0
   exact ⟨z, g0⟩
  refine ⟨some a, len, cap, (List.range len).map fun i => if h : i < len then Classical.choose (key i h) else 0, e, ⟨by simp, fun h => (by cases h), fun ad h t ht => ?_⟩, by omega⟩
  obtain rfl := Option.some.inj h
  have : ((List.range len).map fun i => if h : i < len then Classical.choose (key i h) else 0).getD t 0 = Classical.choose (key t ht) := by simp [List.getD, ht]
  rw [this]
  exact Classical.choose_spec (key t ht)
theorem viewC {H : Type} {enc : TypeId × Value -> H} {W : World} {fuel : Nat} {v : Value} {x : DataW H × List MemPlace}
  (h : DataW.trod enc Tryz.prog W 0 (fun _ => true) true fuel 25 [v] = some x) (hw : Rows.uptoBulk x.1 <= 1048576) : ∃ (ao : Option Addr) (n cap : Nat) (L : List Sn), v = .slice ao n cap /\ SSrc W ao n cap L /\ n <= 1048576 := by
 rcases DataW.trod_slice Tryz.underlying25 h with h0 | ⟨a, len, cap, elems, rest, n, _, hcs, hx, hb, hl, hm, hlen, hel, hsp, hns⟩
 ·have e : v = .slice none 0 0 := by simpa using h0.1
  exact ⟨none, 0, 0, [], e, SSrc.empty _, Nat.zero_le _⟩
 ·subst hx
  have e : v = .slice (some a) len cap := by simpa using hcs
  simp only [Rows.uptoBulk] at hw
  have h1 := bulk_len (elems.map (·.1))
  simp only [List.length_map] at h1
  have key : ∀ i, i < len -> ∃ e : Sn, SnAt W (a.add (i * 3)) e := by
   intro i hi
   have he := hel i hi
   obtain ⟨y, hy⟩ : ∃ y, elems[i]? = some y := ⟨_, List.getElem?_eq_getElem (by omega)⟩
   rw [hy, cellsS, Option.bind_eq_some_iff] at he
   obtain ⟨cs', hcs, hy'⟩ := he
   obtain ⟨_, -, hce⟩ := World.cells?_some hcs
   obtain ⟨e, rfl⟩ := open_span hy'
   have g0 := hce 0 (by omega)
   rw [add_zero] at g0
   exact ⟨e, ⟨g0, hce 1 (by omega), hce 2 (by omega)⟩⟩
  refine ⟨some a, len, cap, (List.range len).map fun i => if h : i < len then Classical.choose (key i h) else sn0, e, ⟨by simp, fun h => (by cases h), fun ad h t ht => ?_, by omega, hl⟩, by omega⟩
  obtain rfl := Option.some.inj h
  have : ((List.range len).map fun i => if h : i < len then Classical.choose (key i h) else sn0).getD t sn0 = Classical.choose (key t ht) := by simp [List.getD, ht]
  rw [this]
  exact Classical.choose_spec (key t ht)
theorem viewP {H : Type} {enc : TypeId × Value -> H} {W : World} {fuel : Nat} {cs : List Value} {x : DataW H × List MemPlace}
  (h : DataW.trod enc Tryz.prog W 0 (fun _ => true) true fuel 27 cs = some x) (hw : Rows.uptoBulk x.1 <= 1048576) : ∃ p : Pv, cs = [.slice p.vo p.vn p.vc, .slice p.co p.cn p.cc] /\ PSrc W p /\ p.P.cloud.length <= 1048576 := by
 obtain ⟨xs, m, _, hx, hcl, hxl, hf⟩ := DataW.trod_struct Tryz.underlying27 h
 obtain ⟨v0, v1, rfl⟩ := list2 (hcl.trans cellsP)
 obtain ⟨y0, y1, rfl⟩ := list2 hxl
 have t0 := hf 0 _ rfl
 have t1 := hf 1 _ rfl
 simp [cellsV, cellsC] at t0 t1
 subst hx
 simp only [Rows.uptoBulk, List.map_cons, List.map_nil, Rows.uptoBulkAll] at hw
 obtain ⟨a0, l0, c0, Z, rfl, S0, g0⟩ := viewI t0 (by omega)
 obtain ⟨a1, l1, c1, L, rfl, S1, g1⟩ := viewC t1 (by omega)
 exact ⟨⟨a0, l0, c0, a1, l1, c1, ⟨Z, L⟩⟩, rfl, ⟨S0, S1, by show l0 <= _; omega⟩, by show L.length <= _; rw [S1.len]; exact g1⟩
end
end Go.Proofs.YtalcmdjiejhkgaaGreat
namespace Go.Proofs.YtalcmdjiejhkgaaGreat.K
open Go.ChangeShapes Go.WideShapes Go.ChangeAt Go.RowKit Go.Joins

theorem cells28 : Tryz.prog.cellsOf 49 = 4 := by kernel_rfl
theorem cells26 : Tryz.prog.cellsOf 47 = 2 := by kernel_rfl
theorem cells3 : Tryz.prog.cellsOf 3 = 1 := by kernel_rfl
theorem cells9 : Tryz.prog.cellsOf 9 = 1 := by kernel_rfl
theorem list2 {α : Type} {l : List α} (h : l.length = 2) : ∃ a b, l = [a, b] := by
 match l, h with
 | [a, b], _ => exact ⟨a, b, rfl⟩
theorem list3 {α : Type} {l : List α} (h : l.length = 3) : ∃ a b c, l = [a, b, c] := by
 match l, h with
 | [a, b, c], _ => exact ⟨a, b, c, rfl⟩
theorem list4 {α : Type} {l : List α} (h : l.length = 4) : ∃ a b c d, l = [a, b, c, d] := by
 match l, h with
 | [a, b, c, d], _ => exact ⟨a, b, c, d, rfl⟩
theorem open_entry {H : Type} {enc : TypeId × Value -> H} {w : World} {base : Nat} {spare : Nat -> Bool} {held : Bool} {fuel : Nat} {cs : List Value} {x : DataW H × List MemPlace}
  (h : DataW.trod enc Tryz.prog w base spare held fuel 49 cs = some x) : ∃ e : En, cs = (EC e).toList /\ e.sku.size <= maxLen := by
 obtain ⟨xs, m, _, hx, hcl, hxl, hf⟩ := DataW.trod_struct Tryz.underlying49 h
 obtain ⟨v0, v1, v2, v3, rfl⟩ := list4 (hcl.trans cells28)
 obtain ⟨y0, y1, y2, rfl⟩ := list3 hxl
 have t0 := hf 0 _ rfl
 have t1 := hf 1 _ rfl
 have t2 := hf 2 _ rfl
 simp [cells3, cells9, cells26] at t0 t1 t2
 obtain ⟨xs', m', _, hx', hcl', hxl', hf'⟩ := DataW.trod_struct Tryz.underlying47 t0
 obtain ⟨z0, z1, rfl⟩ := list2 hxl'
 have s0 := hf' 0 _ rfl
 have s1 := hf' 1 _ rfl
 simp [cells3] at s0 s1
 obtain ⟨r, e0, -, _⟩ := DataW.trod_int Tryz.underlying3 s0
 obtain ⟨n, e1, -, _⟩ := DataW.trod_int Tryz.underlying3 s1
 obtain ⟨s, e2, -, w2⟩ := DataW.trod_string Tryz.underlying9 t1
 obtain ⟨q, e3, -, _⟩ := DataW.trod_int Tryz.underlying3 t2
 simp only [List.cons.injEq, and_true] at e0 e1 e2 e3
 subst e0 e1 e2 e3
 exact ⟨⟨r, n, s, q⟩, rfl, w2⟩
end Go.Proofs.YtalcmdjiejhkgaaGreat.K
namespace Go.Proofs.YtalcmdjiejhkgaaGreat
open Go.ChangeShapes Go.WideShapes Go.ChangeAt Go.RowKit Go.Joins

theorem cellsRe : Tryz.prog.cellsOf 43 = 3 := by kernel_rfl
theorem cellsSk : Tryz.prog.cellsOf 9 = 1 := by kernel_rfl
theorem cellsEs : Tryz.prog.cellsOf 23 = 1 := by kernel_rfl
theorem cellsRs : Tryz.prog.cellsOf 22 = 1 := by kernel_rfl
theorem cellsKs : Tryz.prog.cellsOf 29 = 8 := by kernel_rfl
theorem bulk_at {H : Type} : ∀ (l : List (DataW H)) (d : DataW H), d ∈ l -> Rows.uptoBulk d <= Rows.uptoBulkAll l
 | e :: l, d, h => by
  simp only [Rows.uptoBulkAll]
  rcases List.mem_cons.1 h with rfl | h
  ·omega
  ·have := bulk_at l d h; omega
theorem bulk_five {H : Type} : ∀ (l : List (DataW H)), (∀ d ∈ l, 5 <= Rows.uptoBulk d) -> 5 * l.length <= Rows.uptoBulkAll l
 | [], _ => by simp
 | d :: l, h => by
  have h1 := bulk_five l (fun e he => h e (List.mem_cons_of_mem _ he))
  have h2 := h d List.mem_cons_self
  simp only [Rows.uptoBulkAll, List.length_cons]; omega
theorem viewEu {H : Type} {enc : TypeId × Value -> H} {W : World} {fuel : Nat} {v : Value} {x : DataW H × List MemPlace}
  (h : DataW.trod enc Tryz.prog W 0 (fun _ => true) true fuel 23 [v] = some x) (hw : Rows.uptoBulk x.1 <= 1048576) : ∃ (ao : Option Addr) (n cap : Nat) (L : List K.En), v = .slice ao n cap /\ K.ESrc W ao n cap L /\ n <= 1048576 := by
 rcases DataW.trod_slice Tryz.underlying23 h with h0 | ⟨a, len, cap, elems, rest, n, _, hcs, hx, hb, hl, hm, hlen, hel, hsp, hns⟩
 ·have e : v = .slice none 0 0 := by simpa using h0.1
  exact ⟨none, 0, 0, [], e, ⟨rfl, fun _ => ⟨rfl, rfl⟩, fun ad h => (by cases h), fun e he => (by cases he), Nat.zero_le _⟩, Nat.zero_le _⟩
 ·subst hx
  have e : v = .slice (some a) len cap := by simpa using hcs
  simp only [Rows.uptoBulk] at hw
  have h1 := bulk_len (elems.map (·.1))
  simp only [List.length_map] at h1
  have key : ∀ i, i < len -> ∃ e : K.En, K.EnAt W (a.add (i * 4)) e /\ e.sku.size <= maxLen := by
   intro i hi
   have he := hel i hi
   obtain ⟨y, hy⟩ : ∃ y, elems[i]? = some y := ⟨_, List.getElem?_eq_getElem (by omega)⟩
   rw [hy, K.cells28, Option.bind_eq_some_iff] at he
   obtain ⟨cs', hcs, hy'⟩ := he
   obtain ⟨_, -, hce⟩ := World.cells?_some hcs
   obtain ⟨e, rfl, hs⟩ := K.open_entry hy'
   have g0 := hce 0 (by omega)
   rw [add_zero] at g0
   exact ⟨e, ⟨g0, hce 1 (by omega), hce 2 (by omega), hce 3 (by omega)⟩, hs⟩
  refine ⟨some a, len, cap, (List.range len).map fun i => if h : i < len then Classical.choose (key i h) else K.en0, e, ⟨by simp, fun h => (by cases h), fun ad h t ht => ?_, fun e he => ?_, by omega⟩, by omega⟩
  ·obtain rfl := Option.some.inj h
   have : ((List.range len).map fun i => if h : i < len then Classical.choose (key i h) else K.en0).getD t K.en0 = Classical.choose (key t ht) := by simp [List.getD, ht]
   rw [this]
   exact (Classical.choose_spec (key t ht)).1
  ·simp only [List.mem_map, List.mem_range] at he
   obtain ⟨i, hi, rfl⟩ := he
   rw [dif_pos hi]
   exact (Classical.choose_spec (key i hi)).2
theorem past_bulk {H : Type} {enc : TypeId × Value -> H} {W : World} {fuel : Nat} {cs : List Value} {x : DataW H × List MemPlace}
  (h : DataW.trod enc Tryz.prog W 0 (fun _ => true) true fuel 27 cs = some x) : 3 <= Rows.uptoBulk x.1 := by
 obtain ⟨xs, m, _, hx, hcl, hxl, hf⟩ := DataW.trod_struct Tryz.underlying27 h
 obtain ⟨y0, y1, rfl⟩ := list2 hxl
 subst hx
 have h0 := bulk_pos y0.1
 have h1 := bulk_pos y1.1
 simp only [Rows.uptoBulk, List.map_cons, List.map_nil, Rows.uptoBulkAll]
 omega
theorem open_recordU {H : Type} {enc : TypeId × Value -> H} {W : World} {fuel : Nat} {cs : List Value} {x : DataW H × List MemPlace}
  (h : DataW.trod enc Tryz.prog W 0 (fun _ => true) true fuel 43 cs = some x) : 5 <= Rows.uptoBulk x.1 /\ (Rows.uptoBulk x.1 <= 1048576 -> ∃ r : Rc, cs = (ReC (mkR r)).toList /\ RcOk W r /\ r.p.P.cloud.length <= 1048576) := by
 obtain ⟨xs, m, _, hx, hcl, hxl, hf⟩ := DataW.trod_struct Tryz.underlying43 h
 obtain ⟨v0, v1, v2, rfl⟩ := list3 (hcl.trans cellsRe)
 obtain ⟨y0, y1, rfl⟩ := list2 hxl
 have t0 := hf 0 _ rfl
 have t1 := hf 1 _ rfl
 simp [cellsP, cellsSk] at t0 t1
 subst hx
 simp only [Rows.uptoBulk, List.map_cons, List.map_nil, Rows.uptoBulkAll]
 have b0 := bulk_pos y0.1
 have b1 := past_bulk t1
 refine ⟨by omega, fun hw => ?_⟩
 obtain ⟨s, e0, -, hs⟩ := DataW.trod_string Tryz.underlying9 t0
 obtain ⟨p, ep, Sp, hl⟩ := viewP t1 (by omega)
 simp only [List.cons.injEq, and_true] at e0 ep
 obtain ⟨rfl, rfl⟩ := ep
 subst e0
 exact ⟨⟨s, p⟩, rfl, ⟨Sp, hs⟩, hl⟩
theorem list6 {α : Type} {l : List α} (h : l.length = 6) : ∃ a b c d e f, l = [a, b, c, d, e, f] := by
 match l, h with
 | [a, b, c, d, e, f], _ => exact ⟨a, b, c, d, e, f, rfl⟩
theorem list8 {α : Type} {l : List α} (h : l.length = 8) : ∃ a b c d e f g i, l = [a, b, c, d, e, f, g, i] := by
 match l, h with
 | [a, b, c, d, e, f, g, i], _ => exact ⟨a, b, c, d, e, f, g, i, rfl⟩
end Go.Proofs.YtalcmdjiejhkgaaGreat
