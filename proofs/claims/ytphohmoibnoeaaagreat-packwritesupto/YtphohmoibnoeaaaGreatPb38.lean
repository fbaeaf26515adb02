/- GKr GKs IQr -/
import Derived.Test.YtphohmoibnoeaaaGreatTk
import Derived.Test.YtphohmoibnoeaaaGreatPb29
import Derived.Test.YtphohmoibnoeaaaGreatPb14
import Derived.Test.YtphohmoibnoeaaaGreatPb36
import Derived.Test.YtphohmoibnoeaaaGreatPb37
import Derived.Test.YtphohmoibnoeaaaGreatPb22
import Derived.Laws.Cover1
import Derived.Deep.CutRange
namespace Go.Proofs.YtphohmoibnoeaaaGreat
open Go.RowKit
attribute [local go_sem ↓] ldP_eq stP_eq ldRe_eq stRe_eq
attribute [local go_sem] cells_PV PC_size cells_ReV ReC_size

end Go.Proofs.YtphohmoibnoeaaaGreat
namespace Go.Proofs.YtphohmoibnoeaaaGreat
open Go.RowKit
attribute [local go_sem ↓] ldP_eq stP_eq ldRe_eq stRe_eq
attribute [local go_sem] cells_PV PC_size cells_ReV ReC_size zero_ReC

theorem cmpV_of {P Q : Pst} {z : Int} (h : CmpV P Q z) : CmpOf P Q z := h
theorem cb_less : ∀ x y : List UInt8, Op.bytesLess x y = decide (Lib.compareBytes x y < 0) ∧ (x == y) = decide (Lib.compareBytes x y = 0)
 | [], [] => by simp [Op.bytesLess, Lib.compareBytes]
 | [], _ :: _ => by simp [Op.bytesLess, Lib.compareBytes]
 | _ :: _, [] => by simp [Op.bytesLess, Lib.compareBytes]
 | a :: x, b :: y => by
  obtain ⟨h1, h2⟩ := cb_less x y
  by_cases hab : a < b
  ·have hne : a ≠ b := fun e => by subst e; exact absurd hab (UInt8.lt_irrefl a)
   simp [Op.bytesLess, Lib.compareBytes, hab, hne]
  ·by_cases hba : b < a
   ·have hne : a ≠ b := fun e => by subst e; exact absurd hba (UInt8.lt_irrefl a)
    simp [Op.bytesLess, Lib.compareBytes, hab, hba, hne]
   ·have he : a = b := UInt8.le_antisymm (UInt8.not_lt.1 hba) (UInt8.not_lt.1 hab)
    subst he
    have h3 : (a :: x == a :: y) = (x == y) := by simp
    rw [h3, h2]
    simp only [Op.bytesLess, h1, Lib.compareBytes, if_neg hab]
    simp
theorem toL (s : ByteArray) : s.toList = s.data.toList := ByteArray.toList_eq s
theorem str_facts (a b : ByteArray) : Op.bytesLess a.toList b.toList = decide (cmpS a b < 0) ∧ (a.toList == b.toList) = decide (cmpS a b = 0) := by
 rw [toL, toL]
 exact cb_less _ _
end Go.Proofs.YtphohmoibnoeaaaGreat
namespace Go.Proofs.YtphohmoibnoeaaaGreat
open Go.RowKit
attribute [local go_sem ↓] ldP_eq stP_eq ldRe_eq stRe_eq
attribute [local go_sem] cells_PV PC_size cells_ReV ReC_size zero_ReC

theorem cb_range : ∀ x y : List UInt8, Lib.compareBytes x y = -1 ∨ Lib.compareBytes x y = 0 ∨ Lib.compareBytes x y = 1
 | [], [] => by simp [Lib.compareBytes]
 | [], _ :: _ => by simp [Lib.compareBytes]
 | _ :: _, [] => by simp [Lib.compareBytes]
 | a :: x, b :: y => by
  have := cb_range x y
  simp only [Lib.compareBytes]
  split
  ·simp
  ·split
   ·simp
   ·exact this
set_option maxRecDepth 100000 in
theorem refCheckRecord7_any (r : Rc) (w : World) (hR : RcOk w r) : Calls Tryz.prog 51 #[ReV (mkR r)] w fun e w' => GivesK w w' e (RecE r) := by
 have HX := hide (ReBox_new w (mkR r))
 have HBK := hide (below_new w (.cells (ReC (mkR r)) 61))
 have HS := hide (hR.1.below HBK.out)
 have hs := hR.2
 clear hR
 obtain ⟨wk, hwk⟩ : ∃ wk, w.alloc (.cells (ReC (mkR r)) 61) = wk := ⟨_, rfl⟩
 obtain ⟨G, hG⟩ : ∃ G, w.heap.size = G := ⟨_, rfl⟩
 rw [hwk] at HX HBK HS
 rw [hG] at HX
 have c0 := HX.out.sk
 have l1 := run_ldP HX.out.past
 have HI := hide (refIsNorm_any r.p wk HS.out)
 by_cases h0 : r.s.size = 0
 ·have e0 := K.empty_yes r.s h0
  have HR : Hid (skuR r.s = true) := by show _ = _; unfold skuR; rw [decide_eq_true h0, Bool.true_or]
  clear h0
  go_enter Tryz.func51, Tryz.ntmps51
  go_wp2_with fail
  clear hwk
  refine HI.out.mono ?_
  rintro e w3 ⟨b, rfl, hb, b3⟩
  have HB3 := hide (HBK.out.trans (b3.mono HBK.out.size))
  have HX3 := hide (HX.out.below b3)
  have HS3 := hide (HS.out.below b3)
  clear b3 l1 c0 HI hG
  cases b with
  | false =>
   have HN : Hid (RecE r 1) := .inr (.inl ⟨HR.out, (fun h => by have := hb.2 h.1; cases this), rfl⟩)
   clear hb
   go_wp2_with fail
   go_ret
   exact ⟨_, rfl, HN.out, HB3.out⟩
  | true =>
   have HF : Hid (InForm r.p.P) := hb.1 rfl
   clear hb
   have l3 := run_ldP HX3.out.past
   go_wp2_with fail
   refine (refEmpty_any r.p _ HS3.out).mono ?_
   rintro e w4 ⟨b, rfl, hb, b4⟩
   have HB4 := hide (HB3.out.trans (b4.mono HB3.out.size))
   cases b with
   | false =>
    have HN : Hid (RecE r 0) := .inr (.inr ⟨HR.out, ⟨HF.out, (fun h => by have := hb.2 h; cases this)⟩, rfl⟩)
    clear b4 l3 hb
    go_wp2_with fail
    go_ret
    exact ⟨_, rfl, HN.out, HB4.out⟩
   | true =>
    have HN : Hid (RecE r 1) := .inr (.inl ⟨HR.out, fun h => h.2 (hb.1 rfl), rfl⟩)
    clear b4 l3 hb
    go_wp2_with fail
    go_ret
    exact ⟨_, rfl, HN.out, HB4.out⟩
 ·have e0 := K.empty_no r.s h0
  go_enter Tryz.func51, Tryz.ntmps51
  go_wp2_with fail
  refine (K.refGood_any r.s _ hs).mono ?_
  rintro e w' ⟨rfl, rfl⟩
  cases hg : K.good r.s.data.toList with
  | false =>
   have HN : Hid (RecE r 5) := .inl ⟨by unfold skuR; rw [decide_eq_false h0, hg]; rfl, rfl⟩
   have HBz := hide HBK.out
   clear hg h0
   go_wp2_with fail
   go_ret
   exact ⟨_, rfl, HN.out, by have h := HBz.out; first | exact h | (rw [hG] at h; exact h)⟩
  | true =>
   have HR : Hid (skuR r.s = true) := by show _ = _; unfold skuR; rw [hg, Bool.or_true]
   clear hg h0
   go_wp2_with fail
   refine HI.out.mono ?_
   rintro e w3 ⟨b, rfl, hb, b3⟩
   have HB3 := hide (HBK.out.trans (b3.mono HBK.out.size))
   have HX3 := hide (HX.out.below b3)
   have HS3 := hide (HS.out.below b3)
   clear b3 l1 c0 HI hG
   cases b with
   | false =>
    have HN : Hid (RecE r 1) := .inr (.inl ⟨HR.out, (fun h => by have := hb.2 h.1; cases this), rfl⟩)
    clear hb
    go_wp2_with fail
    go_ret
    exact ⟨_, rfl, HN.out, HB3.out⟩
   | true =>
    have HF : Hid (InForm r.p.P) := hb.1 rfl
    clear hb
    have l3 := run_ldP HX3.out.past
    go_wp2_with fail
    refine (refEmpty_any r.p _ HS3.out).mono ?_
    rintro e w4 ⟨b, rfl, hb, b4⟩
    have HB4 := hide (HB3.out.trans (b4.mono HB3.out.size))
    cases b with
    | false =>
     have HN : Hid (RecE r 0) := .inr (.inr ⟨HR.out, ⟨HF.out, (fun h => by have := hb.2 h; cases this)⟩, rfl⟩)
     clear b4 l3 hb
     go_wp2_with fail
     go_ret
     exact ⟨_, rfl, HN.out, HB4.out⟩
    | true =>
     have HN : Hid (RecE r 1) := .inr (.inl ⟨HR.out, fun h => h.2 (hb.1 rfl), rfl⟩)
     clear b4 l3 hb
     go_wp2_with fail
     go_ret
     exact ⟨_, rfl, HN.out, HB4.out⟩
set_option maxRecDepth 100000 in
set_option maxHeartbeats 1600000 in
theorem refCompare7_any (a b : Rc) (w : World) (hA : RcOk w a) (hB : RcOk w b) : Calls Tryz.prog 52 #[ReV (mkR a), ReV (mkR b)] w fun e w' => GivesK w w' e (CmpR a b) := by
 have b1 := below_new w (.cells (ReC (mkR a)) 61)
 have x1 := ReBox_new w (mkR a)
 have s1 := World.size_alloc w (.cells (ReC (mkR a)) 61)
 obtain ⟨g1, hg1⟩ : ∃ g1, w.heap.size = g1 := ⟨_, rfl⟩
 obtain ⟨w1, hw1⟩ : ∃ w1, w.alloc (.cells (ReC (mkR a)) 61) = w1 := ⟨_, rfl⟩
 rw [hw1] at b1 x1 s1
 have b2 := below_new w1 (.cells (ReC (mkR b)) 61)
 have x2 := ReBox_new w1 (mkR b)
 obtain ⟨w2, hw2⟩ : ∃ w2, w1.alloc (.cells (ReC (mkR b)) 61) = w2 := ⟨_, rfl⟩
 rw [hw2] at b2 x2
 rw [s1] at x2
 rw [hg1] at x1 x2 s1
 have hb := b1.trans (b2.mono b1.size)
 have c1 := (x1.below b2).sk
 have c2 := x2.sk
 have l1 := run_ldP (x1.below b2).past
 have l2 := run_ldP x2.past
 have HC := hide (refCompare_any a.p b.p w2 (hA.1.below hb) (hB.1.below hb))
 have HB := hide hb
 have f1 := (str_facts a.s b.s).1
 have f2 := (str_facts a.s b.s).2
 have hr : cmpS a.s b.s = -1 ∨ cmpS a.s b.s = 0 ∨ cmpS a.s b.s = 1 := cb_range _ _
 clear hA hB b1 b2 x1 x2 hb
 rcases hr with h | h | h
 ·rw [h] at f1 f2
  have f1 : Op.bytesLess a.s.toList b.s.toList = true := f1
  have HF : Hid (CmpR a b (-1)) := .inl ⟨by rw [h]; decide, h.symm⟩
  clear h f2
  go_enter Tryz.func52, Tryz.ntmps52
  go_wp2_with fail
  clear hw1 hw2 hg1 s1
  go_ret
  exact ⟨_, rfl, HF.out, HB.out⟩
 ·rw [h] at f1 f2
  have f1 : Op.bytesLess a.s.toList b.s.toList = false := f1
  have f2 : (a.s.toList == b.s.toList) = true := f2
  have HE := hide h
  clear h
  go_enter Tryz.func52, Tryz.ntmps52
  go_wp2_with fail
  clear hw1 hw2 hg1 s1
  refine HC.out.mono ?_
  rintro e w3 ⟨z, rfl, hz, b3⟩
  have HF : Hid (CmpR a b z) := .inr ⟨HE.out, cmpV_of hz⟩
  have HB3 := hide (HB.out.trans (b3.mono HB.out.size))
  clear hz b3
  go_wp2_with fail
  go_ret
  exact ⟨_, rfl, HF.out, HB3.out⟩
 ·rw [h] at f1 f2
  have f1 : Op.bytesLess a.s.toList b.s.toList = false := f1
  have f2 : (a.s.toList == b.s.toList) = false := f2
  have HF : Hid (CmpR a b 1) := .inl ⟨by rw [h]; decide, h.symm⟩
  clear h
  go_enter Tryz.func52, Tryz.ntmps52
  go_wp2_with fail
  clear hw1 hw2 hg1 s1
  go_ret
  exact ⟨_, rfl, HF.out, HB.out⟩
set_option maxRecDepth 100000 in
set_option maxHeartbeats 3200000 in
theorem refCheck7_any (ao : Option Addr) (n cap : Nat) (L : List Rc) (w : World) (hS : RcS w ao n cap L) : Calls Tryz.prog 23 #[.slice ao n cap] w fun e w' => GivesK w w' e (ChkR L n) := by
 have HS := hide hS
 have hn := hS.big
 clear hS
 go_enter Tryz.func23, Tryz.ntmps23
 go_wp2_with fail
 go_loopw [3] (fun i wr => ∃ k : Nat, k ≤ n ∧ i = .int .i64 k ∧ Hid (OkR L k) ∧ Hid (Below w.heap.size w wr)) (fun i _ => n - (intOf i).toNat)
 case atStart => exact ⟨0, Nat.zero_le _, rfl, okR_zero L, Below.refl _ _⟩
 case round =>
  obtain ⟨k, hk, rfl, HK, HB⟩ := hrel
  rename World => wr
  by_cases hlt : k < n
  ·obtain ⟨ad, rfl, A0⟩ := (HS.out.below HB.out).at k hlt
   have hld := run_laRe A0
   have HO := hide ((HS.out.below HB.out).okAt k hlt)
   have HSr := hide (HS.out.below HB.out)
   obtain ⟨r, Hr⟩ : ∃ r, Hid (L.getD k rc0 = r) := ⟨_, rfl⟩
   rw [Hr.out] at hld HO
   clear A0
   have Hlt := hide hlt
   go_wp2_with fail
   refine (refCheckRecord7_any r _ HO.out).mono ?_
   rintro e w1 ⟨b, rfl, hb, b1⟩
   have HB1 := hide (HB.out.trans (b1.mono HB.out.size))
   have HS1 := hide (HSr.out.below b1)
   clear b1 hld HSr HO
   by_cases hb0 : b = 0
   ·subst hb0
    have HOk : Hid (RecOk (L.getD k rc0)) := by rw [Hr.out]; exact hb.zero.1 rfl
    clear hb
    by_cases hk0 : k = 0
    ·have hk1 : decide (0 < k) = false := by rw [decide_eq_false_iff_not]; omega
     have HK0 := hide hk0
     have hk2 : ¬ (0 < k) := by omega
     clear hk0
     go_upto_region 6 with fail
     refine wp_region_held_drew (S := fun _ => True) (by kernel_rfl) (trivial) (fun hHeld => ?_)
     refine wTk 0 ⟨some 16, .move (.tmp 3), 3, "ref.go:64", #[], none⟩ rfl ?_
     refine wTk 1 ⟨some 17, .binOp .gtr 3 (.tmp 16) (.const (.int .i64 0)) 3, 4, "ref.go:64", #[⟨0, .data⟩], none⟩ rfl ?_
     refine wTk 2 ⟨some 18, .move (.tmp 17), 4, "ref.go:64", #[⟨1, .data⟩], none⟩ rfl ?_
     refine wSk 3 ⟨some 19, .move (.tmp 0), 27, "ref.go:64", #[⟨2, .guard⟩], some (2, true)⟩ rfl ?_
     refine wSk 4 ⟨some 20, .move (.tmp 3), 3, "ref.go:64", #[⟨2, .guard⟩], some (2, true)⟩ rfl ?_
     refine wSk 5 ⟨some 21, .binOp .sub 3 (.tmp 20) (.const (.int .i64 1)) 3, 3, "ref.go:64", #[⟨4, .data⟩, ⟨2, .guard⟩], some (2, true)⟩ rfl ?_
     refine wSk 6 ⟨some 22, .indexAddr 27 (.tmp 19) (.tmp 21), 0, "ref.go:64", #[⟨3, .data⟩, ⟨5, .data⟩, ⟨2, .guard⟩], some (2, true)⟩ rfl ?_
     refine wSk 7 ⟨some 23, .load 61 (.tmp 22), 61, "ref.go:64", #[⟨6, .data⟩, ⟨2, .guard⟩], some (2, true)⟩ rfl ?_
     refine wSk 8 ⟨some 24, .move (.tmp 0), 27, "ref.go:64", #[⟨2, .guard⟩], some (2, true)⟩ rfl ?_
     refine wSk 9 ⟨some 25, .move (.tmp 3), 3, "ref.go:64", #[⟨2, .guard⟩], some (2, true)⟩ rfl ?_
     refine wSk 10 ⟨some 26, .indexAddr 27 (.tmp 24) (.tmp 25), 0, "ref.go:64", #[⟨8, .data⟩, ⟨9, .data⟩, ⟨2, .guard⟩], some (2, true)⟩ rfl ?_
     refine wSk 11 ⟨some 27, .load 61 (.tmp 26), 61, "ref.go:64", #[⟨10, .data⟩, ⟨2, .guard⟩], some (2, true)⟩ rfl ?_
     refine wSk 12 ⟨some 28, .call ⟨.value (.func 52), #[.tmp 23, .tmp 27], #[61, 61]⟩, 3, "ref.go:64", #[⟨7, .data⟩, ⟨11, .data⟩, ⟨2, .chain⟩, ⟨2, .guard⟩], some (2, true)⟩ rfl ?_
     refine wSk 13 ⟨some 29, .binOp .geq 3 (.tmp 28) (.const (.int .i64 0)) 3, 4, "ref.go:64", #[⟨12, .data⟩, ⟨2, .guard⟩], some (2, true)⟩ rfl ?_
     refine wTk 14 ⟨some 30, .pick (.tmp 18) (.tmp 29) (.const (.bool false)), 4, "ref.go:64", #[⟨2, .data⟩, ⟨13, .data⟩], none⟩ rfl ?_
     refine wpAnyH_done (by kernel_rfl) ?_ _
     clear hHeld
     go_wp2_with fail
     go_roundw
     case rel => exact ⟨k + 1, by omega, by simp, HK.out.snoc HOk.out (fun h => absurd h (by have := HK0.out; omega)), HB1.out.trans ((below_drew1 w1).mono HB1.out.size)⟩
     case measure => simp [intOf]; omega
    ·obtain ⟨j, Hj⟩ : ∃ j, Hid (k = j + 1) := ⟨k - 1, (show k = k - 1 + 1 by omega)⟩
     have hjn : j < n := by have := Hj.out; omega
     have hwj : IntKind.i64.wrap ((k : Int) - 1) = (j : Int) := by rw [IntKind.wrap_i64]; have := Hj.out; omega
     have hk1 : decide (0 < k) = true := by rw [decide_eq_true_iff]; omega
     have hk2 : 0 < k := by omega
     obtain ⟨ad', e', Aj⟩ := HS1.out.at j hjn
     obtain rfl := Option.some.inj e'
     obtain ⟨ad', e2', Ak⟩ := HS1.out.at k Hlt.out
     obtain rfl := Option.some.inj e2'
     have HOj := hide (HS1.out.okAt j hjn)
     have HOk2 := hide (HS1.out.okAt k Hlt.out)
     obtain ⟨q, Hq⟩ : ∃ q, Hid (L.getD j rc0 = q) := ⟨_, rfl⟩
     rw [Hq.out] at Aj HOj
     rw [Hr.out] at Ak HOk2
     have HAj := hide Aj
     have HAk := hide Ak
     have HLt : Hid (∀ z, CmpR q r z → z < 0 → (0 < k → LtR (L.getD (k - 1) rc0) (L.getD k rc0))) := fun z h1 h2 _ => by
      rw [show k - 1 = j by have := Hj.out; omega, Hr.out, Hq.out]
      exact ⟨z, h1, h2⟩
     have HNo : Hid (∀ z, CmpR q r z → ¬ z < 0 → ¬ OkR L n) := fun z h1 h2 h => by
      have h3 := (h k Hlt.out).2 (by have := Hj.out; omega)
      rw [show k - 1 = j by have := Hj.out; omega, Hr.out, Hq.out] at h3
      obtain ⟨z2, h4, h5⟩ := h3
      have := h1.unique h4
      omega
     clear Aj Ak e' e2' hk0
     go_upto_region 6 with fail
     refine wp_region_held_drew (S := fun v => (ldRe (.pointer (some (ad.add (j * 3))))).run Tryz.prog v = .ok (.agg (ReC (mkR q))) v ∧ (ldRe (.pointer (some (ad.add (k * 3))))).run Tryz.prog v = .ok (.agg (ReC (mkR r))) v) (by kernel_rfl) (⟨run_laRe (HAj.out.on (below_drew1 w1)), run_laRe (HAk.out.on (below_drew1 w1))⟩) (fun hHeld => ?_)
     refine wTk 0 ⟨some 16, .move (.tmp 3), 3, "ref.go:64", #[], none⟩ rfl ?_
     refine wTk 1 ⟨some 17, .binOp .gtr 3 (.tmp 16) (.const (.int .i64 0)) 3, 4, "ref.go:64", #[⟨0, .data⟩], none⟩ rfl ?_
     refine wTk 2 ⟨some 18, .move (.tmp 17), 4, "ref.go:64", #[⟨1, .data⟩], none⟩ rfl ?_
     refine wTk 3 ⟨some 19, .move (.tmp 0), 27, "ref.go:64", #[⟨2, .guard⟩], some (2, true)⟩ rfl ?_
     refine wTk 4 ⟨some 20, .move (.tmp 3), 3, "ref.go:64", #[⟨2, .guard⟩], some (2, true)⟩ rfl ?_
     refine wTk 5 ⟨some 21, .binOp .sub 3 (.tmp 20) (.const (.int .i64 1)) 3, 3, "ref.go:64", #[⟨4, .data⟩, ⟨2, .guard⟩], some (2, true)⟩ rfl ?_
     refine wTk 6 ⟨some 22, .indexAddr 27 (.tmp 19) (.tmp 21), 0, "ref.go:64", #[⟨3, .data⟩, ⟨5, .data⟩, ⟨2, .guard⟩], some (2, true)⟩ rfl ?_
     refine wTk 7 ⟨some 23, .load 61 (.tmp 22), 61, "ref.go:64", #[⟨6, .data⟩, ⟨2, .guard⟩], some (2, true)⟩ rfl ?_
     refine wTk 8 ⟨some 24, .move (.tmp 0), 27, "ref.go:64", #[⟨2, .guard⟩], some (2, true)⟩ rfl ?_
     refine wTk 9 ⟨some 25, .move (.tmp 3), 3, "ref.go:64", #[⟨2, .guard⟩], some (2, true)⟩ rfl ?_
     refine wTk 10 ⟨some 26, .indexAddr 27 (.tmp 24) (.tmp 25), 0, "ref.go:64", #[⟨8, .data⟩, ⟨9, .data⟩, ⟨2, .guard⟩], some (2, true)⟩ rfl ?_
     refine wTk 11 ⟨some 27, .load 61 (.tmp 26), 61, "ref.go:64", #[⟨10, .data⟩, ⟨2, .guard⟩], some (2, true)⟩ rfl ?_
     refine wpAnyH_ready (rs := [12]) (by kernel_rfl) (by simp) (.cons rfl (fun K hK => ?_) .nil)
     go_simp
     go_wp2_with fail
     refine (refCompare7_any q r _ (HOj.out.below (below_drew1 w1)) (HOk2.out.below (below_drew1 w1))).mono ?_
     rintro e w7 ⟨z, rfl, hz, b7⟩
     have hB7 : Below w1.heap.size w1 w7 := (below_drew1 w1).trans b7
     have HB7 := hide (HB1.out.trans (hB7.mono HB1.out.size))
     have HZ := hide hz
     refine hK.out _ _ (⟨run_laRe (HAj.out.on (hB7)), run_laRe (HAk.out.on (hB7))⟩) (fun hHeld => ?_)
     clear hK K hz b7 hB7
     by_cases hz0 : (0 : Int) ≤ z
     ·have HN := hide (HNo.out z HZ.out (by omega))
      refine wTk 13 ⟨some 29, .binOp .geq 3 (.tmp 28) (.const (.int .i64 0)) 3, 4, "ref.go:64", #[⟨12, .data⟩, ⟨2, .guard⟩], some (2, true)⟩ rfl ?_
      refine wTk 14 ⟨some 30, .pick (.tmp 18) (.tmp 29) (.const (.bool false)), 4, "ref.go:64", #[⟨2, .data⟩, ⟨13, .data⟩], none⟩ rfl ?_
      refine wpAnyH_done (by kernel_rfl) ?_ _
      clear hHeld
      go_wp2_with fail
      go_ret
      exact ⟨_, rfl, .inr ⟨rfl, HN.out⟩, HB7.out⟩
     ·have HL := hide (HLt.out z HZ.out (by omega))
      refine wTk 13 ⟨some 29, .binOp .geq 3 (.tmp 28) (.const (.int .i64 0)) 3, 4, "ref.go:64", #[⟨12, .data⟩, ⟨2, .guard⟩], some (2, true)⟩ rfl ?_
      refine wTk 14 ⟨some 30, .pick (.tmp 18) (.tmp 29) (.const (.bool false)), 4, "ref.go:64", #[⟨2, .data⟩, ⟨13, .data⟩], none⟩ rfl ?_
      refine wpAnyH_done (by kernel_rfl) ?_ _
      clear hHeld
      go_wp2_with fail
      go_roundw
      case rel => exact ⟨k + 1, by omega, by simp, HK.out.snoc HOk.out HL.out, HB7.out⟩
      case measure => simp [intOf]; omega
   ·have hb1 : (b != 0) = true := by simpa using hb0
    have HN : Hid (¬ OkR L n) := fun h => by have h1 := (h k Hlt.out).1; rw [Hr.out] at h1; exact hb0 (hb.zero.2 h1)
    clear hb hb0
    go_wp2_with fail
    go_ret
    exact ⟨_, rfl, .inr ⟨rfl, HN.out⟩, HB1.out⟩
  ·obtain rfl : k = n := by omega
   go_wp2_with fail
   go_ret
   exact ⟨_, rfl, .inl ⟨rfl, HK.out⟩, HB.out⟩
end Go.Proofs.YtphohmoibnoeaaaGreat
