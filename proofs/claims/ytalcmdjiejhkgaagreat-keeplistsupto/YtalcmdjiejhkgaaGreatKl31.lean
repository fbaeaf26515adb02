/- GKr GKs BRr -/
import Derived.Test.YtalcmdjiejhkgaaGreatTk
import Derived.Test.YtalcmdjiejhkgaaGreatKl22
import Derived.Test.YtalcmdjiejhkgaaGreatKl13
import Derived.Test.YtalcmdjiejhkgaaGreatKl29
import Derived.Test.YtalcmdjiejhkgaaGreatKl30
import Derived.Test.YtalcmdjiejhkgaaGreatKl17
import Derived.Laws.Cover1
set_option maxRecDepth 100000
set_option maxHeartbeats 3200000
namespace Go.Proofs.YtalcmdjiejhkgaaGreat
section
open Go.RowKit
attribute [local go_sem ↓] ldP_eq stP_eq ldRe_eq stRe_eq
attribute [local go_sem] cells_PV PC_size cells_ReV ReC_size
end
section
open Go.RowKit
attribute [local go_sem ↓] ldP_eq stP_eq ldRe_eq stRe_eq
attribute [local go_sem] cells_PV PC_size cells_ReV ReC_size zero_ReC
theorem cmpV_of {P Q : Pst} {z : Int} (h : CmpV P Q z) : CmpOf P Q z := h
theorem cb_less : ∀ x y : List UInt8, Op.bytesLess x y = decide (Lib.compareBytes x y < 0) /\ (x == y) = decide (Lib.compareBytes x y = 0)
 | [], [] => by simp [Op.bytesLess, Lib.compareBytes]
 | [], _ :: _ => by simp [Op.bytesLess, Lib.compareBytes]
 | _ :: _, [] => by simp [Op.bytesLess, Lib.compareBytes]
 | a :: x, b :: y => by
  obtain ⟨h1, h2⟩ := cb_less x y
  by_cases hab : a < b
  ·have hne : a ≠ b := fun e => by subst e; exact absurd hab (UInt8.lt_irrefl a)
   simp [Op.bytesLess, Lib.compareBytes, hab, hne]
  ·by_cases hba : b < a
   ·have hne : a ≠ b := fun e => by subst e; exact absurd hba (UInt8.lt_irrefl a)
    simp [Op.bytesLess, Lib.compareBytes, hab, hba, hne]
   ·have he : a = b := UInt8.le_antisymm (UInt8.not_lt.1 hba) (UInt8.not_lt.1 hab)
    subst he
    have h3 : (a :: x == a :: y) = (x == y) := by simp
    rw [h3, h2]
    simp only [Op.bytesLess, h1, Lib.compareBytes, if_neg hab]
    simp
theorem toL (s : ByteArray) : s.toList = s.data.toList := ByteArray.toList_eq s
theorem str_facts (a b : ByteArray) : Op.bytesLess a.toList b.toList = decide (cmpS a b < 0) /\ (a.toList == b.toList) = decide (cmpS a b = 0) := by
 rw [toL, toL]
 exact cb_less _ _
end
section
open Go.RowKit
attribute [local go_sem ↓] ldP_eq stP_eq ldRe_eq stRe_eq
attribute [local go_sem] cells_PV PC_size cells_ReV ReC_size zero_ReC
theorem refChkRec_any (r : Rc) (w : World) (hR : RcOk w r) : Calls Tryz.prog 39 #[ReV (mkR r)] w fun e w' => GivesK w w' e (RecE r) := by
 have HX := hide (ReBox_new w (mkR r))
 have HBK := hide (below_new w (.cells (ReC (mkR r)) 43))
 have HS := hide (hR.1.below HBK.out)
 have hs := hR.2
 clear hR
 obtain ⟨wk, hwk⟩ : ∃ wk, w.alloc (.cells (ReC (mkR r)) 43) = wk := ⟨_, rfl⟩
 obtain ⟨G, hG⟩ : ∃ G, w.heap.size = G := ⟨_, rfl⟩
 rw [hwk] at HX HBK HS
 rw [hG] at HX
 have c0 := HX.out.sk
 have l1 := run_ldP HX.out.past
 have key : Hid (skuR r.s = true -> Calls Tryz.prog 28 #[PV r.p] wk fun e w' => GivB wk w' e (InForm r.p.P)) := fun _ => refIsNorm_any r.p wk HS.out
 by_cases h0 : r.s.size = 0
 ·have e0 := K.empty_yes r.s h0
  have HR : Hid (skuR r.s = true) := by show _ = _; unfold skuR; rw [decide_eq_true h0, Bool.true_or]
  clear h0
  go_enter Tryz.func39, Tryz.ntmps39
  go_wp2_with fail
  clear hwk
  refine (key.out HR.out).mono ?_
  rintro e w3 ⟨b, rfl, hb, b3⟩
  have HB3 := hide (HBK.out.trans (b3.mono HBK.out.size))
  have HX3 := hide (HX.out.below b3)
  have HS3 := hide (HS.out.below b3)
  clear b3 l1 c0 key
  cases b with
  | false =>
   have HE : Hid (RecE r 1) := .inr (.inl ⟨HR.out, fun h => (by have := hb.out.2 h.1; cases this), rfl⟩)
   clear hb
   go_wp2_with fail
   go_ret
   exact ⟨_, rfl, HE.out, HB3.out⟩
  | true =>
   have HF : Hid (InForm r.p.P) := hb.out.1 rfl
   clear hb
   have l3 := run_ldP HX3.out.past
   go_wp2_with fail
   refine (refEmpty_any r.p _ HS3.out).mono ?_
   rintro e w4 ⟨b, rfl, hb, b4⟩
   have HB4 := hide (HB3.out.trans (b4.mono HB3.out.size))
   clear b4 l3
   cases b with
   | true =>
    have HE : Hid (RecE r 1) := .inr (.inl ⟨HR.out, fun h => h.2 (hb.1 rfl), rfl⟩)
    clear hb
    go_wp2_with fail
    go_ret
    exact ⟨_, rfl, HE.out, HB4.out⟩
   | false =>
    have HE : Hid (RecE r 0) := .inr (.inr ⟨HR.out, ⟨HF.out, fun h => (by have := hb.2 h; cases this)⟩, rfl⟩)
    clear hb
    go_wp2_with fail
    go_ret
    exact ⟨_, rfl, HE.out, HB4.out⟩
 ·have e0 := K.empty_no r.s h0
  have HR : Hid (skuR r.s = K.good r.s.data.toList) := by show _ = _; unfold skuR; rw [decide_eq_false h0, Bool.false_or]
  clear h0
  go_enter Tryz.func39, Tryz.ntmps39
  go_wp2_with fail
  refine (K.refGood_any r.s _ hs).mono ?_
  rintro e w' ⟨rfl, rfl⟩
  cases hg : K.good r.s.data.toList with
  | false =>
   rw [hg] at HR
   have HE : Hid (RecE r 5) := .inl ⟨HR.out, rfl⟩
   clear hg
   go_wp2_with fail
   go_ret
   exact ⟨_, rfl, HE.out, HBK.out⟩
  | true =>
   rw [hg] at HR
   clear hg
   go_wp2_with fail
   clear hwk
   refine (key.out HR.out).mono ?_
   rintro e w3 ⟨b, rfl, hb, b3⟩
   have HB3 := hide (HBK.out.trans (b3.mono HBK.out.size))
   have HX3 := hide (HX.out.below b3)
   have HS3 := hide (HS.out.below b3)
   clear b3 l1 c0 key
   cases b with
   | false =>
    have HE : Hid (RecE r 1) := .inr (.inl ⟨HR.out, fun h => (by have := hb.out.2 h.1; cases this), rfl⟩)
    clear hb
    go_wp2_with fail
    go_ret
    exact ⟨_, rfl, HE.out, HB3.out⟩
   | true =>
    have HF : Hid (InForm r.p.P) := hb.out.1 rfl
    clear hb
    have l3 := run_ldP HX3.out.past
    go_wp2_with fail
    refine (refEmpty_any r.p _ HS3.out).mono ?_
    rintro e w4 ⟨b, rfl, hb, b4⟩
    have HB4 := hide (HB3.out.trans (b4.mono HB3.out.size))
    clear b4 l3
    cases b with
    | true =>
     have HE : Hid (RecE r 1) := .inr (.inl ⟨HR.out, fun h => h.2 (hb.1 rfl), rfl⟩)
     clear hb
     go_wp2_with fail
     go_ret
     exact ⟨_, rfl, HE.out, HB4.out⟩
    | false =>
     have HE : Hid (RecE r 0) := .inr (.inr ⟨HR.out, ⟨HF.out, fun h => (by have := hb.2 h; cases this)⟩, rfl⟩)
     clear hb
     go_wp2_with fail
     go_ret
     exact ⟨_, rfl, HE.out, HB4.out⟩
theorem cb_rng : ∀ x y : List UInt8, Lib.compareBytes x y = -1 ∨ Lib.compareBytes x y = 0 ∨ Lib.compareBytes x y = 1
 | [], [] => by simp [Lib.compareBytes]
 | [], _ :: _ => by simp [Lib.compareBytes]
 | _ :: _, [] => by simp [Lib.compareBytes]
 | a :: x, b :: y => by
  simp only [Lib.compareBytes]
  split
  ·exact .inl rfl
  ·split
   ·exact .inr (.inr rfl)
   ·exact cb_rng x y
theorem refCmpR_any (a b : Rc) (w : World) (hA : RcOk w a) (hB : RcOk w b) : Calls Tryz.prog 40 #[ReV (mkR a), ReV (mkR b)] w fun e w' => GivesK w w' e (CmpR a b) := by
 have b1 := below_new w (.cells (ReC (mkR a)) 43)
 have b2 := below_new (w.alloc (.cells (ReC (mkR a)) 43)) (.cells (ReC (mkR b)) 43)
 have X2 := ReBox_new (w.alloc (.cells (ReC (mkR a)) 43)) (mkR b)
 rw [World.size_alloc] at X2
 have HXA := hide ((ReBox_new w (mkR a)).below b2)
 have HXB := hide X2
 have HBK := hide (b1.trans (b2.mono b1.size))
 have HSA := hide (hA.1.below HBK.out)
 have HSB := hide (hB.1.below HBK.out)
 clear b1 b2 X2 hA hB
 obtain ⟨wk, hwk⟩ : ∃ wk, (w.alloc (.cells (ReC (mkR a)) 43)).alloc (.cells (ReC (mkR b)) 43) = wk := ⟨_, rfl⟩
 obtain ⟨G, hG⟩ : ∃ G, w.heap.size = G := ⟨_, rfl⟩
 rw [hwk] at HXA HXB HBK HSA HSB
 rw [hG] at HXA HXB
 have c1 := HXA.out.sk
 have c2 := HXB.out.sk
 have l1 := run_ldP HXA.out.past
 have l2 := run_ldP HXB.out.past
 have HF1 := hide (str_facts a.s b.s).1
 have HF2 := hide (str_facts a.s b.s).2
 have f4 : cmpS a.s b.s = -1 ∨ cmpS a.s b.s = 0 ∨ cmpS a.s b.s = 1 := cb_rng _ _
 rcases f4 with h | h | h
 ·have HF : Hid (CmpR a b (-1)) := .inl ⟨by rw [h]; decide, h.symm⟩
  have f1 : Op.bytesLess a.s.toList b.s.toList = true := by rw [HF1.out, h]; rfl
  clear h
  go_enter Tryz.func40, Tryz.ntmps40
  go_wp2_with fail
  go_ret
  exact ⟨_, rfl, HF.out, HBK.out⟩
 ·have HZ := hide h
  have f1 : Op.bytesLess a.s.toList b.s.toList = false := by rw [HF1.out, h]; rfl
  have f2 : (a.s.toList == b.s.toList) = true := by rw [HF2.out, h]; rfl
  clear h
  go_enter Tryz.func40, Tryz.ntmps40
  go_wp2_with fail
  clear hwk
  refine (refCompare_any a.p b.p _ HSA.out HSB.out).mono ?_
  rintro e w2 ⟨k, rfl, hk, b2⟩
  have HF : Hid (CmpR a b k /\ Below w.heap.size w w2) := ⟨.inr ⟨HZ.out, cmpV_of hk⟩, HBK.out.trans (b2.mono HBK.out.size)⟩
  clear hk b2 l1 l2
  go_wp2_with fail
  go_ret
  exact ⟨_, rfl, HF.out.1, HF.out.2⟩
 ·have HF : Hid (CmpR a b 1) := .inl ⟨by rw [h]; decide, h.symm⟩
  have f1 : Op.bytesLess a.s.toList b.s.toList = false := by rw [HF1.out, h]; rfl
  have f2 : (a.s.toList == b.s.toList) = false := by rw [HF2.out, h]; rfl
  clear h
  go_enter Tryz.func40, Tryz.ntmps40
  go_wp2_with fail
  go_ret
  exact ⟨_, rfl, HF.out, HBK.out⟩
theorem refChkR_any (ao : Option Addr) (n cap : Nat) (L : List Rc) (w : World) (hS : RcS w ao n cap L) : Calls Tryz.prog 14 #[.slice ao n cap] w fun e w' => GivesK w w' e (ChkR L n) := by
 have HS := hide hS
 have hn := hS.big
 clear hS
 go_enter Tryz.func14, Tryz.ntmps14
 go_wp2_with fail
 go_loopw [3] (fun i wr => ∃ k : Nat, k <= n /\ i = .int .i64 k /\ Hid (OkR L k) /\ Hid (Below w.heap.size w wr)) (fun i _ => n - (intOf i).toNat)
 case atStart => exact ⟨0, Nat.zero_le _, rfl, okR_zero L, Below.refl _ _⟩
 case round =>
  obtain ⟨k, hk, rfl, HK, HB⟩ := hrel
  rename World => wr
  by_cases hlt : k < n
  ·have hlti : (k : Int) < (n : Int) := by omega
   obtain ⟨ad, hao, A0⟩ := (HS.out.below HB.out).at k hlt
   subst hao
   have hld := run_laRe A0
   have HO := hide ((HS.out.below HB.out).okAt k hlt)
   have HSr := hide (HS.out.below HB.out)
   obtain ⟨r, Hr⟩ : ∃ r, Hid (L.getD k rc0 = r) := ⟨_, rfl⟩
   rw [Hr.out] at hld HO A0
   have HA0 := hide A0
   have Hlt := hide hlt
   clear A0
   go_wp2_with fail
   clear hld
   refine (refChkRec_any r _ HO.out).mono ?_
   rintro e w1 ⟨x, rfl, hx, b1⟩
   have HB1 := hide (HB.out.trans (b1.mono HB.out.size))
   have HSr1 := hide (HSr.out.below b1)
   have HA1 := hide (HA0.out.on b1)
   have HO1 := hide (HO.out.below b1)
   clear b1 HSr HA0 HO
   by_cases hx0 : x = 0
   ·obtain rfl := hx0
    have HOk : Hid (RecOk (L.getD k rc0)) := by rw [Hr.out]; exact hx.zero.1 rfl
    clear hx
    by_cases hk0 : k = 0
    ·have hk1 : decide ((0 : Int) < (k : Int)) = false := by rw [decide_eq_false_iff_not]; omega
     have hk2 : decide (0 < k) = false := by rw [decide_eq_false_iff_not]; omega
     have HK0 := hide hk0
     clear hk0
     go_upto_region 6 with fail
     refine wp_region_held_drew (S := fun _ => True) (by kernel_rfl) (trivial) (fun hHeld => ?_)
     refine wTk 0 ⟨some 16, .move (.tmp 3), 3, "ref.go:64", #[], none⟩ rfl ?_
     refine wTk 1 ⟨some 17, .binOp .gtr 3 (.tmp 16) (.const (.int .i64 0)) 3, 4, "ref.go:64", #[⟨0, .data⟩], none⟩ rfl ?_
     refine wTk 2 ⟨some 18, .move (.tmp 17), 4, "ref.go:64", #[⟨1, .data⟩], none⟩ rfl ?_
     refine wSk 3 ⟨some 19, .move (.tmp 0), 22, "ref.go:64", #[⟨2, .guard⟩], some (2, true)⟩ rfl ?_
     refine wSk 4 ⟨some 20, .move (.tmp 3), 3, "ref.go:64", #[⟨2, .guard⟩], some (2, true)⟩ rfl ?_
     refine wSk 5 ⟨some 21, .binOp .sub 3 (.tmp 20) (.const (.int .i64 1)) 3, 3, "ref.go:64", #[⟨4, .data⟩, ⟨2, .guard⟩], some (2, true)⟩ rfl ?_
     refine wSk 6 ⟨some 22, .indexAddr 22 (.tmp 19) (.tmp 21), 0, "ref.go:64", #[⟨3, .data⟩, ⟨5, .data⟩, ⟨2, .guard⟩], some (2, true)⟩ rfl ?_
     refine wSk 7 ⟨some 23, .load 43 (.tmp 22), 43, "ref.go:64", #[⟨6, .data⟩, ⟨2, .guard⟩], some (2, true)⟩ rfl ?_
     refine wSk 8 ⟨some 24, .move (.tmp 0), 22, "ref.go:64", #[⟨2, .guard⟩], some (2, true)⟩ rfl ?_
     refine wSk 9 ⟨some 25, .move (.tmp 3), 3, "ref.go:64", #[⟨2, .guard⟩], some (2, true)⟩ rfl ?_
     refine wSk 10 ⟨some 26, .indexAddr 22 (.tmp 24) (.tmp 25), 0, "ref.go:64", #[⟨8, .data⟩, ⟨9, .data⟩, ⟨2, .guard⟩], some (2, true)⟩ rfl ?_
     refine wSk 11 ⟨some 27, .load 43 (.tmp 26), 43, "ref.go:64", #[⟨10, .data⟩, ⟨2, .guard⟩], some (2, true)⟩ rfl ?_
     refine wSk 12 ⟨some 28, .call ⟨.value (.func 40), #[.tmp 23, .tmp 27], #[43, 43]⟩, 3, "ref.go:64", #[⟨7, .data⟩, ⟨11, .data⟩, ⟨2, .chain⟩, ⟨2, .guard⟩], some (2, true)⟩ rfl ?_
     refine wSk 13 ⟨some 29, .binOp .geq 3 (.tmp 28) (.const (.int .i64 0)) 3, 4, "ref.go:64", #[⟨12, .data⟩, ⟨2, .guard⟩], some (2, true)⟩ rfl ?_
     refine wTk 14 ⟨some 30, .pick (.tmp 18) (.tmp 29) (.const (.bool false)), 4, "ref.go:64", #[⟨2, .data⟩, ⟨13, .data⟩], none⟩ rfl ?_
     refine wpAnyH_done (by kernel_rfl) ?_ _
     clear hHeld
     go_wp2_with fail
     go_roundw
     case rel => exact ⟨k + 1, by omega, by simp, HK.out.snoc HOk.out (fun h => absurd h (by have := HK0.out; omega)), HB1.out.trans ((below_drew1 w1).mono HB1.out.size)⟩
     case measure => simp [intOf]; omega
    ·obtain ⟨j, Hj⟩ : ∃ j, Hid (k = j + 1) := ⟨k - 1, (show k = k - 1 + 1 by omega)⟩
     have hjn : j < n := by have := Hj.out; omega
     have hwj : IntKind.i64.wrap ((k : Int) - 1) = (j : Int) := by rw [IntKind.wrap_i64]; have := Hj.out; omega
     have hk1 : decide ((0 : Int) < (k : Int)) = true := by rw [decide_eq_true_iff]; omega
     have hk2 : decide (0 < k) = true := by rw [decide_eq_true_iff]; omega
     obtain ⟨ad', e', Aj⟩ := HSr1.out.at j hjn
     obtain rfl := Option.some.inj e'
     have HOj := hide (HSr1.out.okAt j hjn)
     obtain ⟨q, Hq⟩ : ∃ q, Hid (L.getD j rc0 = q) := ⟨_, rfl⟩
     rw [Hq.out] at Aj HOj
     have HAj := hide Aj
     clear Aj e'
     go_upto_region 6 with fail
     refine wp_region_held_drew (S := fun v => (ldRe (.pointer (some (ad.add (k * 3))))).run Tryz.prog v = .ok (.agg (ReC (mkR r))) v /\ (ldRe (.pointer (some (ad.add (j * 3))))).run Tryz.prog v = .ok (.agg (ReC (mkR q))) v) (by kernel_rfl) (⟨run_laRe (HA1.out.on (below_drew1 w1)), run_laRe (HAj.out.on (below_drew1 w1))⟩) (fun hHeld => ?_)
     refine wTk 0 ⟨some 16, .move (.tmp 3), 3, "ref.go:64", #[], none⟩ rfl ?_
     refine wTk 1 ⟨some 17, .binOp .gtr 3 (.tmp 16) (.const (.int .i64 0)) 3, 4, "ref.go:64", #[⟨0, .data⟩], none⟩ rfl ?_
     refine wTk 2 ⟨some 18, .move (.tmp 17), 4, "ref.go:64", #[⟨1, .data⟩], none⟩ rfl ?_
     refine wTk 3 ⟨some 19, .move (.tmp 0), 22, "ref.go:64", #[⟨2, .guard⟩], some (2, true)⟩ rfl ?_
     refine wTk 4 ⟨some 20, .move (.tmp 3), 3, "ref.go:64", #[⟨2, .guard⟩], some (2, true)⟩ rfl ?_
     refine wTk 5 ⟨some 21, .binOp .sub 3 (.tmp 20) (.const (.int .i64 1)) 3, 3, "ref.go:64", #[⟨4, .data⟩, ⟨2, .guard⟩], some (2, true)⟩ rfl ?_
     refine wTk 6 ⟨some 22, .indexAddr 22 (.tmp 19) (.tmp 21), 0, "ref.go:64", #[⟨3, .data⟩, ⟨5, .data⟩, ⟨2, .guard⟩], some (2, true)⟩ rfl ?_
     refine wTk 7 ⟨some 23, .load 43 (.tmp 22), 43, "ref.go:64", #[⟨6, .data⟩, ⟨2, .guard⟩], some (2, true)⟩ rfl ?_
     refine wTk 8 ⟨some 24, .move (.tmp 0), 22, "ref.go:64", #[⟨2, .guard⟩], some (2, true)⟩ rfl ?_
     refine wTk 9 ⟨some 25, .move (.tmp 3), 3, "ref.go:64", #[⟨2, .guard⟩], some (2, true)⟩ rfl ?_
     refine wTk 10 ⟨some 26, .indexAddr 22 (.tmp 24) (.tmp 25), 0, "ref.go:64", #[⟨8, .data⟩, ⟨9, .data⟩, ⟨2, .guard⟩], some (2, true)⟩ rfl ?_
     refine wTk 11 ⟨some 27, .load 43 (.tmp 26), 43, "ref.go:64", #[⟨10, .data⟩, ⟨2, .guard⟩], some (2, true)⟩ rfl ?_
     refine wpAnyH_ready (rs := [12]) (by kernel_rfl) (by simp) (.cons rfl (fun K hK => ?_) .nil)
     go_simp
     go_wp2_with fail
     refine (refCmpR_any q r _ (HOj.out.below (below_drew1 w1)) (HO1.out.below (below_drew1 w1))).mono ?_
     rintro e w3 ⟨z, rfl, hz, b3⟩
     have hB3 : Below w1.heap.size w1 w3 := (below_drew1 w1).trans b3
     have HB3 := hide hB3
     refine hK.out _ _ (⟨run_laRe (HA1.out.on (hB3)), run_laRe (HAj.out.on (hB3))⟩) (fun hHeld => ?_)
     clear hK K b3
     by_cases hz0 : (0 : Int) <= z
     ·have hzb : decide (0 <= z) = true := decide_eq_true hz0
      have HNo : Hid (¬ OkR L n) := fun h => by
       have h2 := (h k Hlt.out).2 (by have := Hj.out; omega)
       rw [show k - 1 = j by have := Hj.out; omega, Hr.out, Hq.out] at h2
       obtain ⟨z2, h3, h4⟩ := h2
       have := hz.unique h3
       omega
      clear hz hz0
      refine wTk 13 ⟨some 29, .binOp .geq 3 (.tmp 28) (.const (.int .i64 0)) 3, 4, "ref.go:64", #[⟨12, .data⟩, ⟨2, .guard⟩], some (2, true)⟩ rfl ?_
      refine wTk 14 ⟨some 30, .pick (.tmp 18) (.tmp 29) (.const (.bool false)), 4, "ref.go:64", #[⟨2, .data⟩, ⟨13, .data⟩], none⟩ rfl ?_
      refine wpAnyH_done (by kernel_rfl) ?_ _
      clear hHeld
      go_wp2_with fail
      go_ret
      exact ⟨_, rfl, .inr ⟨rfl, HNo.out⟩, HB1.out.trans (HB3.out.mono HB1.out.size)⟩
     ·have hzb : decide (0 <= z) = false := decide_eq_false hz0
      have HLt : Hid (0 < k -> LtR (L.getD (k - 1) rc0) (L.getD k rc0)) := fun _ => by
       rw [show k - 1 = j by have := Hj.out; omega, Hr.out, Hq.out]
       exact ⟨z, hz, by omega⟩
      clear hz hz0
      refine wTk 13 ⟨some 29, .binOp .geq 3 (.tmp 28) (.const (.int .i64 0)) 3, 4, "ref.go:64", #[⟨12, .data⟩, ⟨2, .guard⟩], some (2, true)⟩ rfl ?_
      refine wTk 14 ⟨some 30, .pick (.tmp 18) (.tmp 29) (.const (.bool false)), 4, "ref.go:64", #[⟨2, .data⟩, ⟨13, .data⟩], none⟩ rfl ?_
      refine wpAnyH_done (by kernel_rfl) ?_ _
      clear hHeld
      go_wp2_with fail
      go_roundw
      case rel => exact ⟨k + 1, by omega, by simp, HK.out.snoc HOk.out HLt.out, HB1.out.trans (HB3.out.mono HB1.out.size)⟩
      case measure => simp [intOf]; omega
   ·have HNo : Hid (¬ OkR L n) := fun h => hx0 (hx.zero.2 (by have := (h k Hlt.out).1; rw [Hr.out] at this; exact this))
    have hxb : (x != 0) = true := by simpa using hx0
    clear hx hx0
    go_wp2_with fail
    go_ret
    exact ⟨_, rfl, .inr ⟨rfl, HNo.out⟩, HB1.out⟩
  ·obtain rfl : k = n := by omega
   go_wp2_with fail
   go_ret
   exact ⟨_, rfl, .inl ⟨rfl, HK.out⟩, HB.out⟩
end
end Go.Proofs.YtalcmdjiejhkgaaGreat
