/- GKs -/
import Derived.Test.YtcnciccljblkfaaGreatTk
import Derived.Test.YtcnciccljblkfaaGreatEf36
import Derived.Laws.Cover1
namespace Go.Proofs.YtcnciccljblkfaaGreat
open Go.RowKit
attribute [local go_sem ↓] ldP_eq stP_eq ldRe_eq stRe_eq
attribute [local go_sem] cells_PV PC_size cells_ReV ReC_size zero_ReC
theorem cmpV_of {P Q : Pst} {z : Int} (h : CmpV P Q z) : CmpOf P Q z := h
theorem two_recs (w : World) (q r : Rc) (g : Nat) (hg : w.heap.size = g) (ga gb : Nat) (h : (ga = g ∧ gb = g + 1) ∨ (ga = g + 1 ∧ gb = g)) :
  ∃ w5, (stRe (.pointer (some ⟨ga, 0, none⟩)) (.agg (ReC (mkR q)))).run Tryz.prog ((w.alloc (.cells (ReC re0) 52)).alloc (.cells (ReC re0) 52)) = .ok () w5 ∧ Below w.heap.size w w5 ∧
  ∃ w6, (stRe (.pointer (some ⟨gb, 0, none⟩)) (.agg (ReC (mkR r)))).run Tryz.prog w5 = .ok () w6 ∧ ReBox w6 ga (mkR q) ∧ ReBox w6 gb (mkR r) ∧ Below w.heap.size w w6 := by
 subst hg
 have x1 := (ReBox_new w re0).below (below_new _ (.cells (ReC re0) 52))
 have x2 := ReBox_new (w.alloc (.cells (ReC re0) 52)) re0
 rw [World.size_alloc] at x2
 have b0 := (below_new w (.cells (ReC re0) 52)).trans ((below_new _ (.cells (ReC re0) 52)).mono (below_new w (.cells (ReC re0) 52)).size)
 rcases h with ⟨rfl, rfl⟩ | ⟨rfl, rfl⟩
 ·have y2 := (setRow_other _ _ _ _ (show w.heap.size + 1 ≠ w.heap.size by omega) : (World.setRow _ w.heap.size (ReC (mkR q))).heap[w.heap.size + 1]? = _).trans x2
  refine ⟨_, run_stRe x1, below_setRow b0 (Nat.le_refl _), _, run_stRe y2, ?_, ReBox.setRow y2, below_setRow (below_setRow b0 (Nat.le_refl _)) (by omega)⟩
  exact (setRow_other _ _ _ _ (by omega)).trans (ReBox.setRow x1)
 ·have y1 := (setRow_other _ _ _ _ (show w.heap.size ≠ w.heap.size + 1 by omega) : (World.setRow _ (w.heap.size + 1) (ReC (mkR q))).heap[w.heap.size]? = _).trans x1
  refine ⟨_, run_stRe x2, below_setRow b0 (by omega), _, run_stRe y1, ?_, ReBox.setRow y1, below_setRow (below_setRow b0 (by omega)) (Nat.le_refl _)⟩
  exact (setRow_other _ _ _ _ (by omega)).trans (ReBox.setRow x2)
theorem cb_less : ∀ x y : List UInt8, Op.bytesLess x y = decide (Lib.compareBytes x y < 0) ∧ (x == y) = decide (Lib.compareBytes x y = 0)
 | [], [] => by simp [Op.bytesLess, Lib.compareBytes]
 | [], _ :: _ => by simp [Op.bytesLess, Lib.compareBytes]
 | _ :: _, [] => by simp [Op.bytesLess, Lib.compareBytes]
 | a :: x, b :: y => by
  obtain ⟨h1, h2⟩ := cb_less x y
  by_cases hab : a < b
  ·have hne : a ≠ b := fun e => by subst e; exact absurd hab (UInt8.lt_irrefl a)
   simp [Op.bytesLess, Lib.compareBytes, hab, hne]
  ·by_cases hba : b < a
   ·have hne : a ≠ b := fun e => by subst e; exact absurd hba (UInt8.lt_irrefl a)
    simp [Op.bytesLess, Lib.compareBytes, hab, hba, hne]
   ·have he : a = b := UInt8.le_antisymm (UInt8.not_lt.1 hba) (UInt8.not_lt.1 hab)
    subst he
    have h3 : (a :: x == a :: y) = (x == y) := by simp
    rw [h3, h2]
    simp only [Op.bytesLess, h1, Lib.compareBytes, if_neg hab]
    simp
theorem toL (s : ByteArray) : s.toList = s.data.toList := ByteArray.toList_eq s
theorem str_facts (a b : ByteArray) : Op.bytesLess a.toList b.toList = decide (cmpS a b < 0) ∧ (a.toList == b.toList) = decide (cmpS a b = 0) := by
 rw [toL, toL]
 exact cb_less _ _
set_option maxRecDepth 100000 in
set_option maxHeartbeats 3200000 in
theorem refRecords_any (ao : Option Addr) (n cap : Nat) (L : List Rc) (w : World) (hS : RcS w ao n cap L) : Calls Tryz.prog 37 #[.slice ao n cap] w fun e w' => GivB w w' e (OkR L n) := by
 have HS := hide hS
 have hn := hS.big
 clear hS
 go_enter Tryz.func37, Tryz.ntmps37
 go_wp2_with fail
 go_loopw [3] (fun i wr => ∃ k : Nat, k ≤ n ∧ i = .int .i64 k ∧ Hid (OkR L k) ∧ Hid (Below w.heap.size w wr)) (fun i _ => n - (intOf i).toNat)
 case atStart => exact ⟨0, Nat.zero_le _, rfl, okR_zero L, Below.refl _ _⟩
 case round =>
  obtain ⟨k, hk, rfl, HK, HB⟩ := hrel
  rename World => wr
  by_cases hlt : k < n
  ·obtain ⟨ad, rfl, A0⟩ := (HS.out.below HB.out).at k hlt
   have hld := run_laRe A0
   have HO := hide ((HS.out.below HB.out).okAt k hlt)
   have HSr := hide (HS.out.below HB.out)
   obtain ⟨r, Hr⟩ : ∃ r, Hid (L.getD k rc0 = r) := ⟨_, rfl⟩
   rw [Hr.out] at hld HO
   clear A0
   have Hlt := hide hlt
   go_wp2_with fail
   refine (refRecord_any r _ HO.out).mono ?_
   rintro e w1 ⟨b, rfl, hb, b1⟩
   have HB1 := hide (HB.out.trans (b1.mono HB.out.size))
   have HS1 := hide (HSr.out.below b1)
   clear b1 hld HSr HO
   cases b with
   | false =>
    have HN : Hid (¬ OkR L n) := fun h => by have h1 := (h k Hlt.out).1; rw [Hr.out] at h1; have := hb.out.2 h1; cases this
    clear hb
    go_wp2_with fail
    go_ret
    exact ⟨_, rfl, BIf.no HN.out, HB1.out⟩
   | true =>
    have HOk : Hid (RecOk (L.getD k rc0)) := by rw [Hr.out]; exact hb.out.1 rfl
    clear hb
    by_cases hk0 : k = 0
    ·have hk1 : decide (0 < k) = false := by rw [decide_eq_false_iff_not]; omega
     have HK0 := hide hk0
     have hk2 : ¬ (0 < k) := by omega
     clear hk0
     go_wp2_with fail
     go_roundw
     case rel => exact ⟨k + 1, by omega, by simp, HK.out.snoc HOk.out (fun h => absurd h (by have := HK0.out; omega)), HB1.out⟩
     case measure => simp [intOf]; omega
    ·obtain ⟨j, Hj⟩ : ∃ j, Hid (k = j + 1) := ⟨k - 1, (show k = k - 1 + 1 by omega)⟩
     have hjn : j < n := by have := Hj.out; omega
     have hwj : IntKind.i64.wrap ((k : Int) - 1) = (j : Int) := by rw [IntKind.wrap_i64]; have := Hj.out; omega
     have hk1 : decide (0 < k) = true := by rw [decide_eq_true_iff]; omega
     have hk2 : 0 < k := by omega
     obtain ⟨ad', e', Aj⟩ := HS1.out.at j hjn
     obtain rfl := Option.some.inj e'
     obtain ⟨ad', e2', Ak⟩ := HS1.out.at k Hlt.out
     obtain rfl := Option.some.inj e2'
     have HOj := hide (HS1.out.okAt j hjn)
     have HOk2 := hide (HS1.out.okAt k Hlt.out)
     obtain ⟨q, Hq⟩ : ∃ q, Hid (L.getD j rc0 = q) := ⟨_, rfl⟩
     rw [Hq.out] at Aj HOj
     rw [Hr.out] at Ak HOk2
     have HAj := hide Aj
     have HAk := hide Ak
     have HLt : Hid (∀ z, CmpR q r z → z < 0 → (0 < k → LtR (L.getD (k - 1) rc0) (L.getD k rc0))) := fun z h1 h2 _ => by
      rw [show k - 1 = j by have := Hj.out; omega, Hr.out, Hq.out]
      exact ⟨z, h1, h2⟩
     have HNo : Hid (∀ z, CmpR q r z → ¬ z < 0 → ¬ OkR L n) := fun z h1 h2 h => by
      have h3 := (h k Hlt.out).2 (by have := Hj.out; omega)
      rw [show k - 1 = j by have := Hj.out; omega, Hr.out, Hq.out] at h3
      obtain ⟨z2, h4, h5⟩ := h3
      have := h1.unique h4
      omega
     clear Aj Ak e' e2' hk0
     go_wp2_with fail
     refine wp_region_held_drew (S := fun v => (ldRe (.pointer (some (ad.add (j * 3))))).run Tryz.prog v = .ok (.agg (ReC (mkR q))) v ∧ (ldRe (.pointer (some (ad.add (k * 3))))).run Tryz.prog v = .ok (.agg (ReC (mkR r))) v) (by kernel_rfl) (⟨run_laRe (HAj.out.on (below_drew1 w1)), run_laRe (HAk.out.on (below_drew1 w1))⟩) (fun hHeld => ?_)
     have bD := below_drew1 w1
     have eD : w1.drew.heap.size = w1.heap.size := rfl
     obtain ⟨wd, hwd⟩ : ∃ wd, w1.drew = wd := ⟨_, rfl⟩
     rw [hwd] at bD eD hHeld ⊢
     obtain ⟨gd, hgd⟩ : ∃ g, w1.heap.size = g := ⟨_, rfl⟩
     rw [hgd] at eD
     refine wTk 0 ⟨some 20, .move (.tmp 0), 27, "ref.go:203", #[], none⟩ rfl ?_
     refine wTk 1 ⟨some 21, .move (.tmp 3), 3, "ref.go:203", #[], none⟩ rfl ?_
     refine wTk 2 ⟨some 22, .binOp .sub 3 (.tmp 21) (.const (.int .i64 1)) 3, 3, "ref.go:203", #[⟨1, .data⟩], none⟩ rfl ?_
     refine wTk 3 ⟨some 23, .indexAddr 27 (.tmp 20) (.tmp 22), 0, "ref.go:203", #[⟨0, .data⟩, ⟨2, .data⟩], none⟩ rfl ?_
     refine wTk 4 ⟨some 24, .load 52 (.tmp 23), 52, "ref.go:203", #[⟨3, .data⟩], none⟩ rfl ?_
     refine wTk 5 ⟨some 25, .move (.tmp 0), 27, "ref.go:203", #[⟨11, .gcOnly .lateStores⟩], none⟩ rfl ?_
     refine wTk 6 ⟨some 26, .move (.tmp 3), 3, "ref.go:203", #[⟨11, .gcOnly .lateStores⟩], none⟩ rfl ?_
     refine wTk 7 ⟨some 27, .indexAddr 27 (.tmp 25) (.tmp 26), 0, "ref.go:203", #[⟨5, .data⟩, ⟨6, .data⟩, ⟨11, .gcOnly .lateStores⟩], none⟩ rfl ?_
     refine wTk 8 ⟨some 28, .load 52 (.tmp 27), 52, "ref.go:203", #[⟨7, .data⟩, ⟨11, .gcOnly .lateStores⟩], none⟩ rfl ?_
     refine wpAnyH_ready (rs := [9, 10]) (by kernel_rfl) (by simp) ?_
     refine AllReadyH.cons rfl (fun K hK => ?_) (AllReadyH.cons rfl (fun K hK => ?_) AllReadyH.nil)
     ·go_simp
      refine hK.out _ _ (⟨run_laRe (HAj.out.on (bD.trans ((below_new _ _).mono bD.size))), run_laRe (HAk.out.on (bD.trans ((below_new _ _).mono bD.size)))⟩) (fun hHeld => ?_)
      clear hK K
      refine wpAnyH_ready (rs := [10]) (by kernel_rfl) (by simp) (.cons rfl (fun K hK => ?_) .nil)
      go_simp
      refine hK.out _ _ (⟨run_laRe (HAj.out.on ((bD.trans ((below_new _ _).mono bD.size)).trans ((below_new _ _).mono (bD.trans ((below_new _ _).mono bD.size)).size))), run_laRe (HAk.out.on ((bD.trans ((below_new _ _).mono bD.size)).trans ((below_new _ _).mono (bD.trans ((below_new _ _).mono bD.size)).size)))⟩) (fun hHeld => ?_)
      clear hK K
      obtain ⟨w5, hs5, b5, w6, hs6, x6, y6, b6⟩ := two_recs wd q r gd eD (gd) (gd + 1) (.inl ⟨rfl, rfl⟩)
      refine wpAnyH_ready (rs := [11]) (by kernel_rfl) (by simp) (.cons rfl (fun K hK => ?_) .nil)
      go_simp
      refine hK.out _ _ (⟨run_laRe (HAj.out.on (bD.trans (b5.mono bD.size))), run_laRe (HAk.out.on (bD.trans (b5.mono bD.size)))⟩) (fun hHeld => ?_)
      clear hK K hs5
      refine wpAnyH_ready (rs := [12]) (by kernel_rfl) (by simp) (.cons rfl (fun K hK => ?_) .nil)
      go_simp
      refine hK.out _ _ (⟨run_laRe (HAj.out.on (bD.trans (b6.mono bD.size))), run_laRe (HAk.out.on (bD.trans (b6.mono bD.size)))⟩) (fun hHeld => ?_)
      clear hK K hs6
      refine wpAnyH_done (by kernel_rfl) ?_ _
      clear hHeld
      have HF : Hid ((ReBox w6 (gd) (mkR q) ∧ ReBox w6 (gd + 1) (mkR r)) ∧ Below w1.heap.size w1 w6 ∧ PSrc w6 q.p ∧ PSrc w6 r.p) := ⟨⟨x6, y6⟩, bD.trans (b6.mono bD.size), (HOj.out.below (bD.trans (b6.mono bD.size))).1, (HOk2.out.below (bD.trans (b6.mono bD.size))).1⟩
      clear x6 y6 b5 b6 bD eD hwd hgd HAj HAk HOj HOk2 HS1
      obtain ⟨h4, h5⟩ := HF.out.1
      obtain ⟨h6, h7, h8⟩ := HF.out.2
      have HB5 := hide (HB1.out.trans (h6.mono HB1.out.size))
      have HSj := hide h7
      have HSk := hide h8
      have HX4 := hide h4
      have HX5 := hide h5
      have s4 := h4.sk
      have s5 := h5.sk
      have p4 := run_ldP h4.past
      have p5 := run_ldP h5.past
      clear h4 h5 h6 h7 h8 HF
      obtain ⟨f1, f2⟩ := str_facts q.s r.s
      by_cases hlt0 : cmpS q.s r.s < 0
      ·rw [decide_eq_true hlt0] at f1
       rw [decide_eq_false (show ¬ cmpS q.s r.s = 0 by omega)] at f2
       have HL := hide (HLt.out _ (.inl ⟨by omega, rfl⟩) hlt0)
       clear hlt0
       go_wp2_with fail
       go_roundw
       case rel => exact ⟨k + 1, by omega, by simp, HK.out.snoc HOk.out HL.out, HB5.out⟩
       case measure => simp [intOf]; omega
      ·rw [decide_eq_false hlt0] at f1
       by_cases he0 : cmpS q.s r.s = 0
       ·rw [decide_eq_true he0] at f2
        have HE0 := hide he0
        clear hlt0 he0
        go_wp2_with fail
        refine (refCompare_any q.p r.p _ HSj.out HSk.out).mono ?_
        rintro e w7 ⟨z, rfl, hz, b7⟩
        have HZ : Hid (CmpR q r z) := .inr ⟨HE0.out, cmpV_of hz⟩
        have HB7 := hide (HB5.out.trans (b7.mono HB5.out.size))
        clear hz b7 p4 p5 s4 s5
        by_cases hz0 : (0 : Int) ≤ z
        ·have HN := hide (HNo.out z HZ.out (by omega))
         go_wp2_with fail
         go_ret
         exact ⟨_, rfl, BIf.no HN.out, HB7.out⟩
        ·have HL := hide (HLt.out z HZ.out (by omega))
         go_wp2_with fail
         go_roundw
         case rel => exact ⟨k + 1, by omega, by simp, HK.out.snoc HOk.out HL.out, HB7.out⟩
         case measure => simp [intOf]; omega
       ·rw [decide_eq_false he0] at f2
        have HN := hide (HNo.out _ (.inl ⟨he0, rfl⟩) (by omega))
        clear hlt0 he0
        go_wp2_with fail
        go_ret
        exact ⟨_, rfl, BIf.no HN.out, HB5.out⟩
     ·go_simp
      refine hK.out _ _ (⟨run_laRe (HAj.out.on (bD.trans ((below_new _ _).mono bD.size))), run_laRe (HAk.out.on (bD.trans ((below_new _ _).mono bD.size)))⟩) (fun hHeld => ?_)
      clear hK K
      refine wpAnyH_ready (rs := [9]) (by kernel_rfl) (by simp) (.cons rfl (fun K hK => ?_) .nil)
      go_simp
      refine hK.out _ _ (⟨run_laRe (HAj.out.on ((bD.trans ((below_new _ _).mono bD.size)).trans ((below_new _ _).mono (bD.trans ((below_new _ _).mono bD.size)).size))), run_laRe (HAk.out.on ((bD.trans ((below_new _ _).mono bD.size)).trans ((below_new _ _).mono (bD.trans ((below_new _ _).mono bD.size)).size)))⟩) (fun hHeld => ?_)
      clear hK K
      obtain ⟨w5, hs5, b5, w6, hs6, x6, y6, b6⟩ := two_recs wd q r gd eD (gd + 1) (gd) (.inr ⟨rfl, rfl⟩)
      refine wpAnyH_ready (rs := [11]) (by kernel_rfl) (by simp) (.cons rfl (fun K hK => ?_) .nil)
      go_simp
      refine hK.out _ _ (⟨run_laRe (HAj.out.on (bD.trans (b5.mono bD.size))), run_laRe (HAk.out.on (bD.trans (b5.mono bD.size)))⟩) (fun hHeld => ?_)
      clear hK K hs5
      refine wpAnyH_ready (rs := [12]) (by kernel_rfl) (by simp) (.cons rfl (fun K hK => ?_) .nil)
      go_simp
      refine hK.out _ _ (⟨run_laRe (HAj.out.on (bD.trans (b6.mono bD.size))), run_laRe (HAk.out.on (bD.trans (b6.mono bD.size)))⟩) (fun hHeld => ?_)
      clear hK K hs6
      refine wpAnyH_done (by kernel_rfl) ?_ _
      clear hHeld
      have HF : Hid ((ReBox w6 (gd + 1) (mkR q) ∧ ReBox w6 (gd) (mkR r)) ∧ Below w1.heap.size w1 w6 ∧ PSrc w6 q.p ∧ PSrc w6 r.p) := ⟨⟨x6, y6⟩, bD.trans (b6.mono bD.size), (HOj.out.below (bD.trans (b6.mono bD.size))).1, (HOk2.out.below (bD.trans (b6.mono bD.size))).1⟩
      clear x6 y6 b5 b6 bD eD hwd hgd HAj HAk HOj HOk2 HS1
      obtain ⟨h4, h5⟩ := HF.out.1
      obtain ⟨h6, h7, h8⟩ := HF.out.2
      have HB5 := hide (HB1.out.trans (h6.mono HB1.out.size))
      have HSj := hide h7
      have HSk := hide h8
      have HX4 := hide h4
      have HX5 := hide h5
      have s4 := h4.sk
      have s5 := h5.sk
      have p4 := run_ldP h4.past
      have p5 := run_ldP h5.past
      clear h4 h5 h6 h7 h8 HF
      obtain ⟨f1, f2⟩ := str_facts q.s r.s
      by_cases hlt0 : cmpS q.s r.s < 0
      ·rw [decide_eq_true hlt0] at f1
       rw [decide_eq_false (show ¬ cmpS q.s r.s = 0 by omega)] at f2
       have HL := hide (HLt.out _ (.inl ⟨by omega, rfl⟩) hlt0)
       clear hlt0
       go_wp2_with fail
       go_roundw
       case rel => exact ⟨k + 1, by omega, by simp, HK.out.snoc HOk.out HL.out, HB5.out⟩
       case measure => simp [intOf]; omega
      ·rw [decide_eq_false hlt0] at f1
       by_cases he0 : cmpS q.s r.s = 0
       ·rw [decide_eq_true he0] at f2
        have HE0 := hide he0
        clear hlt0 he0
        go_wp2_with fail
        refine (refCompare_any q.p r.p _ HSj.out HSk.out).mono ?_
        rintro e w7 ⟨z, rfl, hz, b7⟩
        have HZ : Hid (CmpR q r z) := .inr ⟨HE0.out, cmpV_of hz⟩
        have HB7 := hide (HB5.out.trans (b7.mono HB5.out.size))
        clear hz b7 p4 p5 s4 s5
        by_cases hz0 : (0 : Int) ≤ z
        ·have HN := hide (HNo.out z HZ.out (by omega))
         go_wp2_with fail
         go_ret
         exact ⟨_, rfl, BIf.no HN.out, HB7.out⟩
        ·have HL := hide (HLt.out z HZ.out (by omega))
         go_wp2_with fail
         go_roundw
         case rel => exact ⟨k + 1, by omega, by simp, HK.out.snoc HOk.out HL.out, HB7.out⟩
         case measure => simp [intOf]; omega
       ·rw [decide_eq_false he0] at f2
        have HN := hide (HNo.out _ (.inl ⟨he0, rfl⟩) (by omega))
        clear hlt0 he0
        go_wp2_with fail
        go_ret
        exact ⟨_, rfl, BIf.no HN.out, HB5.out⟩
  ·obtain rfl : k = n := by omega
   go_wp2_with fail
   go_ret
   exact ⟨_, rfl, BIf.yes HK.out, HB.out⟩
end Go.Proofs.YtcnciccljblkfaaGreat

