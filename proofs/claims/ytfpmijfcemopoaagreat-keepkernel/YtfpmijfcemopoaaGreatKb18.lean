/- GKc BPg BLi -/
import Derived.Test.YtfpmijfcemopoaaGreatTk
import Derived.Test.YtfpmijfcemopoaaGreatKb17
import Derived.Test.YtfpmijfcemopoaaGreatKb14
namespace Go.Proofs.YtfpmijfcemopoaaGreat
open Go.RowKit
attribute [local go_sem ↓] ldP_eq stP_eq ldRe_eq stRe_eq
attribute [local go_sem] cells_PV PC_size cells_ReV ReC_size
theorem zero_ReC : (#[.string ⟨#[]⟩, .slice none 0 0, .slice none 0 0] : Array Value) = ReC re0 := rfl
attribute [local go_sem] zero_ReC
structure RcS (w : World) (ao : Option Addr) (n cap : Nat) (L : List Rc) : Prop where
 len : L.length = n
 nil : ao = none → n = 0
 at_ : ∀ ad, ao = some ad → ∀ t, t < n → ReAt w (ad.add (t * 3)) (mkR (L.getD t rc0))
 ok : ∀ r ∈ L, RcOk w r
 big : n ≤ 2199023255552
theorem RcS.below {w w' : World} {ao : Option Addr} {n cap : Nat} {L : List Rc} (h : RcS w ao n cap L) (hb : Below w.heap.size w w') : RcS w' ao n cap L :=
 ⟨h.len, h.nil, fun ad e t ht => (h.at_ ad e t ht).on hb, fun r hr => (h.ok r hr).below hb, h.big⟩
theorem RcS.at {w : World} {ao : Option Addr} {n cap : Nat} {L : List Rc} (h : RcS w ao n cap L) (k : Nat) (hk : k < n) : ∃ ad, ao = some ad ∧ ReAt w (ad.add (k * 3)) (mkR (L.getD k rc0)) := by
 cases ao with
 | none => have := h.nil rfl; omega
 | some ad => exact ⟨ad, rfl, h.at_ ad rfl k hk⟩
theorem RcS.okAt {w : World} {ao : Option Addr} {n cap : Nat} {L : List Rc} (h : RcS w ao n cap L) (k : Nat) (hk : k < n) : RcOk w (L.getD k rc0) := by
 have hl := h.len
 rw [List.getD_eq_getElem?_getD, List.getElem?_eq_getElem (by omega)]
 exact h.ok _ (List.getElem_mem _)
theorem RcS.empty (w : World) : RcS w none 0 0 [] := ⟨rfl, fun _ => rfl, (fun ad h => by cases h), (fun r h => by cases h), by decide⟩
def RecOk (r : Rc) : Prop := skuR r.s = true ∧ FormP r.p.P
def LtR (a b : Rc) : Prop := ∃ z, CmpR a b z ∧ z < 0
def OkR (L : List Rc) (k : Nat) : Prop := ∀ j, j < k → RecOk (L.getD j rc0) ∧ (0 < j → LtR (L.getD (j - 1) rc0) (L.getD j rc0))
theorem OkR.snoc {L : List Rc} {k : Nat} (h : OkR L k) (h1 : RecOk (L.getD k rc0)) (h2 : 0 < k → LtR (L.getD (k - 1) rc0) (L.getD k rc0)) : OkR L (k + 1) := by
 intro j hj
 by_cases e : j = k
 ·subst e; exact ⟨h1, h2⟩
 ·exact h j (by omega)
theorem okR_zero (L : List Rc) : OkR L 0 := fun j hj => absurd hj (Nat.not_lt_zero j)
def ChkR (L : List Rc) (n : Nat) (x : Int) : Prop := (x = 0 ∧ OkR L n) ∨ (x = 1 ∧ ¬ OkR L n)
set_option maxRecDepth 100000 in
set_option maxHeartbeats 3200000 in
theorem keepCheck_any (ao : Option Addr) (n cap : Nat) (L : List Rc) (w : World) (hS : RcS w ao n cap L) : Calls Tryz.prog 12 #[.slice ao n cap] w fun e w' => GivesK w w' e (ChkR L n) := by
 have HS := hide hS
 have hn := hS.big
 clear hS
 go_enter Tryz.func12, Tryz.ntmps12
 go_wp2_with fail
 go_loopw [7] (fun i wr => ∃ k : Nat, k ≤ n ∧ i = .int .i64 k ∧ Hid (OkR L k) ∧ Hid (Below w.heap.size w wr)) (fun i _ => n - (intOf i).toNat)
 case atStart => exact ⟨0, Nat.zero_le _, rfl, okR_zero L, Below.refl _ _⟩
 case round =>
  obtain ⟨k, hk, rfl, HK, HB⟩ := hrel
  rename World => wr
  by_cases hlt : k < n
  ·obtain ⟨ad, rfl, A0⟩ := (HS.out.below HB.out).at k hlt
   have hld := run_laRe A0
   have HO := hide ((HS.out.below HB.out).okAt k hlt)
   have HSr := hide (HS.out.below HB.out)
   obtain ⟨r, Hr⟩ : ∃ r, Hid (L.getD k rc0 = r) := ⟨_, rfl⟩
   rw [Hr.out] at hld HO
   obtain ⟨gr, hgr⟩ : ∃ g, wr.heap.size = g := ⟨_, rfl⟩
   obtain ⟨w1, hst, X1, B1, -⟩ := madeRe wr (mkR r) gr hgr
   have HX := hide X1
   have HB1 := hide (HB.out.trans (B1.mono HB.out.size))
   have HO1 := hide (HO.out.below B1)
   have HSr1 := hide (HSr.out.below B1)
   clear X1 B1 A0 HO HSr
   have Hlt := hide hlt
   by_cases hk0 : k = 0
   ·have hk1 : decide (0 < k) = false := by rw [decide_eq_false_iff_not]; omega
    have HK0 := hide hk0
    clear hk0
    go_wp2_with fail
    clear hst hld
    refine wp_region_held_drew (S := fun v => (ldRe (.pointer (some ⟨gr, 0, none⟩))).run Tryz.prog v = .ok (.agg (ReC (mkR r))) v) (by kernel_rfl) (run_ldRe (HX.out.below (below_drew1 w1))) (fun hHeld => ?_)
    refine wTk 0 ⟨some 12, .load 39 (.tmp 4), 39, "records.go:34", #[], none⟩ rfl ?_
    refine wpAnyH_ready (rs := [1]) (by kernel_rfl) (by simp) (.cons rfl (fun K hK => ?_) .nil)
    go_simp
    go_wp2_with fail
    refine (checkRecord_any r _ (HO1.out.below (below_drew1 w1))).mono ?_
    rintro e w2 ⟨x, rfl, hx, b2⟩
    have hB2 : Below w1.heap.size w1 w2 := (below_drew1 w1).trans b2
    have HB2 := hide hB2
    refine hK.out _ _ (run_ldRe (HX.out.below (hB2))) (fun hHeld => ?_)
    clear hK K b2
    by_cases hx0 : x = 0
    ·obtain rfl := hx0
     have HOk : Hid (RecOk (L.getD k rc0)) := by rw [Hr.out]; exact hx.zero.1 rfl
     clear hx
     refine wTk 2 ⟨some 14, .binOp .neq 32 (.tmp 13) (.const (.int .i64 0)) 32, 4, "records.go:34", #[⟨1, .data⟩], none⟩ rfl ?_
     refine wTk 3 ⟨some 15, .move (.tmp 14), 4, "records.go:34", #[⟨2, .data⟩, ⟨1, .chain⟩], none⟩ rfl ?_
     refine wTk 4 ⟨some 16, .move (.tmp 3), 3, "records.go:34", #[⟨3, .guard⟩], some (3, false)⟩ rfl ?_
     refine wTk 5 ⟨some 17, .binOp .gtr 3 (.tmp 16) (.const (.int .i64 0)) 3, 4, "records.go:34", #[⟨4, .data⟩, ⟨3, .guard⟩], some (3, false)⟩ rfl ?_
     refine wTk 6 ⟨some 18, .move (.tmp 17), 4, "records.go:34", #[⟨5, .data⟩, ⟨3, .chain⟩, ⟨3, .guard⟩], some (3, false)⟩ rfl ?_
     refine wSk 7 ⟨some 19, .move (.tmp 0), 22, "records.go:34", #[⟨6, .guard⟩], some (6, true)⟩ rfl ?_
     refine wSk 8 ⟨some 20, .move (.tmp 3), 3, "records.go:34", #[⟨6, .guard⟩], some (6, true)⟩ rfl ?_
     refine wSk 9 ⟨some 21, .binOp .sub 3 (.tmp 20) (.const (.int .i64 1)) 3, 3, "records.go:34", #[⟨8, .data⟩, ⟨6, .guard⟩], some (6, true)⟩ rfl ?_
     refine wSk 10 ⟨some 22, .indexAddr 22 (.tmp 19) (.tmp 21), 0, "records.go:34", #[⟨7, .data⟩, ⟨9, .data⟩, ⟨6, .guard⟩], some (6, true)⟩ rfl ?_
     refine wSk 11 ⟨some 23, .load 39 (.tmp 22), 39, "records.go:34", #[⟨10, .data⟩, ⟨6, .guard⟩], some (6, true)⟩ rfl ?_
     refine wSk 12 ⟨some 24, .load 39 (.tmp 4), 39, "records.go:34", #[⟨6, .guard⟩], some (6, true)⟩ rfl ?_
     refine wSk 13 ⟨some 25, .call ⟨.value (.func 17), #[.tmp 23, .tmp 24], #[39, 39]⟩, 3, "records.go:34", #[⟨11, .data⟩, ⟨12, .data⟩, ⟨6, .chain⟩, ⟨6, .guard⟩], some (6, true)⟩ rfl ?_
     refine wSk 14 ⟨some 26, .binOp .geq 3 (.tmp 25) (.const (.int .i64 0)) 3, 4, "records.go:34", #[⟨13, .data⟩, ⟨6, .guard⟩], some (6, true)⟩ rfl ?_
     refine wTk 15 ⟨some 27, .pick (.tmp 18) (.tmp 26) (.const (.bool false)), 4, "records.go:34", #[⟨6, .data⟩, ⟨14, .data⟩, ⟨3, .guard⟩], some (3, false)⟩ rfl ?_
     refine wTk 16 ⟨some 28, .pick (.tmp 15) (.const (.bool true)) (.tmp 27), 4, "records.go:34", #[⟨3, .data⟩, ⟨15, .data⟩], none⟩ rfl ?_
     refine wpAnyH_done (by kernel_rfl) ?_ _
     clear hHeld
     go_wp2_with fail
     go_roundw
     case rel => exact ⟨k + 1, by omega, by simp, HK.out.snoc HOk.out (fun h => absurd h (by have := HK0.out; omega)), HB1.out.trans (HB2.out.mono HB1.out.size)⟩
     case measure => simp [intOf]; omega
    ·have HNo : Hid (¬ OkR L n) := fun h => hx0 (hx.zero.2 (by have := (h k Hlt.out).1; rw [Hr.out] at this; exact this))
     have hxb : (x != 0) = true := by simpa using hx0
     clear hx hx0
     refine wTk 2 ⟨some 14, .binOp .neq 32 (.tmp 13) (.const (.int .i64 0)) 32, 4, "records.go:34", #[⟨1, .data⟩], none⟩ rfl ?_
     refine wTk 3 ⟨some 15, .move (.tmp 14), 4, "records.go:34", #[⟨2, .data⟩, ⟨1, .chain⟩], none⟩ rfl ?_
     refine wSk 4 ⟨some 16, .move (.tmp 3), 3, "records.go:34", #[⟨3, .guard⟩], some (3, false)⟩ rfl ?_
     refine wSk 5 ⟨some 17, .binOp .gtr 3 (.tmp 16) (.const (.int .i64 0)) 3, 4, "records.go:34", #[⟨4, .data⟩, ⟨3, .guard⟩], some (3, false)⟩ rfl ?_
     refine wSk 6 ⟨some 18, .move (.tmp 17), 4, "records.go:34", #[⟨5, .data⟩, ⟨3, .chain⟩, ⟨3, .guard⟩], some (3, false)⟩ rfl ?_
     refine wSk 7 ⟨some 19, .move (.tmp 0), 22, "records.go:34", #[⟨6, .guard⟩], some (6, true)⟩ rfl ?_
     refine wSk 8 ⟨some 20, .move (.tmp 3), 3, "records.go:34", #[⟨6, .guard⟩], some (6, true)⟩ rfl ?_
     refine wSk 9 ⟨some 21, .binOp .sub 3 (.tmp 20) (.const (.int .i64 1)) 3, 3, "records.go:34", #[⟨8, .data⟩, ⟨6, .guard⟩], some (6, true)⟩ rfl ?_
     refine wSk 10 ⟨some 22, .indexAddr 22 (.tmp 19) (.tmp 21), 0, "records.go:34", #[⟨7, .data⟩, ⟨9, .data⟩, ⟨6, .guard⟩], some (6, true)⟩ rfl ?_
     refine wSk 11 ⟨some 23, .load 39 (.tmp 22), 39, "records.go:34", #[⟨10, .data⟩, ⟨6, .guard⟩], some (6, true)⟩ rfl ?_
     refine wSk 12 ⟨some 24, .load 39 (.tmp 4), 39, "records.go:34", #[⟨6, .guard⟩], some (6, true)⟩ rfl ?_
     refine wSk 13 ⟨some 25, .call ⟨.value (.func 17), #[.tmp 23, .tmp 24], #[39, 39]⟩, 3, "records.go:34", #[⟨11, .data⟩, ⟨12, .data⟩, ⟨6, .chain⟩, ⟨6, .guard⟩], some (6, true)⟩ rfl ?_
     refine wSk 14 ⟨some 26, .binOp .geq 3 (.tmp 25) (.const (.int .i64 0)) 3, 4, "records.go:34", #[⟨13, .data⟩, ⟨6, .guard⟩], some (6, true)⟩ rfl ?_
     refine wSk 15 ⟨some 27, .pick (.tmp 18) (.tmp 26) (.const (.bool false)), 4, "records.go:34", #[⟨6, .data⟩, ⟨14, .data⟩, ⟨3, .guard⟩], some (3, false)⟩ rfl ?_
     refine wTk 16 ⟨some 28, .pick (.tmp 15) (.const (.bool true)) (.tmp 27), 4, "records.go:34", #[⟨3, .data⟩, ⟨15, .data⟩], none⟩ rfl ?_
     refine wpAnyH_done (by kernel_rfl) ?_ _
     clear hHeld
     go_wp2_with fail
     go_ret
     exact ⟨_, rfl, .inr ⟨rfl, HNo.out⟩, HB1.out.trans (HB2.out.mono HB1.out.size)⟩
   ·obtain ⟨j, Hj⟩ : ∃ j, Hid (k = j + 1) := ⟨k - 1, (show k = k - 1 + 1 by omega)⟩
    have hjn : j < n := by have := Hj.out; omega
    have hwj : IntKind.i64.wrap ((k : Int) - 1) = (j : Int) := by rw [IntKind.wrap_i64]; have := Hj.out; omega
    have hk1 : decide (0 < k) = true := by rw [decide_eq_true_iff]; omega
    obtain ⟨ad', e', Aj⟩ := HSr1.out.at j hjn
    obtain rfl := Option.some.inj e'
    have HOj := hide (HSr1.out.okAt j hjn)
    obtain ⟨q, Hq⟩ : ∃ q, Hid (L.getD j rc0 = q) := ⟨_, rfl⟩
    rw [Hq.out] at Aj HOj
    have HAj := hide Aj
    clear Aj e'
    go_wp2_with fail
    clear hst hld
    refine wp_region_held_drew (S := fun v => (ldRe (.pointer (some ⟨gr, 0, none⟩))).run Tryz.prog v = .ok (.agg (ReC (mkR r))) v ∧ (ldRe (.pointer (some (ad.add (j * 3))))).run Tryz.prog v = .ok (.agg (ReC (mkR q))) v) (by kernel_rfl) (⟨run_ldRe (HX.out.below (below_drew1 w1)), run_laRe (HAj.out.on (below_drew1 w1))⟩) (fun hHeld => ?_)
    refine wTk 0 ⟨some 12, .load 39 (.tmp 4), 39, "records.go:34", #[], none⟩ rfl ?_
    refine wpAnyH_ready (rs := [1]) (by kernel_rfl) (by simp) (.cons rfl (fun K hK => ?_) .nil)
    go_simp
    go_wp2_with fail
    refine (checkRecord_any r _ (HO1.out.below (below_drew1 w1))).mono ?_
    rintro e w2 ⟨x, rfl, hx, b2⟩
    have hB2 : Below w1.heap.size w1 w2 := (below_drew1 w1).trans b2
    have HB2 := hide hB2
    refine hK.out _ _ (⟨run_ldRe (HX.out.below (hB2)), run_laRe (HAj.out.on (hB2))⟩) (fun hHeld => ?_)
    clear hK K b2
    by_cases hx0 : x = 0
    ·obtain rfl := hx0
     have HOk : Hid (RecOk (L.getD k rc0)) := by rw [Hr.out]; exact hx.zero.1 rfl
     clear hx
     refine wTk 2 ⟨some 14, .binOp .neq 32 (.tmp 13) (.const (.int .i64 0)) 32, 4, "records.go:34", #[⟨1, .data⟩], none⟩ rfl ?_
     refine wTk 3 ⟨some 15, .move (.tmp 14), 4, "records.go:34", #[⟨2, .data⟩, ⟨1, .chain⟩], none⟩ rfl ?_
     refine wTk 4 ⟨some 16, .move (.tmp 3), 3, "records.go:34", #[⟨3, .guard⟩], some (3, false)⟩ rfl ?_
     refine wTk 5 ⟨some 17, .binOp .gtr 3 (.tmp 16) (.const (.int .i64 0)) 3, 4, "records.go:34", #[⟨4, .data⟩, ⟨3, .guard⟩], some (3, false)⟩ rfl ?_
     refine wTk 6 ⟨some 18, .move (.tmp 17), 4, "records.go:34", #[⟨5, .data⟩, ⟨3, .chain⟩, ⟨3, .guard⟩], some (3, false)⟩ rfl ?_
     refine wTk 7 ⟨some 19, .move (.tmp 0), 22, "records.go:34", #[⟨6, .guard⟩], some (6, true)⟩ rfl ?_
     refine wTk 8 ⟨some 20, .move (.tmp 3), 3, "records.go:34", #[⟨6, .guard⟩], some (6, true)⟩ rfl ?_
     refine wTk 9 ⟨some 21, .binOp .sub 3 (.tmp 20) (.const (.int .i64 1)) 3, 3, "records.go:34", #[⟨8, .data⟩, ⟨6, .guard⟩], some (6, true)⟩ rfl ?_
     refine wTk 10 ⟨some 22, .indexAddr 22 (.tmp 19) (.tmp 21), 0, "records.go:34", #[⟨7, .data⟩, ⟨9, .data⟩, ⟨6, .guard⟩], some (6, true)⟩ rfl ?_
     refine wTk 11 ⟨some 23, .load 39 (.tmp 22), 39, "records.go:34", #[⟨10, .data⟩, ⟨6, .guard⟩], some (6, true)⟩ rfl ?_
     refine wTk 12 ⟨some 24, .load 39 (.tmp 4), 39, "records.go:34", #[⟨6, .guard⟩], some (6, true)⟩ rfl ?_
     refine wpAnyH_ready (rs := [13]) (by kernel_rfl) (by simp) (.cons rfl (fun K hK => ?_) .nil)
     go_simp
     go_wp2_with fail
     refine (keepCompare_any q r _ (HOj.out.below hB2) (HO1.out.below hB2)).mono ?_
     rintro e w3 ⟨z, rfl, hz, b3⟩
     have hB3 : Below w1.heap.size w1 w3 := HB2.out.trans (b3.mono HB2.out.size)
     have HB3 := hide hB3
     refine hK.out _ _ (⟨run_ldRe (HX.out.below (hB3)), run_laRe (HAj.out.on (hB3))⟩) (fun hHeld => ?_)
     clear hK K b3 hB2
     by_cases hz0 : (0 : Int) ≤ z
     ·have hzb : decide (0 ≤ z) = true := decide_eq_true hz0
      have HNo : Hid (¬ OkR L n) := fun h => by
       have h2 := (h k Hlt.out).2 (by have := Hj.out; omega)
       rw [show k - 1 = j by have := Hj.out; omega, Hr.out, Hq.out] at h2
       obtain ⟨z2, h3, h4⟩ := h2
       have := hz.unique h3
       omega
      clear hz hz0
      refine wTk 14 ⟨some 26, .binOp .geq 3 (.tmp 25) (.const (.int .i64 0)) 3, 4, "records.go:34", #[⟨13, .data⟩, ⟨6, .guard⟩], some (6, true)⟩ rfl ?_
      refine wTk 15 ⟨some 27, .pick (.tmp 18) (.tmp 26) (.const (.bool false)), 4, "records.go:34", #[⟨6, .data⟩, ⟨14, .data⟩, ⟨3, .guard⟩], some (3, false)⟩ rfl ?_
      refine wTk 16 ⟨some 28, .pick (.tmp 15) (.const (.bool true)) (.tmp 27), 4, "records.go:34", #[⟨3, .data⟩, ⟨15, .data⟩], none⟩ rfl ?_
      refine wpAnyH_done (by kernel_rfl) ?_ _
      clear hHeld
      go_wp2_with fail
      go_ret
      exact ⟨_, rfl, .inr ⟨rfl, HNo.out⟩, HB1.out.trans (HB3.out.mono HB1.out.size)⟩
     ·have hzb : decide (0 ≤ z) = false := decide_eq_false hz0
      have HLt : Hid (0 < k → LtR (L.getD (k - 1) rc0) (L.getD k rc0)) := fun _ => by
       rw [show k - 1 = j by have := Hj.out; omega, Hr.out, Hq.out]
       exact ⟨z, hz, by omega⟩
      clear hz hz0
      refine wTk 14 ⟨some 26, .binOp .geq 3 (.tmp 25) (.const (.int .i64 0)) 3, 4, "records.go:34", #[⟨13, .data⟩, ⟨6, .guard⟩], some (6, true)⟩ rfl ?_
      refine wTk 15 ⟨some 27, .pick (.tmp 18) (.tmp 26) (.const (.bool false)), 4, "records.go:34", #[⟨6, .data⟩, ⟨14, .data⟩, ⟨3, .guard⟩], some (3, false)⟩ rfl ?_
      refine wTk 16 ⟨some 28, .pick (.tmp 15) (.const (.bool true)) (.tmp 27), 4, "records.go:34", #[⟨3, .data⟩, ⟨15, .data⟩], none⟩ rfl ?_
      refine wpAnyH_done (by kernel_rfl) ?_ _
      clear hHeld
      go_wp2_with fail
      go_roundw
      case rel => exact ⟨k + 1, by omega, by simp, HK.out.snoc HOk.out HLt.out, HB1.out.trans (HB3.out.mono HB1.out.size)⟩
      case measure => simp [intOf]; omega
    ·have HNo : Hid (¬ OkR L n) := fun h => hx0 (hx.zero.2 (by have := (h k Hlt.out).1; rw [Hr.out] at this; exact this))
     have hxb : (x != 0) = true := by simpa using hx0
     clear hx hx0
     refine wTk 2 ⟨some 14, .binOp .neq 32 (.tmp 13) (.const (.int .i64 0)) 32, 4, "records.go:34", #[⟨1, .data⟩], none⟩ rfl ?_
     refine wTk 3 ⟨some 15, .move (.tmp 14), 4, "records.go:34", #[⟨2, .data⟩, ⟨1, .chain⟩], none⟩ rfl ?_
     refine wSk 4 ⟨some 16, .move (.tmp 3), 3, "records.go:34", #[⟨3, .guard⟩], some (3, false)⟩ rfl ?_
     refine wSk 5 ⟨some 17, .binOp .gtr 3 (.tmp 16) (.const (.int .i64 0)) 3, 4, "records.go:34", #[⟨4, .data⟩, ⟨3, .guard⟩], some (3, false)⟩ rfl ?_
     refine wSk 6 ⟨some 18, .move (.tmp 17), 4, "records.go:34", #[⟨5, .data⟩, ⟨3, .chain⟩, ⟨3, .guard⟩], some (3, false)⟩ rfl ?_
     refine wSk 7 ⟨some 19, .move (.tmp 0), 22, "records.go:34", #[⟨6, .guard⟩], some (6, true)⟩ rfl ?_
     refine wSk 8 ⟨some 20, .move (.tmp 3), 3, "records.go:34", #[⟨6, .guard⟩], some (6, true)⟩ rfl ?_
     refine wSk 9 ⟨some 21, .binOp .sub 3 (.tmp 20) (.const (.int .i64 1)) 3, 3, "records.go:34", #[⟨8, .data⟩, ⟨6, .guard⟩], some (6, true)⟩ rfl ?_
     refine wSk 10 ⟨some 22, .indexAddr 22 (.tmp 19) (.tmp 21), 0, "records.go:34", #[⟨7, .data⟩, ⟨9, .data⟩, ⟨6, .guard⟩], some (6, true)⟩ rfl ?_
     refine wSk 11 ⟨some 23, .load 39 (.tmp 22), 39, "records.go:34", #[⟨10, .data⟩, ⟨6, .guard⟩], some (6, true)⟩ rfl ?_
     refine wSk 12 ⟨some 24, .load 39 (.tmp 4), 39, "records.go:34", #[⟨6, .guard⟩], some (6, true)⟩ rfl ?_
     refine wSk 13 ⟨some 25, .call ⟨.value (.func 17), #[.tmp 23, .tmp 24], #[39, 39]⟩, 3, "records.go:34", #[⟨11, .data⟩, ⟨12, .data⟩, ⟨6, .chain⟩, ⟨6, .guard⟩], some (6, true)⟩ rfl ?_
     refine wSk 14 ⟨some 26, .binOp .geq 3 (.tmp 25) (.const (.int .i64 0)) 3, 4, "records.go:34", #[⟨13, .data⟩, ⟨6, .guard⟩], some (6, true)⟩ rfl ?_
     refine wSk 15 ⟨some 27, .pick (.tmp 18) (.tmp 26) (.const (.bool false)), 4, "records.go:34", #[⟨6, .data⟩, ⟨14, .data⟩, ⟨3, .guard⟩], some (3, false)⟩ rfl ?_
     refine wTk 16 ⟨some 28, .pick (.tmp 15) (.const (.bool true)) (.tmp 27), 4, "records.go:34", #[⟨3, .data⟩, ⟨15, .data⟩], none⟩ rfl ?_
     refine wpAnyH_done (by kernel_rfl) ?_ _
     clear hHeld
     go_wp2_with fail
     go_ret
     exact ⟨_, rfl, .inr ⟨rfl, HNo.out⟩, HB1.out.trans (HB2.out.mono HB1.out.size)⟩
  ·obtain rfl : k = n := by omega
   go_wp2_with fail
   go_ret
   exact ⟨_, rfl, .inl ⟨rfl, HK.out⟩, HB.out⟩
end Go.Proofs.YtfpmijfcemopoaaGreat
namespace Go.Proofs.YtfpmijfcemopoaaGreat
open Go.RowKit Go.Maps Go.Sort
theorem psrc_keep {W W' : World} {p : Pv} {g : Option Nat} (h : PSrc W p) (hf : ∀ k, g = some k → PFar p k) (hk : ∀ q, q < W.heap.size → some q ≠ g → W'.heap[q]? = W.heap[q]?) : PSrc W' p := by
 have ev : ∀ ad, p.vo = some ad → ∀ t, t < p.vn → W'.cell? (ad.add t) = W.cell? (ad.add t) := fun ad e t ht => by
  have hc := h.vec.2.2 ad e t ht
  have hl := World.block_lt_of_cell? _ _ hc
  rw [block_add] at hl
  unfold World.cell?
  rw [block_add, hk _ hl (fun eg => (hf _ eg.symm).1 (by omega) ad e rfl)]
 have ec : ∀ ad, p.co = some ad → ∀ t, t < p.cn → ∀ j, W'.cell? (ad.add j) = W.cell? (ad.add j) := fun ad e t ht j => by
  have hl := World.block_lt_of_cell? _ _ (h.cloud.cell ad e t ht).c0
  rw [block_add] at hl
  unfold World.cell?
  rw [block_add, hk _ hl (fun eg => (hf _ eg.symm).2 (by omega) ad e rfl)]
 refine ⟨⟨h.vec.1, h.vec.2.1, fun ad e t ht => by rw [ev ad e t ht]; exact h.vec.2.2 ad e t ht⟩, ⟨h.cloud.len, h.cloud.nil, fun ad e t ht => ?_, h.cloud.big, h.cloud.cap⟩, h.big⟩
 have A := h.cloud.cell ad e t ht
 have e' := ec ad e t ht
 exact ⟨by rw [e']; exact A.c0, by have := A.c1; rw [add_add] at this ⊢; rw [e']; exact this, by have := A.c2; rw [add_add] at this ⊢; rw [e']; exact this⟩
def FarH (h : Hs) (p : Pv) : Prop := ∀ k, (HsV h).ownBlock = some k → PFar p k
theorem OwnP.app {B : Nat} {w W : World} {h : Hs} {L : List Pv} (O : OwnP B w W h L) (hF : ∀ p ∈ L, FarH h p) (p : Pv) (hp : PSrc W p) (hf : FarH h p) (hn : h.n ≤ 2900000000000) :
  ∃ g c2 W2, (Builtin.append_ #[78, 78] 78 #[HsV h, .slice (some ⟨W.heap.size, 0, none⟩) 1 1]).run Tryz.prog (W.alloc (.cells (PC p) 27)) = .ok (.slice (some ⟨g, 0, none⟩) (h.n + 1) c2) W2 ∧ OwnP B w W2 ⟨some ⟨g, 0, none⟩, h.n + 1, c2⟩ (L ++ [p]) ∧ (∀ q ∈ L ++ [p], FarH ⟨some ⟨g, 0, none⟩, h.n + 1, c2⟩ q) ∧ (∀ q, q < W.heap.size → (HsV h).ownBlock ≠ some q → W2.heap[q]? = W.heap[q]?) := by
 obtain ⟨i0, hi, hz0, hz1, hz2⟩ := info_parts infoPast
 have b1 := below_new W (.cells (PC p) 27)
 have O1 := O.later b1
 obtain ⟨v', W2, hrun, hown, hgrow, _, hat⟩ := run_append_own_at (P := Tryz.prog) (W.alloc (.cells (PC p) 27)) B 78 78 27 i0 (.agg #[.slice none 0 0, .slice none 0 0]) 2 48 Tryz.underlying78 hi hz0 hz1 hz2 (by simp [Value.cells]) (by decide) (HsV h) h.n (pvs L) O1.own ⟨W.heap.size, 0, none⟩ 1 1 (PC p).toList rfl (fun j u hj => by
  rw [Addr.add_lit, Nat.zero_add, World.cell?_alloc_new]
  simpa using hj) (pvs_cell p) (by unfold maxLen; omega) (by omega) O1.hB.2
 rcases hown.2 with ⟨h0, h00⟩ | ⟨g, cap2, cur, hv, hbg, hgg, hnc, hcm, hcsz, htake⟩
 ·omega
 ·subst hv
  have hall : ∀ q ∈ L ++ [p], PSrc (W.alloc (.cells (PC p) 27)) q ∧ FarH h q := fun q hq => by
   rcases List.mem_append.1 hq with hq | hq
   ·exact ⟨O1.src q hq, hF q hq⟩
   ·obtain rfl : q = p := by simpa using hq
    exact ⟨hp.below b1, hf⟩
  have hrow : ∀ k, (HsV h).ownBlock = some k → B ≤ k := fun k hk => (O1.own.lt k hk).1
  refine ⟨g, cap2, W2, hrun, ⟨by rw [pvs_append, pvs_one]; exact hown, fun q hq => psrc_keep (hall q hq).1 (fun k hk => (hall q hq).2 k hk) (fun k hk hn => hgrow.block k hk hn), O1.below.grown hgrow O1.below.size (fun k hk => by have := hrow k hk; have := O.hB; omega), O.hB.1, Nat.le_trans O1.hB.2 hgrow.size⟩, fun q hq k hk => ?_, fun q hq hn => (hgrow.block q (by simp; omega) (fun e => hn e.symm)).trans (Below.heap_alloc W _ q hq)⟩
  rcases hat with e | e
  ·exact (hall q hq).2 k (by rw [← e]; exact hk)
  ·rw [e] at hk
   have := Option.some.inj hk
   exact PFar.old (hall q hq).1 (by omega)
/-! ### records -/
def rvs (L : List Rc) : List Value := (L.map (fun r => (ReC (mkR r)).toList)).flatten
theorem rvs_append (L R : List Rc) : rvs (L ++ R) = rvs L ++ rvs R := by simp [rvs]
theorem rvs_one (r : Rc) : rvs [r] = (ReC (mkR r)).toList := by simp [rvs]
theorem rvs_length (L : List Rc) : (rvs L).length = L.length * 3 := by
 induction L with
 | nil => rfl
 | cons a L ih => have : rvs (a :: L) = (ReC (mkR a)).toList ++ rvs L := rfl; rw [this, List.length_append, ih]; simp [ReC]; omega
theorem rvs_at (L : List Rc) (t j : Nat) (ht : t < L.length) (hj : j < 3) : (rvs L)[t * 3 + j]? = (ReC (mkR (L.getD t rc0))).toList[j]? := by
 induction L generalizing t with
 | nil => simp at ht
 | cons a L ih =>
  have e : rvs (a :: L) = (ReC (mkR a)).toList ++ rvs L := rfl
  cases t with
  | zero => rw [e, List.getElem?_append_left (by simp [ReC]; omega)]; simp [List.getD]
  | succ t =>
   rw [e, List.getElem?_append_right (by simp [ReC]; omega)]
   have h := ih t (by simpa using ht)
   have e4 : (t + 1) * 3 + j - (ReC (mkR a)).toList.length = t * 3 + j := by simp [ReC]; omega
   rw [e4, h]; simp [List.getD]
theorem rvs_cell (r : Rc) : ∀ v ∈ (ReC (mkR r)).toList, v.oneCell' = true := by
 intro v hv; simp [ReC] at hv; rcases hv with rfl | rfl | rfl <;> rfl
theorem infoRec : (Tryz.prog.info? 39).map (fun i => (i.zero, i.size, i.bytes)) = some (some (.agg #[.string ⟨#[]⟩, .slice none 0 0, .slice none 0 0]), 3, 64) := by kernel_rfl
structure OwnRc (B : Nat) (w W : World) (h : Hs) (L : List Rc) : Prop where
 own : W.ownsRow B 39 3 (HsV h) h.n (rvs L)
 ok : ∀ r ∈ L, RcOk W r ∧ FarH h r.p
 below : Below w.heap.size w W
 hB : w.heap.size ≤ B ∧ B ≤ W.heap.size
theorem OwnRc.nil (w : World) : OwnRc w.heap.size w w hs0 [] := ⟨World.ownsRow_nil _ _ _ _, fun p h => (by cases h), Below.refl _ _, Nat.le_refl _, Nat.le_refl _⟩
theorem OwnRc.later {B : Nat} {w W W2 : World} {h : Hs} {L : List Rc} (O : OwnRc B w W h L) (hb : Below W.heap.size W W2) : OwnRc B w W2 h L := by
 refine ⟨O.own.kept (grown_of_below hb) ?_, fun p hp => ⟨(O.ok p hp).1.below hb, (O.ok p hp).2⟩, O.below.trans (hb.mono O.below.size), O.hB.1, Nat.le_trans O.hB.2 hb.size⟩
 cases (HsV h).ownBlock with
 | none => exact .inl rfl
 | some g => exact .inr (by simp)
theorem OwnRc.app {B : Nat} {w W : World} {h : Hs} {L : List Rc} (O : OwnRc B w W h L) (r : Rc) (hp : RcOk W r) (hf : FarH h r.p) (hn : h.n ≤ 2199023255551) :
  ∃ g c2 W2, (Builtin.append_ #[22, 22] 22 #[HsV h, .slice (some ⟨W.heap.size, 0, none⟩) 1 1]).run Tryz.prog (W.alloc (.cells (ReC (mkR r)) 39)) = .ok (.slice (some ⟨g, 0, none⟩) (h.n + 1) c2) W2 ∧ OwnRc B w W2 ⟨some ⟨g, 0, none⟩, h.n + 1, c2⟩ (L ++ [r]) ∧ (∀ q, q < W.heap.size → (HsV h).ownBlock ≠ some q → W2.heap[q]? = W.heap[q]?) := by
 obtain ⟨i0, hi, hz0, hz1, hz2⟩ := info_parts infoRec
 have b1 := below_new W (.cells (ReC (mkR r)) 39)
 have O1 := O.later b1
 obtain ⟨v', W2, hrun, hown, hgrow, _, hat⟩ := run_append_own_at (P := Tryz.prog) (W.alloc (.cells (ReC (mkR r)) 39)) B 22 22 39 i0 (.agg #[.string ⟨#[]⟩, .slice none 0 0, .slice none 0 0]) 3 64 Tryz.underlying22 hi hz0 hz1 hz2 (by simp [Value.cells]) (by decide) (HsV h) h.n (rvs L) O1.own ⟨W.heap.size, 0, none⟩ 1 1 (ReC (mkR r)).toList rfl (fun j u hj => by
  rw [Addr.add_lit, Nat.zero_add, World.cell?_alloc_new]
  simpa using hj) (rvs_cell r) (by unfold maxLen; omega) (by omega) O1.hB.2
 rcases hown.2 with ⟨h0, h00⟩ | ⟨g, cap2, cur, hv, hbg, hgg, hnc, hcm, hcsz, htake⟩
 ·omega
 ·subst hv
  have hall : ∀ q ∈ L ++ [r], RcOk (W.alloc (.cells (ReC (mkR r)) 39)) q ∧ FarH h q.p := fun q hq => by
   rcases List.mem_append.1 hq with hq | hq
   ·exact O1.ok q hq
   ·obtain rfl : q = r := by simpa using hq
    exact ⟨hp.below b1, hf⟩
  have hrow : ∀ k, (HsV h).ownBlock = some k → B ≤ k := fun k hk => (O1.own.lt k hk).1
  refine ⟨g, cap2, W2, hrun, ⟨by rw [rvs_append, rvs_one]; exact hown, fun q hq => ⟨⟨psrc_keep (hall q hq).1.1 (fun k hk => (hall q hq).2 k hk) (fun k hk hn => hgrow.block k hk hn), (hall q hq).1.2⟩, fun k hk => ?_⟩, O1.below.grown hgrow O1.below.size (fun k hk => by have := hrow k hk; have := O.hB; omega), O.hB.1, Nat.le_trans O1.hB.2 hgrow.size⟩, fun q hq hn => (hgrow.block q (by simp; omega) (fun e => hn e.symm)).trans (Below.heap_alloc W _ q hq)⟩
  rcases hat with e | e
  ·exact (hall q hq).2 k (by rw [← e]; exact hk)
  ·rw [e] at hk
   have := Option.some.inj hk
   exact PFar.old (hall q hq).1.1 (by omega)
theorem OwnRc.src {B : Nat} {w W : World} {h : Hs} {L : List Rc} (O : OwnRc B w W h L) (hn : h.n ≤ 2199023255552) : RcS W h.o h.n h.c L := by
 have hl : L.length = h.n := by have := O.own.1; rw [rvs_length] at this; omega
 have hok : ∀ r ∈ L, RcOk W r := fun r hr => (O.ok r hr).1
 have hr := O.own
 obtain ⟨o, n, c⟩ := h
 rcases hr.2 with ⟨h0, h00⟩ | ⟨g, cap, cur, hv, hbg, hgg, hnc, hcm, hcsz, htake⟩
 ·refine ⟨hl, fun _ => h00, fun ad e t ht => ?_, hok, hn⟩
  omega
 ·simp only [Value.slice.injEq] at hv
  obtain ⟨rfl, -, rfl⟩ := hv
  refine ⟨hl, fun e => (by cases e), fun ad e t ht => ?_, hok, hn⟩
  obtain rfl : (⟨g, 0, none⟩ : Addr) = ad := Option.some.inj e
  have hc : ∀ j, j < 3 → W.cell? ⟨g, t * 3 + j, none⟩ = (ReC (mkR (L.getD t rc0))).toList[j]? := fun j hj => by
   have h1 := World.ownsRow.cellAt hr (t * 3 + j) (by dsimp only at ht ⊢; omega)
   rw [h1, rvs_at L t j (by omega) hj]
  refine ⟨?_, ?_, ?_⟩
  ·rw [Addr.add_lit, Nat.zero_add]
   exact hc 0 (by omega)
  ·rw [Addr.add_lit, Addr.add_lit, Nat.zero_add]
   exact hc 1 (by omega)
  ·rw [Addr.add_lit, Addr.add_lit, Nat.zero_add]
   exact hc 2 (by omega)
end Go.Proofs.YtfpmijfcemopoaaGreat
namespace Go.Proofs.YtfpmijfcemopoaaGreat
open Go.RowKit
theorem vsrc_lit (w : World) (T : TypeId) (C : Array Value) (Z : List Int) (hC : C = (Z.map fun x => Value.int .i64 x).toArray) (g n : Nat) (hg : w.heap.size = g) (hn : Z.length = n) : V.Src (w.alloc (.cells C T)) (some ⟨g, 0, none⟩) n n Z := by
 subst hg hn hC
 refine ⟨rfl, (fun h => by cases h), fun ad h t ht => ?_⟩
 obtain rfl := Option.some.inj h
 have h1 := heap_alloc_new w (.cells (Z.map fun x => Value.int .i64 x).toArray T)
 rw [Addr.add_lit, Nat.zero_add]
 simp only [World.cell?, h1]
 simp [ht]
theorem ssrc_one (w : World) (T : TypeId) (a b c : Int) (g : Nat) (hg : w.heap.size = g) : SSrc (w.alloc (.cells #[.int .i64 a, .int .i64 b, .int .i64 c] T)) (some ⟨g, 0, none⟩) 1 1 [⟨a, b, c⟩] := by
 subst hg
 refine ⟨rfl, (fun h => by cases h), fun ad h t ht => ?_, by decide, by decide⟩
 obtain rfl := Option.some.inj h
 obtain rfl : t = 0 := by omega
 have h1 := heap_alloc_new w (.cells #[.int .i64 a, .int .i64 b, .int .i64 c] T)
 rw [Addr.add_lit, Nat.zero_add]
 refine ⟨?_, ?_, ?_⟩ <;> (try rw [Addr.add_lit]) <;> simp only [World.cell?, h1] <;> rfl
theorem rcs_lit (w : World) (T : TypeId) (C : Array Value) (R : List Rc) (hC : C = (rvs R).toArray) (g n : Nat) (hg : w.heap.size = g) (hn : R.length = n) (hb : n ≤ 2199023255552) (hok : ∀ r ∈ R, RcOk w r) : RcS (w.alloc (.cells C T)) (some ⟨g, 0, none⟩) n n R := by
 subst hg hn hC
 have b1 := below_new w (.cells (rvs R).toArray T)
 refine ⟨rfl, (fun h => by cases h), fun ad h t ht => ?_, fun r hr => (hok r hr).below b1, hb⟩
 obtain rfl := Option.some.inj h
 have hc : ∀ j, j < 3 → (w.alloc (.cells (rvs R).toArray T)).cell? ⟨w.heap.size, t * 3 + j, none⟩ = (ReC (mkR (R.getD t rc0))).toList[j]? := fun j hj => by
  rw [World.cell?_alloc_new, List.getElem?_toArray, rvs_at R t j ht hj]
 rw [Addr.add_lit, Nat.zero_add]
 refine ⟨?_, ?_, ?_⟩
 ·exact hc 0 (by omega)
 ·rw [Addr.add_lit]; exact hc 1 (by omega)
 ·rw [Addr.add_lit]; exact hc 2 (by omega)
def bldP (a : Array (Nat × Value)) : Sem Value := Instr.build 27 a
theorem bldP_eq (a : Array (Nat × Value)) : Instr.build 27 a = bldP a := rfl
theorem run_bldP2 (a b : Option Addr) (n c m d : Nat) (w : World) : (bldP #[(0, .slice a n c), (1, .slice b m d)]).run Tryz.prog w = .ok (.agg #[.slice a n c, .slice b m d]) w := by kernel_rfl
theorem run_bldP1 (a : Option Addr) (n c : Nat) (w : World) : (bldP #[(0, .slice a n c)]).run Tryz.prog w = .ok (.agg #[.slice a n c, .slice none 0 0]) w := by kernel_rfl
theorem run_bldP0 (w : World) : (bldP #[]).run Tryz.prog w = .ok (.agg #[.slice none 0 0, .slice none 0 0]) w := by kernel_rfl
def bldR (a : Array (Nat × Value)) : Sem Value := Instr.build 39 a
theorem bldR_eq (a : Array (Nat × Value)) : Instr.build 39 a = bldR a := rfl
theorem run_bldR2 (s : ByteArray) (a b : Option Addr) (n c m d : Nat) (w : World) : (bldR #[(0, .string s), (1, .agg #[.slice a n c, .slice b m d])]).run Tryz.prog w = .ok (.agg #[.string s, .slice a n c, .slice b m d]) w := by kernel_rfl
theorem run_bldR1 (s : ByteArray) (w : World) : (bldR #[(0, .string s)]).run Tryz.prog w = .ok (.agg #[.string s, .slice none 0 0, .slice none 0 0]) w := by kernel_rfl
theorem run_bldRp (s : ByteArray) (p : Pv) (w : World) : (bldR #[(0, .string s), (1, .agg (PC p))]).run Tryz.prog w = .ok (.agg (ReC (mkR ⟨s, p⟩))) w := by kernel_rfl
def bldE (a : Array (Nat × Value)) : Sem Value := Instr.build 49 a
theorem bldE_eq (a : Array (Nat × Value)) : Instr.build 49 a = bldE a := rfl
theorem run_bldE (a b q : Int) (s : ByteArray) (w : World) : (bldE #[(0, .agg #[.int .i64 a, .int .i64 b]), (1, .string s), (2, .int .i64 q)]).run Tryz.prog w = .ok (.agg #[.int .i64 a, .int .i64 b, .string s, .int .i64 q]) w := by kernel_rfl
def bldD (a : Array (Nat × Value)) : Sem Value := Instr.build 47 a
theorem bldD_eq (a : Array (Nat × Value)) : Instr.build 47 a = bldD a := rfl
theorem run_bldD (a b : Int) (w : World) : (bldD #[(0, .int .i64 a), (1, .int .i64 b)]).run Tryz.prog w = .ok (.agg #[.int .i64 a, .int .i64 b]) w := by kernel_rfl
def bldSp (a : Array (Nat × Value)) : Sem Value := Instr.build 62 a
theorem bldSp_eq (a : Array (Nat × Value)) : Instr.build 62 a = bldSp a := rfl
theorem run_bldSp (a b c : Int) (w : World) : (bldSp #[(0, .int .i64 a), (1, .int .i64 b), (2, .int .i64 c)]).run Tryz.prog w = .ok (.agg #[.int .i64 a, .int .i64 b, .int .i64 c]) w := by kernel_rfl
theorem cells_agg (xs : Array Value) : (Value.agg xs).cells = xs := by simp [Value.cells]
end Go.Proofs.YtfpmijfcemopoaaGreat
