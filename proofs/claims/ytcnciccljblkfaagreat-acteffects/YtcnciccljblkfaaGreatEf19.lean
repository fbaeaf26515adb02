/- GKc -/
import Derived.Test.YtcnciccljblkfaaGreatTk
import Derived.Test.YtcnciccljblkfaaGreatEf18
namespace Go.Proofs.YtcnciccljblkfaaGreat
open Go.RowKit
attribute [local go_sem ↓] ldP_eq stP_eq ldRe_eq stRe_eq
attribute [local go_sem] cells_PV PC_size cells_ReV ReC_size
theorem zero_ReC : (#[.string ⟨#[]⟩, .slice none 0 0, .slice none 0 0] : Array Value) = ReC re0 := rfl
attribute [local go_sem] zero_ReC
structure RcS (w : World) (ao : Option Addr) (n cap : Nat) (L : List Rc) : Prop where
 len : L.length = n
 nil : ao = none → n = 0
 at_ : ∀ ad, ao = some ad → ∀ t, t < n → ReAt w (ad.add (t * 3)) (mkR (L.getD t rc0))
 ok : ∀ r ∈ L, RcOk w r
 big : n ≤ 2199023255552
theorem RcS.below {w w' : World} {ao : Option Addr} {n cap : Nat} {L : List Rc} (h : RcS w ao n cap L) (hb : Below w.heap.size w w') : RcS w' ao n cap L :=
 ⟨h.len, h.nil, fun ad e t ht => (h.at_ ad e t ht).on hb, fun r hr => (h.ok r hr).below hb, h.big⟩
theorem RcS.at {w : World} {ao : Option Addr} {n cap : Nat} {L : List Rc} (h : RcS w ao n cap L) (k : Nat) (hk : k < n) : ∃ ad, ao = some ad ∧ ReAt w (ad.add (k * 3)) (mkR (L.getD k rc0)) := by
 cases ao with
 | none => have := h.nil rfl; omega
 | some ad => exact ⟨ad, rfl, h.at_ ad rfl k hk⟩
theorem RcS.okAt {w : World} {ao : Option Addr} {n cap : Nat} {L : List Rc} (h : RcS w ao n cap L) (k : Nat) (hk : k < n) : RcOk w (L.getD k rc0) := by
 have hl := h.len
 rw [List.getD_eq_getElem?_getD, List.getElem?_eq_getElem (by omega)]
 exact h.ok _ (List.getElem_mem _)
theorem RcS.empty (w : World) : RcS w none 0 0 [] := ⟨rfl, fun _ => rfl, (fun ad h => by cases h), (fun r h => by cases h), by decide⟩
def RecOk (r : Rc) : Prop := skuR r.s = true ∧ FormP r.p.P
def LtR (a b : Rc) : Prop := ∃ z, CmpR a b z ∧ z < 0
def OkR (L : List Rc) (k : Nat) : Prop := ∀ j, j < k → RecOk (L.getD j rc0) ∧ (0 < j → LtR (L.getD (j - 1) rc0) (L.getD j rc0))
theorem OkR.snoc {L : List Rc} {k : Nat} (h : OkR L k) (h1 : RecOk (L.getD k rc0)) (h2 : 0 < k → LtR (L.getD (k - 1) rc0) (L.getD k rc0)) : OkR L (k + 1) := by
 intro j hj
 by_cases e : j = k
 ·subst e; exact ⟨h1, h2⟩
 ·exact h j (by omega)
theorem okR_zero (L : List Rc) : OkR L 0 := fun j hj => absurd hj (Nat.not_lt_zero j)
def ChkR (L : List Rc) (n : Nat) (x : Int) : Prop := (x = 0 ∧ OkR L n) ∨ (x = 1 ∧ ¬ OkR L n)
set_option maxRecDepth 100000 in
set_option maxHeartbeats 3200000 in
theorem keepCheck_any (ao : Option Addr) (n cap : Nat) (L : List Rc) (w : World) (hS : RcS w ao n cap L) : Calls Tryz.prog 22 #[.slice ao n cap] w fun e w' => GivesK w w' e (ChkR L n) := by
 have HS := hide hS
 have hn := hS.big
 clear hS
 go_enter Tryz.func22, Tryz.ntmps22
 go_wp2_with fail
 go_loopw [7] (fun i wr => ∃ k : Nat, k ≤ n ∧ i = .int .i64 k ∧ Hid (OkR L k) ∧ Hid (Below w.heap.size w wr)) (fun i _ => n - (intOf i).toNat)
 case atStart => exact ⟨0, Nat.zero_le _, rfl, okR_zero L, Below.refl _ _⟩
 case round =>
  obtain ⟨k, hk, rfl, HK, HB⟩ := hrel
  rename World => wr
  by_cases hlt : k < n
  ·obtain ⟨ad, rfl, A0⟩ := (HS.out.below HB.out).at k hlt
   have hld := run_laRe A0
   have HO := hide ((HS.out.below HB.out).okAt k hlt)
   have HSr := hide (HS.out.below HB.out)
   obtain ⟨r, Hr⟩ : ∃ r, Hid (L.getD k rc0 = r) := ⟨_, rfl⟩
   rw [Hr.out] at hld HO
   obtain ⟨gr, hgr⟩ : ∃ g, wr.heap.size = g := ⟨_, rfl⟩
   obtain ⟨w1, hst, X1, B1, -⟩ := madeRe wr (mkR r) gr hgr
   have HX := hide X1
   have HB1 := hide (HB.out.trans (B1.mono HB.out.size))
   have HO1 := hide (HO.out.below B1)
   have HSr1 := hide (HSr.out.below B1)
   clear X1 B1 A0 HO HSr
   have Hlt := hide hlt
   by_cases hk0 : k = 0
   ·have hk1 : decide (0 < k) = false := by rw [decide_eq_false_iff_not]; omega
    have HK0 := hide hk0
    clear hk0
    go_wp2_with fail
    clear hst hld
    refine wp_region_held_drew (S := fun v => (ldRe (.pointer (some ⟨gr, 0, none⟩))).run Tryz.prog v = .ok (.agg (ReC (mkR r))) v) (by kernel_rfl) (run_ldRe (HX.out.below (below_drew1 w1))) (fun hHeld => ?_)
    refine wTk 0 ⟨some 12, .load 52 (.tmp 4), 52, "records.go:34", #[], none⟩ rfl ?_
    refine wpAnyH_ready (rs := [1]) (by kernel_rfl) (by simp) (.cons rfl (fun K hK => ?_) .nil)
    go_simp
    go_wp2_with fail
    refine (checkRecord_any r _ (HO1.out.below (below_drew1 w1))).mono ?_
    rintro e w2 ⟨x, rfl, hx, b2⟩
    have hB2 : Below w1.heap.size w1 w2 := (below_drew1 w1).trans b2
    have HB2 := hide hB2
    refine hK.out _ _ (run_ldRe (HX.out.below (hB2))) (fun hHeld => ?_)
    clear hK K b2
    by_cases hx0 : x = 0
    ·obtain rfl := hx0
     have HOk : Hid (RecOk (L.getD k rc0)) := by rw [Hr.out]; exact hx.zero.1 rfl
     clear hx
     refine wTk 2 ⟨some 14, .binOp .neq 30 (.tmp 13) (.const (.int .i64 0)) 30, 4, "records.go:34", #[⟨1, .data⟩], none⟩ rfl ?_
     refine wTk 3 ⟨some 15, .move (.tmp 14), 4, "records.go:34", #[⟨2, .data⟩, ⟨1, .chain⟩], none⟩ rfl ?_
     refine wTk 4 ⟨some 16, .move (.tmp 3), 3, "records.go:34", #[⟨3, .guard⟩], some (3, false)⟩ rfl ?_
     refine wTk 5 ⟨some 17, .binOp .gtr 3 (.tmp 16) (.const (.int .i64 0)) 3, 4, "records.go:34", #[⟨4, .data⟩, ⟨3, .guard⟩], some (3, false)⟩ rfl ?_
     refine wTk 6 ⟨some 18, .move (.tmp 17), 4, "records.go:34", #[⟨5, .data⟩, ⟨3, .chain⟩, ⟨3, .guard⟩], some (3, false)⟩ rfl ?_
     refine wSk 7 ⟨some 19, .move (.tmp 0), 27, "records.go:34", #[⟨6, .guard⟩], some (6, true)⟩ rfl ?_
     refine wSk 8 ⟨some 20, .move (.tmp 3), 3, "records.go:34", #[⟨6, .guard⟩], some (6, true)⟩ rfl ?_
     refine wSk 9 ⟨some 21, .binOp .sub 3 (.tmp 20) (.const (.int .i64 1)) 3, 3, "records.go:34", #[⟨8, .data⟩, ⟨6, .guard⟩], some (6, true)⟩ rfl ?_
     refine wSk 10 ⟨some 22, .indexAddr 27 (.tmp 19) (.tmp 21), 0, "records.go:34", #[⟨7, .data⟩, ⟨9, .data⟩, ⟨6, .guard⟩], some (6, true)⟩ rfl ?_
     refine wSk 11 ⟨some 23, .load 52 (.tmp 22), 52, "records.go:34", #[⟨10, .data⟩, ⟨6, .guard⟩], some (6, true)⟩ rfl ?_
     refine wSk 12 ⟨some 24, .load 52 (.tmp 4), 52, "records.go:34", #[⟨6, .guard⟩], some (6, true)⟩ rfl ?_
     refine wSk 13 ⟨some 25, .call ⟨.value (.func 49), #[.tmp 23, .tmp 24], #[52, 52]⟩, 3, "records.go:34", #[⟨11, .data⟩, ⟨12, .data⟩, ⟨6, .chain⟩, ⟨6, .guard⟩], some (6, true)⟩ rfl ?_
     refine wSk 14 ⟨some 26, .binOp .geq 3 (.tmp 25) (.const (.int .i64 0)) 3, 4, "records.go:34", #[⟨13, .data⟩, ⟨6, .guard⟩], some (6, true)⟩ rfl ?_
     refine wTk 15 ⟨some 27, .pick (.tmp 18) (.tmp 26) (.const (.bool false)), 4, "records.go:34", #[⟨6, .data⟩, ⟨14, .data⟩, ⟨3, .guard⟩], some (3, false)⟩ rfl ?_
     refine wTk 16 ⟨some 28, .pick (.tmp 15) (.const (.bool true)) (.tmp 27), 4, "records.go:34", #[⟨3, .data⟩, ⟨15, .data⟩], none⟩ rfl ?_
     refine wpAnyH_done (by kernel_rfl) ?_ _
     clear hHeld
     go_wp2_with fail
     go_roundw
     case rel => exact ⟨k + 1, by omega, by simp, HK.out.snoc HOk.out (fun h => absurd h (by have := HK0.out; omega)), HB1.out.trans (HB2.out.mono HB1.out.size)⟩
     case measure => simp [intOf]; omega
    ·have HNo : Hid (¬ OkR L n) := fun h => hx0 (hx.zero.2 (by have := (h k Hlt.out).1; rw [Hr.out] at this; exact this))
     have hxb : (x != 0) = true := by simpa using hx0
     clear hx hx0
     refine wTk 2 ⟨some 14, .binOp .neq 30 (.tmp 13) (.const (.int .i64 0)) 30, 4, "records.go:34", #[⟨1, .data⟩], none⟩ rfl ?_
     refine wTk 3 ⟨some 15, .move (.tmp 14), 4, "records.go:34", #[⟨2, .data⟩, ⟨1, .chain⟩], none⟩ rfl ?_
     refine wSk 4 ⟨some 16, .move (.tmp 3), 3, "records.go:34", #[⟨3, .guard⟩], some (3, false)⟩ rfl ?_
     refine wSk 5 ⟨some 17, .binOp .gtr 3 (.tmp 16) (.const (.int .i64 0)) 3, 4, "records.go:34", #[⟨4, .data⟩, ⟨3, .guard⟩], some (3, false)⟩ rfl ?_
     refine wSk 6 ⟨some 18, .move (.tmp 17), 4, "records.go:34", #[⟨5, .data⟩, ⟨3, .chain⟩, ⟨3, .guard⟩], some (3, false)⟩ rfl ?_
     refine wSk 7 ⟨some 19, .move (.tmp 0), 27, "records.go:34", #[⟨6, .guard⟩], some (6, true)⟩ rfl ?_
     refine wSk 8 ⟨some 20, .move (.tmp 3), 3, "records.go:34", #[⟨6, .guard⟩], some (6, true)⟩ rfl ?_
     refine wSk 9 ⟨some 21, .binOp .sub 3 (.tmp 20) (.const (.int .i64 1)) 3, 3, "records.go:34", #[⟨8, .data⟩, ⟨6, .guard⟩], some (6, true)⟩ rfl ?_
     refine wSk 10 ⟨some 22, .indexAddr 27 (.tmp 19) (.tmp 21), 0, "records.go:34", #[⟨7, .data⟩, ⟨9, .data⟩, ⟨6, .guard⟩], some (6, true)⟩ rfl ?_
     refine wSk 11 ⟨some 23, .load 52 (.tmp 22), 52, "records.go:34", #[⟨10, .data⟩, ⟨6, .guard⟩], some (6, true)⟩ rfl ?_
     refine wSk 12 ⟨some 24, .load 52 (.tmp 4), 52, "records.go:34", #[⟨6, .guard⟩], some (6, true)⟩ rfl ?_
     refine wSk 13 ⟨some 25, .call ⟨.value (.func 49), #[.tmp 23, .tmp 24], #[52, 52]⟩, 3, "records.go:34", #[⟨11, .data⟩, ⟨12, .data⟩, ⟨6, .chain⟩, ⟨6, .guard⟩], some (6, true)⟩ rfl ?_
     refine wSk 14 ⟨some 26, .binOp .geq 3 (.tmp 25) (.const (.int .i64 0)) 3, 4, "records.go:34", #[⟨13, .data⟩, ⟨6, .guard⟩], some (6, true)⟩ rfl ?_
     refine wSk 15 ⟨some 27, .pick (.tmp 18) (.tmp 26) (.const (.bool false)), 4, "records.go:34", #[⟨6, .data⟩, ⟨14, .data⟩, ⟨3, .guard⟩], some (3, false)⟩ rfl ?_
     refine wTk 16 ⟨some 28, .pick (.tmp 15) (.const (.bool true)) (.tmp 27), 4, "records.go:34", #[⟨3, .data⟩, ⟨15, .data⟩], none⟩ rfl ?_
     refine wpAnyH_done (by kernel_rfl) ?_ _
     clear hHeld
     go_wp2_with fail
     go_ret
     exact ⟨_, rfl, .inr ⟨rfl, HNo.out⟩, HB1.out.trans (HB2.out.mono HB1.out.size)⟩
   ·obtain ⟨j, Hj⟩ : ∃ j, Hid (k = j + 1) := ⟨k - 1, (show k = k - 1 + 1 by omega)⟩
    have hjn : j < n := by have := Hj.out; omega
    have hwj : IntKind.i64.wrap ((k : Int) - 1) = (j : Int) := by rw [IntKind.wrap_i64]; have := Hj.out; omega
    have hk1 : decide (0 < k) = true := by rw [decide_eq_true_iff]; omega
    obtain ⟨ad', e', Aj⟩ := HSr1.out.at j hjn
    obtain rfl := Option.some.inj e'
    have HOj := hide (HSr1.out.okAt j hjn)
    obtain ⟨q, Hq⟩ : ∃ q, Hid (L.getD j rc0 = q) := ⟨_, rfl⟩
    rw [Hq.out] at Aj HOj
    have HAj := hide Aj
    clear Aj e'
    go_wp2_with fail
    clear hst hld
    refine wp_region_held_drew (S := fun v => (ldRe (.pointer (some ⟨gr, 0, none⟩))).run Tryz.prog v = .ok (.agg (ReC (mkR r))) v ∧ (ldRe (.pointer (some (ad.add (j * 3))))).run Tryz.prog v = .ok (.agg (ReC (mkR q))) v) (by kernel_rfl) (⟨run_ldRe (HX.out.below (below_drew1 w1)), run_laRe (HAj.out.on (below_drew1 w1))⟩) (fun hHeld => ?_)
    refine wTk 0 ⟨some 12, .load 52 (.tmp 4), 52, "records.go:34", #[], none⟩ rfl ?_
    refine wpAnyH_ready (rs := [1]) (by kernel_rfl) (by simp) (.cons rfl (fun K hK => ?_) .nil)
    go_simp
    go_wp2_with fail
    refine (checkRecord_any r _ (HO1.out.below (below_drew1 w1))).mono ?_
    rintro e w2 ⟨x, rfl, hx, b2⟩
    have hB2 : Below w1.heap.size w1 w2 := (below_drew1 w1).trans b2
    have HB2 := hide hB2
    refine hK.out _ _ (⟨run_ldRe (HX.out.below (hB2)), run_laRe (HAj.out.on (hB2))⟩) (fun hHeld => ?_)
    clear hK K b2
    by_cases hx0 : x = 0
    ·obtain rfl := hx0
     have HOk : Hid (RecOk (L.getD k rc0)) := by rw [Hr.out]; exact hx.zero.1 rfl
     clear hx
     refine wTk 2 ⟨some 14, .binOp .neq 30 (.tmp 13) (.const (.int .i64 0)) 30, 4, "records.go:34", #[⟨1, .data⟩], none⟩ rfl ?_
     refine wTk 3 ⟨some 15, .move (.tmp 14), 4, "records.go:34", #[⟨2, .data⟩, ⟨1, .chain⟩], none⟩ rfl ?_
     refine wTk 4 ⟨some 16, .move (.tmp 3), 3, "records.go:34", #[⟨3, .guard⟩], some (3, false)⟩ rfl ?_
     refine wTk 5 ⟨some 17, .binOp .gtr 3 (.tmp 16) (.const (.int .i64 0)) 3, 4, "records.go:34", #[⟨4, .data⟩, ⟨3, .guard⟩], some (3, false)⟩ rfl ?_
     refine wTk 6 ⟨some 18, .move (.tmp 17), 4, "records.go:34", #[⟨5, .data⟩, ⟨3, .chain⟩, ⟨3, .guard⟩], some (3, false)⟩ rfl ?_
     refine wTk 7 ⟨some 19, .move (.tmp 0), 27, "records.go:34", #[⟨6, .guard⟩], some (6, true)⟩ rfl ?_
     refine wTk 8 ⟨some 20, .move (.tmp 3), 3, "records.go:34", #[⟨6, .guard⟩], some (6, true)⟩ rfl ?_
     refine wTk 9 ⟨some 21, .binOp .sub 3 (.tmp 20) (.const (.int .i64 1)) 3, 3, "records.go:34", #[⟨8, .data⟩, ⟨6, .guard⟩], some (6, true)⟩ rfl ?_
     refine wTk 10 ⟨some 22, .indexAddr 27 (.tmp 19) (.tmp 21), 0, "records.go:34", #[⟨7, .data⟩, ⟨9, .data⟩, ⟨6, .guard⟩], some (6, true)⟩ rfl ?_
     refine wTk 11 ⟨some 23, .load 52 (.tmp 22), 52, "records.go:34", #[⟨10, .data⟩, ⟨6, .guard⟩], some (6, true)⟩ rfl ?_
     refine wTk 12 ⟨some 24, .load 52 (.tmp 4), 52, "records.go:34", #[⟨6, .guard⟩], some (6, true)⟩ rfl ?_
     refine wpAnyH_ready (rs := [13]) (by kernel_rfl) (by simp) (.cons rfl (fun K hK => ?_) .nil)
     go_simp
     go_wp2_with fail
     refine (keepCompare_any q r _ (HOj.out.below hB2) (HO1.out.below hB2)).mono ?_
     rintro e w3 ⟨z, rfl, hz, b3⟩
     have hB3 : Below w1.heap.size w1 w3 := HB2.out.trans (b3.mono HB2.out.size)
     have HB3 := hide hB3
     refine hK.out _ _ (⟨run_ldRe (HX.out.below (hB3)), run_laRe (HAj.out.on (hB3))⟩) (fun hHeld => ?_)
     clear hK K b3 hB2
     by_cases hz0 : (0 : Int) ≤ z
     ·have hzb : decide (0 ≤ z) = true := decide_eq_true hz0
      have HNo : Hid (¬ OkR L n) := fun h => by
       have h2 := (h k Hlt.out).2 (by have := Hj.out; omega)
       rw [show k - 1 = j by have := Hj.out; omega, Hr.out, Hq.out] at h2
       obtain ⟨z2, h3, h4⟩ := h2
       have := hz.unique h3
       omega
      clear hz hz0
      refine wTk 14 ⟨some 26, .binOp .geq 3 (.tmp 25) (.const (.int .i64 0)) 3, 4, "records.go:34", #[⟨13, .data⟩, ⟨6, .guard⟩], some (6, true)⟩ rfl ?_
      refine wTk 15 ⟨some 27, .pick (.tmp 18) (.tmp 26) (.const (.bool false)), 4, "records.go:34", #[⟨6, .data⟩, ⟨14, .data⟩, ⟨3, .guard⟩], some (3, false)⟩ rfl ?_
      refine wTk 16 ⟨some 28, .pick (.tmp 15) (.const (.bool true)) (.tmp 27), 4, "records.go:34", #[⟨3, .data⟩, ⟨15, .data⟩], none⟩ rfl ?_
      refine wpAnyH_done (by kernel_rfl) ?_ _
      clear hHeld
      go_wp2_with fail
      go_ret
      exact ⟨_, rfl, .inr ⟨rfl, HNo.out⟩, HB1.out.trans (HB3.out.mono HB1.out.size)⟩
     ·have hzb : decide (0 ≤ z) = false := decide_eq_false hz0
      have HLt : Hid (0 < k → LtR (L.getD (k - 1) rc0) (L.getD k rc0)) := fun _ => by
       rw [show k - 1 = j by have := Hj.out; omega, Hr.out, Hq.out]
       exact ⟨z, hz, by omega⟩
      clear hz hz0
      refine wTk 14 ⟨some 26, .binOp .geq 3 (.tmp 25) (.const (.int .i64 0)) 3, 4, "records.go:34", #[⟨13, .data⟩, ⟨6, .guard⟩], some (6, true)⟩ rfl ?_
      refine wTk 15 ⟨some 27, .pick (.tmp 18) (.tmp 26) (.const (.bool false)), 4, "records.go:34", #[⟨6, .data⟩, ⟨14, .data⟩, ⟨3, .guard⟩], some (3, false)⟩ rfl ?_
      refine wTk 16 ⟨some 28, .pick (.tmp 15) (.const (.bool true)) (.tmp 27), 4, "records.go:34", #[⟨3, .data⟩, ⟨15, .data⟩], none⟩ rfl ?_
      refine wpAnyH_done (by kernel_rfl) ?_ _
      clear hHeld
      go_wp2_with fail
      go_roundw
      case rel => exact ⟨k + 1, by omega, by simp, HK.out.snoc HOk.out HLt.out, HB1.out.trans (HB3.out.mono HB1.out.size)⟩
      case measure => simp [intOf]; omega
    ·have HNo : Hid (¬ OkR L n) := fun h => hx0 (hx.zero.2 (by have := (h k Hlt.out).1; rw [Hr.out] at this; exact this))
     have hxb : (x != 0) = true := by simpa using hx0
     clear hx hx0
     refine wTk 2 ⟨some 14, .binOp .neq 30 (.tmp 13) (.const (.int .i64 0)) 30, 4, "records.go:34", #[⟨1, .data⟩], none⟩ rfl ?_
     refine wTk 3 ⟨some 15, .move (.tmp 14), 4, "records.go:34", #[⟨2, .data⟩, ⟨1, .chain⟩], none⟩ rfl ?_
     refine wSk 4 ⟨some 16, .move (.tmp 3), 3, "records.go:34", #[⟨3, .guard⟩], some (3, false)⟩ rfl ?_
     refine wSk 5 ⟨some 17, .binOp .gtr 3 (.tmp 16) (.const (.int .i64 0)) 3, 4, "records.go:34", #[⟨4, .data⟩, ⟨3, .guard⟩], some (3, false)⟩ rfl ?_
     refine wSk 6 ⟨some 18, .move (.tmp 17), 4, "records.go:34", #[⟨5, .data⟩, ⟨3, .chain⟩, ⟨3, .guard⟩], some (3, false)⟩ rfl ?_
     refine wSk 7 ⟨some 19, .move (.tmp 0), 27, "records.go:34", #[⟨6, .guard⟩], some (6, true)⟩ rfl ?_
     refine wSk 8 ⟨some 20, .move (.tmp 3), 3, "records.go:34", #[⟨6, .guard⟩], some (6, true)⟩ rfl ?_
     refine wSk 9 ⟨some 21, .binOp .sub 3 (.tmp 20) (.const (.int .i64 1)) 3, 3, "records.go:34", #[⟨8, .data⟩, ⟨6, .guard⟩], some (6, true)⟩ rfl ?_
     refine wSk 10 ⟨some 22, .indexAddr 27 (.tmp 19) (.tmp 21), 0, "records.go:34", #[⟨7, .data⟩, ⟨9, .data⟩, ⟨6, .guard⟩], some (6, true)⟩ rfl ?_
     refine wSk 11 ⟨some 23, .load 52 (.tmp 22), 52, "records.go:34", #[⟨10, .data⟩, ⟨6, .guard⟩], some (6, true)⟩ rfl ?_
     refine wSk 12 ⟨some 24, .load 52 (.tmp 4), 52, "records.go:34", #[⟨6, .guard⟩], some (6, true)⟩ rfl ?_
     refine wSk 13 ⟨some 25, .call ⟨.value (.func 49), #[.tmp 23, .tmp 24], #[52, 52]⟩, 3, "records.go:34", #[⟨11, .data⟩, ⟨12, .data⟩, ⟨6, .chain⟩, ⟨6, .guard⟩], some (6, true)⟩ rfl ?_
     refine wSk 14 ⟨some 26, .binOp .geq 3 (.tmp 25) (.const (.int .i64 0)) 3, 4, "records.go:34", #[⟨13, .data⟩, ⟨6, .guard⟩], some (6, true)⟩ rfl ?_
     refine wSk 15 ⟨some 27, .pick (.tmp 18) (.tmp 26) (.const (.bool false)), 4, "records.go:34", #[⟨6, .data⟩, ⟨14, .data⟩, ⟨3, .guard⟩], some (3, false)⟩ rfl ?_
     refine wTk 16 ⟨some 28, .pick (.tmp 15) (.const (.bool true)) (.tmp 27), 4, "records.go:34", #[⟨3, .data⟩, ⟨15, .data⟩], none⟩ rfl ?_
     refine wpAnyH_done (by kernel_rfl) ?_ _
     clear hHeld
     go_wp2_with fail
     go_ret
     exact ⟨_, rfl, .inr ⟨rfl, HNo.out⟩, HB1.out.trans (HB2.out.mono HB1.out.size)⟩
  ·obtain rfl : k = n := by omega
   go_wp2_with fail
   go_ret
   exact ⟨_, rfl, .inl ⟨rfl, HK.out⟩, HB.out⟩
end Go.Proofs.YtcnciccljblkfaaGreat

