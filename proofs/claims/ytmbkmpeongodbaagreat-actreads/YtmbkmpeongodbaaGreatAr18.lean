/- GKc PDk Shd PSd -/
import Derived.Test.YtmbkmpeongodbaaGreatTk
import Derived.Test.YtmbkmpeongodbaaGreatAr17
import Derived.Test.YtmbkmpeongodbaaGreatAr00
import Derived.Laws.AppendOwnNone
import Derived.Shelf.SlSortCmp.WholeK
import Derived.Test.YtmbkmpeongodbaaGreatProg
import Derived.Test.YtmbkmpeongodbaaGreatAr14
import Derived.Test.YtmbkmpeongodbaaGreatAr11
import Derived.Lib.BufferMore
namespace Go.Proofs.YtmbkmpeongodbaaGreat
open Go.RowKit
attribute [local go_sem ↓] ldP_eq stP_eq ldRe_eq stRe_eq
attribute [local go_sem] cells_PV PC_size cells_ReV ReC_size
theorem zero_ReC : (#[.string ⟨#[]⟩, .slice none 0 0, .slice none 0 0] : Array Value) = ReC re0 := rfl
attribute [local go_sem] zero_ReC
structure RcS (w : World) (ao : Option Addr) (n cap : Nat) (L : List Rc) : Prop where
 len : L.length = n
 nil : ao = none → n = 0
 at_ : ∀ ad, ao = some ad → ∀ t, t < n → ReAt w (ad.add (t * 3)) (mkR (L.getD t rc0))
 ok : ∀ r ∈ L, RcOk w r
 big : n ≤ 2199023255552
theorem RcS.below {w w' : World} {ao : Option Addr} {n cap : Nat} {L : List Rc} (h : RcS w ao n cap L) (hb : Below w.heap.size w w') : RcS w' ao n cap L :=
 ⟨h.len, h.nil, fun ad e t ht => (h.at_ ad e t ht).on hb, fun r hr => (h.ok r hr).below hb, h.big⟩
theorem RcS.at {w : World} {ao : Option Addr} {n cap : Nat} {L : List Rc} (h : RcS w ao n cap L) (k : Nat) (hk : k < n) : ∃ ad, ao = some ad ∧ ReAt w (ad.add (k * 3)) (mkR (L.getD k rc0)) := by
 cases ao with
 | none => have := h.nil rfl; omega
 | some ad => exact ⟨ad, rfl, h.at_ ad rfl k hk⟩
theorem RcS.okAt {w : World} {ao : Option Addr} {n cap : Nat} {L : List Rc} (h : RcS w ao n cap L) (k : Nat) (hk : k < n) : RcOk w (L.getD k rc0) := by
 have hl := h.len
 rw [List.getD_eq_getElem?_getD, List.getElem?_eq_getElem (by omega)]
 exact h.ok _ (List.getElem_mem _)
theorem RcS.empty (w : World) : RcS w none 0 0 [] := ⟨rfl, fun _ => rfl, (fun ad h => by cases h), (fun r h => by cases h), by decide⟩
def RecOk (r : Rc) : Prop := skuR r.s = true ∧ FormP r.p.P
def LtR (a b : Rc) : Prop := ∃ z, CmpR a b z ∧ z < 0
def OkR (L : List Rc) (k : Nat) : Prop := ∀ j, j < k → RecOk (L.getD j rc0) ∧ (0 < j → LtR (L.getD (j - 1) rc0) (L.getD j rc0))
theorem OkR.snoc {L : List Rc} {k : Nat} (h : OkR L k) (h1 : RecOk (L.getD k rc0)) (h2 : 0 < k → LtR (L.getD (k - 1) rc0) (L.getD k rc0)) : OkR L (k + 1) := by
 intro j hj
 by_cases e : j = k
 ·subst e; exact ⟨h1, h2⟩
 ·exact h j (by omega)
theorem okR_zero (L : List Rc) : OkR L 0 := fun j hj => absurd hj (Nat.not_lt_zero j)
def ChkR (L : List Rc) (n : Nat) (x : Int) : Prop := (x = 0 ∧ OkR L n) ∨ (x = 1 ∧ ¬ OkR L n)
set_option maxRecDepth 100000 in
set_option maxHeartbeats 3200000 in
theorem keepCheck_any (ao : Option Addr) (n cap : Nat) (L : List Rc) (w : World) (hS : RcS w ao n cap L) : Calls Tryz.prog 38 #[.slice ao n cap] w fun e w' => GivesK w w' e (ChkR L n) := by
 have HS := hide hS
 have hn := hS.big
 clear hS
 go_enter Tryz.func38, Tryz.ntmps38
 go_wp2_with fail
 go_loopw [7] (fun i wr => ∃ k : Nat, k ≤ n ∧ i = .int .i64 k ∧ Hid (OkR L k) ∧ Hid (Below w.heap.size w wr)) (fun i _ => n - (intOf i).toNat)
 case atStart => exact ⟨0, Nat.zero_le _, rfl, okR_zero L, Below.refl _ _⟩
 case round =>
  obtain ⟨k, hk, rfl, HK, HB⟩ := hrel
  rename World => wr
  by_cases hlt : k < n
  ·obtain ⟨ad, rfl, A0⟩ := (HS.out.below HB.out).at k hlt
   have hld := run_laRe A0
   have HO := hide ((HS.out.below HB.out).okAt k hlt)
   have HSr := hide (HS.out.below HB.out)
   obtain ⟨r, Hr⟩ : ∃ r, Hid (L.getD k rc0 = r) := ⟨_, rfl⟩
   rw [Hr.out] at hld HO
   obtain ⟨gr, hgr⟩ : ∃ g, wr.heap.size = g := ⟨_, rfl⟩
   obtain ⟨w1, hst, X1, B1, -⟩ := madeRe wr (mkR r) gr hgr
   have HX := hide X1
   have HB1 := hide (HB.out.trans (B1.mono HB.out.size))
   have HO1 := hide (HO.out.below B1)
   have HSr1 := hide (HSr.out.below B1)
   clear X1 B1 A0 HO HSr
   have Hlt := hide hlt
   by_cases hk0 : k = 0
   ·have hk1 : decide (0 < k) = false := by rw [decide_eq_false_iff_not]; omega
    have HK0 := hide hk0
    clear hk0
    go_wp2_with fail
    clear hst hld
    refine wp_region_held_drew (S := fun v => (ldRe (.pointer (some ⟨gr, 0, none⟩))).run Tryz.prog v = .ok (.agg (ReC (mkR r))) v) (by kernel_rfl) (run_ldRe (HX.out.below (below_drew1 w1))) (fun hHeld => ?_)
    refine wTk 0 ⟨some 12, .load 65 (.tmp 4), 65, "records.go:34", #[], none⟩ rfl ?_
    refine wpAnyH_ready (rs := [1]) (by kernel_rfl) (by simp) (.cons rfl (fun K hK => ?_) .nil)
    go_simp
    go_wp2_with fail
    refine (checkRecord_any r _ (HO1.out.below (below_drew1 w1))).mono ?_
    rintro e w2 ⟨x, rfl, hx, b2⟩
    have hB2 : Below w1.heap.size w1 w2 := (below_drew1 w1).trans b2
    have HB2 := hide hB2
    refine hK.out _ _ (run_ldRe (HX.out.below (hB2))) (fun hHeld => ?_)
    clear hK K b2
    by_cases hx0 : x = 0
    ·obtain rfl := hx0
     have HOk : Hid (RecOk (L.getD k rc0)) := by rw [Hr.out]; exact hx.zero.1 rfl
     clear hx
     refine wTk 2 ⟨some 14, .binOp .neq 37 (.tmp 13) (.const (.int .i64 0)) 37, 4, "records.go:34", #[⟨1, .data⟩], none⟩ rfl ?_
     refine wTk 3 ⟨some 15, .move (.tmp 14), 4, "records.go:34", #[⟨2, .data⟩, ⟨1, .chain⟩], none⟩ rfl ?_
     refine wTk 4 ⟨some 16, .move (.tmp 3), 3, "records.go:34", #[⟨3, .guard⟩], some (3, false)⟩ rfl ?_
     refine wTk 5 ⟨some 17, .binOp .gtr 3 (.tmp 16) (.const (.int .i64 0)) 3, 4, "records.go:34", #[⟨4, .data⟩, ⟨3, .guard⟩], some (3, false)⟩ rfl ?_
     refine wTk 6 ⟨some 18, .move (.tmp 17), 4, "records.go:34", #[⟨5, .data⟩, ⟨3, .chain⟩, ⟨3, .guard⟩], some (3, false)⟩ rfl ?_
     refine wSk 7 ⟨some 19, .move (.tmp 0), 34, "records.go:34", #[⟨6, .guard⟩], some (6, true)⟩ rfl ?_
     refine wSk 8 ⟨some 20, .move (.tmp 3), 3, "records.go:34", #[⟨6, .guard⟩], some (6, true)⟩ rfl ?_
     refine wSk 9 ⟨some 21, .binOp .sub 3 (.tmp 20) (.const (.int .i64 1)) 3, 3, "records.go:34", #[⟨8, .data⟩, ⟨6, .guard⟩], some (6, true)⟩ rfl ?_
     refine wSk 10 ⟨some 22, .indexAddr 34 (.tmp 19) (.tmp 21), 0, "records.go:34", #[⟨7, .data⟩, ⟨9, .data⟩, ⟨6, .guard⟩], some (6, true)⟩ rfl ?_
     refine wSk 11 ⟨some 23, .load 65 (.tmp 22), 65, "records.go:34", #[⟨10, .data⟩, ⟨6, .guard⟩], some (6, true)⟩ rfl ?_
     refine wSk 12 ⟨some 24, .load 65 (.tmp 4), 65, "records.go:34", #[⟨6, .guard⟩], some (6, true)⟩ rfl ?_
     refine wSk 13 ⟨some 25, .call ⟨.value (.func 81), #[.tmp 23, .tmp 24], #[65, 65]⟩, 3, "records.go:34", #[⟨11, .data⟩, ⟨12, .data⟩, ⟨6, .chain⟩, ⟨6, .guard⟩], some (6, true)⟩ rfl ?_
     refine wSk 14 ⟨some 26, .binOp .geq 3 (.tmp 25) (.const (.int .i64 0)) 3, 4, "records.go:34", #[⟨13, .data⟩, ⟨6, .guard⟩], some (6, true)⟩ rfl ?_
     refine wTk 15 ⟨some 27, .pick (.tmp 18) (.tmp 26) (.const (.bool false)), 4, "records.go:34", #[⟨6, .data⟩, ⟨14, .data⟩, ⟨3, .guard⟩], some (3, false)⟩ rfl ?_
     refine wTk 16 ⟨some 28, .pick (.tmp 15) (.const (.bool true)) (.tmp 27), 4, "records.go:34", #[⟨3, .data⟩, ⟨15, .data⟩], none⟩ rfl ?_
     refine wpAnyH_done (by kernel_rfl) ?_ _
     clear hHeld
     go_wp2_with fail
     go_roundw
     case rel => exact ⟨k + 1, by omega, by simp, HK.out.snoc HOk.out (fun h => absurd h (by have := HK0.out; omega)), HB1.out.trans (HB2.out.mono HB1.out.size)⟩
     case measure => simp [intOf]; omega
    ·have HNo : Hid (¬ OkR L n) := fun h => hx0 (hx.zero.2 (by have := (h k Hlt.out).1; rw [Hr.out] at this; exact this))
     have hxb : (x != 0) = true := by simpa using hx0
     clear hx hx0
     refine wTk 2 ⟨some 14, .binOp .neq 37 (.tmp 13) (.const (.int .i64 0)) 37, 4, "records.go:34", #[⟨1, .data⟩], none⟩ rfl ?_
     refine wTk 3 ⟨some 15, .move (.tmp 14), 4, "records.go:34", #[⟨2, .data⟩, ⟨1, .chain⟩], none⟩ rfl ?_
     refine wSk 4 ⟨some 16, .move (.tmp 3), 3, "records.go:34", #[⟨3, .guard⟩], some (3, false)⟩ rfl ?_
     refine wSk 5 ⟨some 17, .binOp .gtr 3 (.tmp 16) (.const (.int .i64 0)) 3, 4, "records.go:34", #[⟨4, .data⟩, ⟨3, .guard⟩], some (3, false)⟩ rfl ?_
     refine wSk 6 ⟨some 18, .move (.tmp 17), 4, "records.go:34", #[⟨5, .data⟩, ⟨3, .chain⟩, ⟨3, .guard⟩], some (3, false)⟩ rfl ?_
     refine wSk 7 ⟨some 19, .move (.tmp 0), 34, "records.go:34", #[⟨6, .guard⟩], some (6, true)⟩ rfl ?_
     refine wSk 8 ⟨some 20, .move (.tmp 3), 3, "records.go:34", #[⟨6, .guard⟩], some (6, true)⟩ rfl ?_
     refine wSk 9 ⟨some 21, .binOp .sub 3 (.tmp 20) (.const (.int .i64 1)) 3, 3, "records.go:34", #[⟨8, .data⟩, ⟨6, .guard⟩], some (6, true)⟩ rfl ?_
     refine wSk 10 ⟨some 22, .indexAddr 34 (.tmp 19) (.tmp 21), 0, "records.go:34", #[⟨7, .data⟩, ⟨9, .data⟩, ⟨6, .guard⟩], some (6, true)⟩ rfl ?_
     refine wSk 11 ⟨some 23, .load 65 (.tmp 22), 65, "records.go:34", #[⟨10, .data⟩, ⟨6, .guard⟩], some (6, true)⟩ rfl ?_
     refine wSk 12 ⟨some 24, .load 65 (.tmp 4), 65, "records.go:34", #[⟨6, .guard⟩], some (6, true)⟩ rfl ?_
     refine wSk 13 ⟨some 25, .call ⟨.value (.func 81), #[.tmp 23, .tmp 24], #[65, 65]⟩, 3, "records.go:34", #[⟨11, .data⟩, ⟨12, .data⟩, ⟨6, .chain⟩, ⟨6, .guard⟩], some (6, true)⟩ rfl ?_
     refine wSk 14 ⟨some 26, .binOp .geq 3 (.tmp 25) (.const (.int .i64 0)) 3, 4, "records.go:34", #[⟨13, .data⟩, ⟨6, .guard⟩], some (6, true)⟩ rfl ?_
     refine wSk 15 ⟨some 27, .pick (.tmp 18) (.tmp 26) (.const (.bool false)), 4, "records.go:34", #[⟨6, .data⟩, ⟨14, .data⟩, ⟨3, .guard⟩], some (3, false)⟩ rfl ?_
     refine wTk 16 ⟨some 28, .pick (.tmp 15) (.const (.bool true)) (.tmp 27), 4, "records.go:34", #[⟨3, .data⟩, ⟨15, .data⟩], none⟩ rfl ?_
     refine wpAnyH_done (by kernel_rfl) ?_ _
     clear hHeld
     go_wp2_with fail
     go_ret
     exact ⟨_, rfl, .inr ⟨rfl, HNo.out⟩, HB1.out.trans (HB2.out.mono HB1.out.size)⟩
   ·obtain ⟨j, Hj⟩ : ∃ j, Hid (k = j + 1) := ⟨k - 1, (show k = k - 1 + 1 by omega)⟩
    have hjn : j < n := by have := Hj.out; omega
    have hwj : IntKind.i64.wrap ((k : Int) - 1) = (j : Int) := by rw [IntKind.wrap_i64]; have := Hj.out; omega
    have hk1 : decide (0 < k) = true := by rw [decide_eq_true_iff]; omega
    obtain ⟨ad', e', Aj⟩ := HSr1.out.at j hjn
    obtain rfl := Option.some.inj e'
    have HOj := hide (HSr1.out.okAt j hjn)
    obtain ⟨q, Hq⟩ : ∃ q, Hid (L.getD j rc0 = q) := ⟨_, rfl⟩
    rw [Hq.out] at Aj HOj
    have HAj := hide Aj
    clear Aj e'
    go_wp2_with fail
    clear hst hld
    refine wp_region_held_drew (S := fun v => (ldRe (.pointer (some ⟨gr, 0, none⟩))).run Tryz.prog v = .ok (.agg (ReC (mkR r))) v ∧ (ldRe (.pointer (some (ad.add (j * 3))))).run Tryz.prog v = .ok (.agg (ReC (mkR q))) v) (by kernel_rfl) (⟨run_ldRe (HX.out.below (below_drew1 w1)), run_laRe (HAj.out.on (below_drew1 w1))⟩) (fun hHeld => ?_)
    refine wTk 0 ⟨some 12, .load 65 (.tmp 4), 65, "records.go:34", #[], none⟩ rfl ?_
    refine wpAnyH_ready (rs := [1]) (by kernel_rfl) (by simp) (.cons rfl (fun K hK => ?_) .nil)
    go_simp
    go_wp2_with fail
    refine (checkRecord_any r _ (HO1.out.below (below_drew1 w1))).mono ?_
    rintro e w2 ⟨x, rfl, hx, b2⟩
    have hB2 : Below w1.heap.size w1 w2 := (below_drew1 w1).trans b2
    have HB2 := hide hB2
    refine hK.out _ _ (⟨run_ldRe (HX.out.below (hB2)), run_laRe (HAj.out.on (hB2))⟩) (fun hHeld => ?_)
    clear hK K b2
    by_cases hx0 : x = 0
    ·obtain rfl := hx0
     have HOk : Hid (RecOk (L.getD k rc0)) := by rw [Hr.out]; exact hx.zero.1 rfl
     clear hx
     refine wTk 2 ⟨some 14, .binOp .neq 37 (.tmp 13) (.const (.int .i64 0)) 37, 4, "records.go:34", #[⟨1, .data⟩], none⟩ rfl ?_
     refine wTk 3 ⟨some 15, .move (.tmp 14), 4, "records.go:34", #[⟨2, .data⟩, ⟨1, .chain⟩], none⟩ rfl ?_
     refine wTk 4 ⟨some 16, .move (.tmp 3), 3, "records.go:34", #[⟨3, .guard⟩], some (3, false)⟩ rfl ?_
     refine wTk 5 ⟨some 17, .binOp .gtr 3 (.tmp 16) (.const (.int .i64 0)) 3, 4, "records.go:34", #[⟨4, .data⟩, ⟨3, .guard⟩], some (3, false)⟩ rfl ?_
     refine wTk 6 ⟨some 18, .move (.tmp 17), 4, "records.go:34", #[⟨5, .data⟩, ⟨3, .chain⟩, ⟨3, .guard⟩], some (3, false)⟩ rfl ?_
     refine wTk 7 ⟨some 19, .move (.tmp 0), 34, "records.go:34", #[⟨6, .guard⟩], some (6, true)⟩ rfl ?_
     refine wTk 8 ⟨some 20, .move (.tmp 3), 3, "records.go:34", #[⟨6, .guard⟩], some (6, true)⟩ rfl ?_
     refine wTk 9 ⟨some 21, .binOp .sub 3 (.tmp 20) (.const (.int .i64 1)) 3, 3, "records.go:34", #[⟨8, .data⟩, ⟨6, .guard⟩], some (6, true)⟩ rfl ?_
     refine wTk 10 ⟨some 22, .indexAddr 34 (.tmp 19) (.tmp 21), 0, "records.go:34", #[⟨7, .data⟩, ⟨9, .data⟩, ⟨6, .guard⟩], some (6, true)⟩ rfl ?_
     refine wTk 11 ⟨some 23, .load 65 (.tmp 22), 65, "records.go:34", #[⟨10, .data⟩, ⟨6, .guard⟩], some (6, true)⟩ rfl ?_
     refine wTk 12 ⟨some 24, .load 65 (.tmp 4), 65, "records.go:34", #[⟨6, .guard⟩], some (6, true)⟩ rfl ?_
     refine wpAnyH_ready (rs := [13]) (by kernel_rfl) (by simp) (.cons rfl (fun K hK => ?_) .nil)
     go_simp
     go_wp2_with fail
     refine (keepCompare_any q r _ (HOj.out.below hB2) (HO1.out.below hB2)).mono ?_
     rintro e w3 ⟨z, rfl, hz, b3⟩
     have hB3 : Below w1.heap.size w1 w3 := HB2.out.trans (b3.mono HB2.out.size)
     have HB3 := hide hB3
     refine hK.out _ _ (⟨run_ldRe (HX.out.below (hB3)), run_laRe (HAj.out.on (hB3))⟩) (fun hHeld => ?_)
     clear hK K b3 hB2
     by_cases hz0 : (0 : Int) ≤ z
     ·have hzb : decide (0 ≤ z) = true := decide_eq_true hz0
      have HNo : Hid (¬ OkR L n) := fun h => by
       have h2 := (h k Hlt.out).2 (by have := Hj.out; omega)
       rw [show k - 1 = j by have := Hj.out; omega, Hr.out, Hq.out] at h2
       obtain ⟨z2, h3, h4⟩ := h2
       have := hz.unique h3
       omega
      clear hz hz0
      refine wTk 14 ⟨some 26, .binOp .geq 3 (.tmp 25) (.const (.int .i64 0)) 3, 4, "records.go:34", #[⟨13, .data⟩, ⟨6, .guard⟩], some (6, true)⟩ rfl ?_
      refine wTk 15 ⟨some 27, .pick (.tmp 18) (.tmp 26) (.const (.bool false)), 4, "records.go:34", #[⟨6, .data⟩, ⟨14, .data⟩, ⟨3, .guard⟩], some (3, false)⟩ rfl ?_
      refine wTk 16 ⟨some 28, .pick (.tmp 15) (.const (.bool true)) (.tmp 27), 4, "records.go:34", #[⟨3, .data⟩, ⟨15, .data⟩], none⟩ rfl ?_
      refine wpAnyH_done (by kernel_rfl) ?_ _
      clear hHeld
      go_wp2_with fail
      go_ret
      exact ⟨_, rfl, .inr ⟨rfl, HNo.out⟩, HB1.out.trans (HB3.out.mono HB1.out.size)⟩
     ·have hzb : decide (0 ≤ z) = false := decide_eq_false hz0
      have HLt : Hid (0 < k → LtR (L.getD (k - 1) rc0) (L.getD k rc0)) := fun _ => by
       rw [show k - 1 = j by have := Hj.out; omega, Hr.out, Hq.out]
       exact ⟨z, hz, by omega⟩
      clear hz hz0
      refine wTk 14 ⟨some 26, .binOp .geq 3 (.tmp 25) (.const (.int .i64 0)) 3, 4, "records.go:34", #[⟨13, .data⟩, ⟨6, .guard⟩], some (6, true)⟩ rfl ?_
      refine wTk 15 ⟨some 27, .pick (.tmp 18) (.tmp 26) (.const (.bool false)), 4, "records.go:34", #[⟨6, .data⟩, ⟨14, .data⟩, ⟨3, .guard⟩], some (3, false)⟩ rfl ?_
      refine wTk 16 ⟨some 28, .pick (.tmp 15) (.const (.bool true)) (.tmp 27), 4, "records.go:34", #[⟨3, .data⟩, ⟨15, .data⟩], none⟩ rfl ?_
      refine wpAnyH_done (by kernel_rfl) ?_ _
      clear hHeld
      go_wp2_with fail
      go_roundw
      case rel => exact ⟨k + 1, by omega, by simp, HK.out.snoc HOk.out HLt.out, HB1.out.trans (HB3.out.mono HB1.out.size)⟩
      case measure => simp [intOf]; omega
    ·have HNo : Hid (¬ OkR L n) := fun h => hx0 (hx.zero.2 (by have := (h k Hlt.out).1; rw [Hr.out] at this; exact this))
     have hxb : (x != 0) = true := by simpa using hx0
     clear hx hx0
     refine wTk 2 ⟨some 14, .binOp .neq 37 (.tmp 13) (.const (.int .i64 0)) 37, 4, "records.go:34", #[⟨1, .data⟩], none⟩ rfl ?_
     refine wTk 3 ⟨some 15, .move (.tmp 14), 4, "records.go:34", #[⟨2, .data⟩, ⟨1, .chain⟩], none⟩ rfl ?_
     refine wSk 4 ⟨some 16, .move (.tmp 3), 3, "records.go:34", #[⟨3, .guard⟩], some (3, false)⟩ rfl ?_
     refine wSk 5 ⟨some 17, .binOp .gtr 3 (.tmp 16) (.const (.int .i64 0)) 3, 4, "records.go:34", #[⟨4, .data⟩, ⟨3, .guard⟩], some (3, false)⟩ rfl ?_
     refine wSk 6 ⟨some 18, .move (.tmp 17), 4, "records.go:34", #[⟨5, .data⟩, ⟨3, .chain⟩, ⟨3, .guard⟩], some (3, false)⟩ rfl ?_
     refine wSk 7 ⟨some 19, .move (.tmp 0), 34, "records.go:34", #[⟨6, .guard⟩], some (6, true)⟩ rfl ?_
     refine wSk 8 ⟨some 20, .move (.tmp 3), 3, "records.go:34", #[⟨6, .guard⟩], some (6, true)⟩ rfl ?_
     refine wSk 9 ⟨some 21, .binOp .sub 3 (.tmp 20) (.const (.int .i64 1)) 3, 3, "records.go:34", #[⟨8, .data⟩, ⟨6, .guard⟩], some (6, true)⟩ rfl ?_
     refine wSk 10 ⟨some 22, .indexAddr 34 (.tmp 19) (.tmp 21), 0, "records.go:34", #[⟨7, .data⟩, ⟨9, .data⟩, ⟨6, .guard⟩], some (6, true)⟩ rfl ?_
     refine wSk 11 ⟨some 23, .load 65 (.tmp 22), 65, "records.go:34", #[⟨10, .data⟩, ⟨6, .guard⟩], some (6, true)⟩ rfl ?_
     refine wSk 12 ⟨some 24, .load 65 (.tmp 4), 65, "records.go:34", #[⟨6, .guard⟩], some (6, true)⟩ rfl ?_
     refine wSk 13 ⟨some 25, .call ⟨.value (.func 81), #[.tmp 23, .tmp 24], #[65, 65]⟩, 3, "records.go:34", #[⟨11, .data⟩, ⟨12, .data⟩, ⟨6, .chain⟩, ⟨6, .guard⟩], some (6, true)⟩ rfl ?_
     refine wSk 14 ⟨some 26, .binOp .geq 3 (.tmp 25) (.const (.int .i64 0)) 3, 4, "records.go:34", #[⟨13, .data⟩, ⟨6, .guard⟩], some (6, true)⟩ rfl ?_
     refine wSk 15 ⟨some 27, .pick (.tmp 18) (.tmp 26) (.const (.bool false)), 4, "records.go:34", #[⟨6, .data⟩, ⟨14, .data⟩, ⟨3, .guard⟩], some (3, false)⟩ rfl ?_
     refine wTk 16 ⟨some 28, .pick (.tmp 15) (.const (.bool true)) (.tmp 27), 4, "records.go:34", #[⟨3, .data⟩, ⟨15, .data⟩], none⟩ rfl ?_
     refine wpAnyH_done (by kernel_rfl) ?_ _
     clear hHeld
     go_wp2_with fail
     go_ret
     exact ⟨_, rfl, .inr ⟨rfl, HNo.out⟩, HB1.out.trans (HB2.out.mono HB1.out.size)⟩
  ·obtain rfl : k = n := by omega
   go_wp2_with fail
   go_ret
   exact ⟨_, rfl, .inl ⟨rfl, HK.out⟩, HB.out⟩
end Go.Proofs.YtmbkmpeongodbaaGreat
namespace Go.Proofs.YtmbkmpeongodbaaGreat
open Go.RowKit

def ldD (v : Value) : Sem Value := Instr.loadAt 44 v
theorem ldD_eq (v : Value) : Instr.loadAt 44 v = ldD v := rfl
def stD (p v : Value) : Sem Unit := Instr.storeAt 44 p v
theorem stD_eq (p v : Value) : Instr.storeAt 44 p v = stD p v := rfl
theorem sizeD : (Tryz.prog.info? 44).map (·.size) = some 2 := by kernel_rfl
theorem infoD : (Tryz.prog.info? 44).map (fun i => (i.zero, i.size, i.bytes)) = some (some (.agg #[.int .i64 0, .int .i64 0]), 2, 16) := by kernel_rfl
theorem run_ldD {w : World} {p : Addr} {r : Rn} (A : RnAt w p r) : (ldD (.pointer (some p))).run Tryz.prog w = .ok (RV r) w := by
 have hl := run_loadCells_list (P := Tryz.prog) (w := w) p (RC r).toList (fun j v hv => by
  match j, hv with
  | 0, hv => cases hv; rw [add_zero]; exact A.c0
  | 1, hv => cases hv; exact A.c1
  | j + 2, hv => simp [RC] at hv)
 unfold ldD
 simp only [Instr.loadAt, Instr.sureAddr, Sem.run_bind, Sem.run_pure, Result.andThen]
 cases hq : Tryz.prog.info? 44 with
 | none => have := sizeD; simp [hq] at this
 | some x =>
  have hs : x.size = 2 := by have := sizeD; simpa [hq] using this
  have hagg : (isAgg 44).run Tryz.prog w = .ok true w := by
   unfold isAgg
   rw [Sem.run_bind, run_underlying Tryz.underlying44 w]
   rfl
  have e2 : (RC r).toList.length = 2 := rfl
  rw [e2] at hl
  simp [loadVar, Sem.run_bind, hagg, sizeOf, typeInfo, hq, hs, hl, RV]
theorem run_stD {w : World} {g : Nat} {T : TypeId} {r r' : Rn} (A : Box w g T r) : (stD (.pointer (some ⟨g, 0, none⟩)) (RV r')).run Tryz.prog w = .ok () (w.setRow g (RC r')) := by
 unfold stD
 have h := run_storeCells_from (P := Tryz.prog) g T (RC r').toList 0 (RC r) w A (by simp [RC]) (RC_one r')
 cases hq : Tryz.prog.info? 44 with
 | none => have := sizeD; simp [hq] at this
 | some x =>
  have hs : x.size = 2 := by have := sizeD; simpa [hq] using this
  simp only [Instr.storeAt, Instr.sureAddr, Sem.run_bind, Sem.run_pure, Result.andThen, storeVar, sizeOf, typeInfo, cells_RV, RC_size]
  simp at h
  simp [h, hq, hs]
theorem madeD (w : World) (r : Rn) (g : Nat) (hg : w.heap.size = g) : ∃ w' : World, (stD (.pointer (some ⟨g, 0, none⟩)) (RV r)).run Tryz.prog (w.alloc (.cells (RC rn0) 44)) = .ok () w' ∧ Box w' g 44 r ∧ Below w.heap.size w w' ∧ w'.heap.size = w.heap.size + 1 := by
 subst hg
 refine ⟨_, run_stD (box_new w 44 rn0), (box_new w 44 rn0).setRow, below_setRow (below_new w _) (Nat.le_refl _), by simp [World.setRow]⟩
structure OwnD (B0 B : Nat) (w w' : World) (ao : Option Addr) (cap : Nat) (acc : List Rn) : Prop where
 own : w'.ownsRow B 44 2 (.slice ao acc.length cap) acc.length (rcs acc)
 below : Below B0 w w'
 hB : B ≤ w'.heap.size
 hB0 : B0 ≤ B
theorem OwnD.later {B0 B : Nat} {w w' w2 : World} {ao : Option Addr} {cap : Nat} {acc : List Rn} (O : OwnD B0 B w w' ao cap acc) (hb : Below w'.heap.size w' w2) : OwnD B0 B w w2 ao cap acc := by
 refine ⟨⟨O.own.1, ?_⟩, O.below.trans (hb.mono (Nat.le_trans O.hB0 O.hB)), Nat.le_trans O.hB hb.size, O.hB0⟩
 rcases O.own.2 with h | ⟨g, cap2, cur, hv, hbg, hgg, r⟩
 ·exact Or.inl h
 ·exact Or.inr ⟨g, cap2, cur, hv, hbg, (hb.block g (Array.getElem?_eq_some_iff.1 hgg).1).trans hgg, r⟩
theorem rcs_cell {w : World} {E : List Rn} {ad : Addr} (h : ∀ t, t < E.length → RnAt w (ad.add (t * 2)) (E.getD t rn0)) (j : Nat) (u : Value) (hj : (rcs E)[j]? = some u) : w.cell? (ad.add j) = some u := by
 have hl : j < E.length * 2 := by rw [← rcs_length]; exact (List.getElem?_eq_some_iff.1 hj).1
 have ht : j / 2 < E.length := by omega
 have e := rcs_at E (j / 2) (j % 2) ht (by omega)
 rw [show j / 2 * 2 + j % 2 = j by omega, hj] at e
 have A := h (j / 2) ht
 have h2 : j % 2 = 0 ∨ j % 2 = 1 := by omega
 rcases h2 with h2 | h2
 ·rw [h2] at e
  have e' : u = .int .i64 (E.getD (j / 2) rn0).lo := by simpa [RC] using e
  rw [e', show ad.add j = ad.add (j / 2 * 2) by rw [show j / 2 * 2 = j by omega]]
  exact A.c0
 ·rw [h2] at e
  have e' : u = .int .i64 (E.getD (j / 2) rn0).hi := by simpa [RC] using e
  have := A.c1
  rw [add_add, show j / 2 * 2 + 1 = j by omega] at this
  rw [e']; exact this
theorem OwnD.append {B0 B : Nat} {w w' : World} {ao : Option Addr} {cap : Nat} {acc : List Rn} (O : OwnD B0 B w w' ao cap acc) (E : List Rn) (ad : Addr) (m c : Nat) (hm : E.length = m) (hE : ∀ t, t < m → RnAt w' (ad.add (t * 2)) (E.getD t rn0)) (hlen : acc.length + m ≤ 8796093022207)
  {ops : Array Oper} {rest : List Oper} {o : Oper} {a : Act} {Q : Exit → Act → World → Prop} (hgd : o.guard = none) (s x : Operand) (ho : o.op = .call { callee := .builtin .append, args := #[s, x], argTypes := #[59, 59] })
  (n : Nat) (hn : acc.length = n) (hs : a.eval s = .slice ao n cap) (hx : a.eval x = .slice (some ad) m c)
  (hK : ∀ (ao2 : Option Addr) (cap2 : Nat) (w2 : World), OwnD B0 B w w2 ao2 cap2 (acc ++ E) → wpList Tryz.prog ops Q rest (a.put o.dst (.slice ao2 (n + m) cap2)) w2) :
  wpList Tryz.prog ops Q (o :: rest) a w' := by
 subst hn hm
 obtain ⟨i0, hi, hz0, hz1, hz2⟩ := info_parts infoD
 have hB := O.hB
 have hB0 := O.hB0
 refine wpList_append_own _ hgd s x 59 ho B 44 i0 (.agg #[.int .i64 0, .int .i64 0]) 2 16 Tryz.underlying59 hi hz0 hz1 hz2 rfl (by decide) _ acc.length (rcs acc) hs O.own ad E.length c (rcs E) hx (rcs_length E) (fun j u hj => rcs_cell hE j u hj) (rcs_onecell E) (by unfold maxLen; omega) (by omega) hB ?_
 intro v' w2 hown hgrow _
 have hrow : ∀ k, (Value.slice ao acc.length cap).ownBlock = some k → B ≤ k := fun k hk => (O.own.lt k hk).1
 have hsz := hgrow.size
 have hb2 : Below B0 w w2 := O.below.grown hgrow (by omega) (fun k hk => by have := hrow k hk; omega)
 rw [← rcs_append] at hown
 rcases hown.2 with ⟨h0, h00⟩ | ⟨g, cap2, cur, hv, r⟩
 ·subst h0
  have e1 : acc = [] := List.eq_nil_of_length_eq_zero (by omega)
  have e2 : E = [] := List.eq_nil_of_length_eq_zero (by omega)
  subst e1 e2
  exact hK none 0 w2 ⟨hown, hb2, by omega, hB0⟩
 ·subst hv
  refine hK (some ⟨g, 0, none⟩) cap2 w2 ⟨?_, hb2, by omega, hB0⟩
  rw [List.length_append]; exact hown
theorem OwnD.appendNone {B0 B : Nat} {w w' : World} {ao : Option Addr} {cap : Nat} {acc : List Rn} (O : OwnD B0 B w w' ao cap acc)
  {ops : Array Oper} {rest : List Oper} {o : Oper} {a : Act} {Q : Exit → Act → World → Prop} (hgd : o.guard = none) (s x : Operand) (ho : o.op = .call { callee := .builtin .append, args := #[s, x], argTypes := #[59, 59] })
  (n : Nat) (hn : acc.length = n) (hs : a.eval s = .slice ao n cap) (hx : a.eval x = .slice none 0 0)
  (hK : wpList Tryz.prog ops Q rest (a.put o.dst (.slice ao n cap)) w') :
  wpList Tryz.prog ops Q (o :: rest) a w' := by
 subst hn
 obtain ⟨i0, hi, hz0, hz1, hz2⟩ := info_parts infoD
 exact wpList_append_own_none hgd s x 59 ho B 44 i0 2 Tryz.underlying59 hi _ acc.length (rcs acc) hs O.own hx hK
theorem OwnD.src {B0 B : Nat} {w w' : World} {ao : Option Addr} {cap : Nat} {acc : List Rn} (O : OwnD B0 B w w' ao cap acc) (hl : acc.length ≤ 8796093022207) : RSrc w' ao acc.length cap acc ∧ ∀ ad, ao = some ad → B ≤ ad.block := by
 rcases O.own.2 with ⟨h0, h00⟩ | ⟨g, cap2, cur, hv, hbg, hgg, hnc, hcm, hcsz, htake⟩
 ·simp only [Value.slice.injEq] at h0
  obtain ⟨rfl, e0, rfl⟩ := h0
  exact ⟨⟨rfl, fun _ => ⟨h00, rfl⟩, (fun ad h => by cases h), by omega, Nat.zero_le _, hl⟩, fun ad h => (by cases h)⟩
 ·simp only [Value.slice.injEq, true_and] at hv
  obtain ⟨rfl, rfl⟩ := hv
  have cell : ∀ t j, t < acc.length → j < 2 → w'.cell? ⟨g, t * 2 + j, none⟩ = (RC (acc.getD t rn0)).toList[j]? := fun t j ht hj => by
   rw [O.own.cellAt (t * 2 + j) (by omega), rcs_at _ t j ht hj]
  refine ⟨⟨rfl, fun h => (by cases h), fun ad h t ht => ?_, hnc, hcm, hl⟩, fun ad h => by obtain rfl := Option.some.inj h; exact hbg⟩
  obtain rfl := Option.some.inj h
  refine ⟨?_, ?_⟩
  ·rw [Addr.add_lit, Nat.zero_add]; exact cell t 0 ht (by omega)
  ·rw [Addr.add_lit, Addr.add_lit, Nat.zero_add]; exact cell t 1 ht (by omega)
theorem OwnD.appendS {B0 B : Nat} {w w' : World} {ao : Option Addr} {cap : Nat} {acc : List Rn} (O : OwnD B0 B w w' ao cap acc) (E : List Rn) (xo : Option Addr) (m c : Nat) (S : RSrc w' xo m c E) (hlen : acc.length + m ≤ 8796093022207)
  {ops : Array Oper} {rest : List Oper} {o : Oper} {a : Act} {Q : Exit → Act → World → Prop} (hgd : o.guard = none) (s x : Operand) (ho : o.op = .call { callee := .builtin .append, args := #[s, x], argTypes := #[59, 59] })
  (n : Nat) (hn : acc.length = n) (hs : a.eval s = .slice ao n cap) (hx : a.eval x = .slice xo m c)
  (hK : ∀ (ao2 : Option Addr) (cap2 : Nat) (w2 : World), OwnD B0 B w w2 ao2 cap2 (acc ++ E) → wpList Tryz.prog ops Q rest (a.put o.dst (.slice ao2 (n + m) cap2)) w2) :
  wpList Tryz.prog ops Q (o :: rest) a w' := by
 cases xo with
 | some ad => exact O.append E ad m c S.len (fun t ht => S.cell ad rfl t ht) hlen hgd s x ho n hn hs hx hK
 | none =>
  obtain ⟨rfl, rfl⟩ := S.nil rfl
  have e := List.eq_nil_of_length_eq_zero S.len
  subst e
  refine O.appendNone hgd s x ho n hn hs hx ?_
  have := hK ao cap w'
  rw [List.append_nil, Nat.add_zero] at this
  exact this O
theorem ownD_made (w : World) : OwnD w.heap.size w.heap.size w (w.alloc (.cells #[] 44)) (some ⟨w.heap.size, 0, none⟩) 0 [] :=
 ⟨World.ownsRow_made w #[] 0 (Nat.le_refl _) (Nat.zero_le _) rfl, below_new w _, by simp, Nat.le_refl _⟩
end Go.Proofs.YtmbkmpeongodbaaGreat
namespace Go.Proofs
open Go.Shelf
def Tryz.sortD_ren : Go.Shelf.Ren := ⟨fun | 6 => 127 | 15 => 162 | 14 => 161 | 28 => 187 | 29 => 188 | 20 => 179 | 21 => 180 | 22 => 181 | 23 => 182 | 24 => 183 | 25 => 184 | 26 => 185 | 27 => 186 | 46 => 215 | 47 => 216 | 48 => 217 | 49 => 218 | 50 => 219 | 57 => 230 | n => n, fun | 22 => 59 | 24 => 44 | 25 => 171 | 3 => 3 | 39 => 198 | 0 => 0 | 53 => 214 | 55 => 62 | 4 => 4 | 46 => 208 | 45 => 207 | 50 => 183 | 5 => 5 | 9 => 9 | 66 => 232 | 70 => 236 | 76 => 244 | 77 => 74 | n => n, fun | n => n⟩
theorem Tryz.sortD : Go.Proofs.SlLaysF0.n6 Tryz.prog Tryz.sortD_ren := {
 mixed := by kernel_rfl
 f6 := ⟨Tryz.f127.name, by decide, Tryz.func127.trans (congrArg some (by kernel_rfl))⟩
 f14 := ⟨Tryz.f161.name, by decide, Tryz.func161.trans (congrArg some (by kernel_rfl))⟩
 f15 := Tryz.func162.trans (congrArg some (by kernel_rfl))
 f20 := ⟨Tryz.f179.name, by decide, Tryz.func179.trans (congrArg some (by kernel_rfl))⟩
 f21 := ⟨Tryz.f180.name, by decide, Tryz.func180.trans (congrArg some (by kernel_rfl))⟩
 f22 := ⟨Tryz.f181.name, by decide, Tryz.func181.trans (congrArg some (by kernel_rfl))⟩
 f23 := ⟨Tryz.f182.name, by decide, Tryz.func182.trans (congrArg some (by kernel_rfl))⟩
 f24 := ⟨Tryz.f183.name, by decide, Tryz.func183.trans (congrArg some (by kernel_rfl))⟩
 f25 := ⟨Tryz.f184.name, by decide, Tryz.func184.trans (congrArg some (by kernel_rfl))⟩
 f26 := ⟨Tryz.f185.name, by decide, Tryz.func185.trans (congrArg some (by kernel_rfl))⟩
 f27 := ⟨Tryz.f186.name, by decide, Tryz.func186.trans (congrArg some (by kernel_rfl))⟩
 f28 := Tryz.func187.trans (congrArg some (by kernel_rfl))
 f29 := Tryz.func188.trans (congrArg some (by kernel_rfl))
 f46 := ⟨Tryz.f215.name, by decide, Tryz.func215.trans (congrArg some (by kernel_rfl))⟩
 f47 := Tryz.func216.trans (congrArg some (by kernel_rfl))
 f48 := Tryz.func217.trans (congrArg some (by kernel_rfl))
 f49 := ⟨Tryz.f218.name, by decide, Tryz.func218.trans (congrArg some (by kernel_rfl))⟩
 f50 := ⟨Tryz.f219.name, by decide, Tryz.func219.trans (congrArg some (by kernel_rfl))⟩
 f57 := ⟨Tryz.f230.name, by decide, Tryz.func230.trans (congrArg some (by kernel_rfl))⟩
 t0 := Tryz.underlying0
 a0 := Tryz.isAgg0
 z0 := Tryz.sizeOf0
 v0 := Tryz.zeroValue0
 t3 := Tryz.underlying3
 a3 := Tryz.isAgg3
 z3 := Tryz.sizeOf3
 v3 := Tryz.zeroValue3
 t4 := Tryz.underlying4
 a4 := Tryz.isAgg4
 z4 := Tryz.sizeOf4
 v4 := Tryz.zeroValue4
 t5 := Tryz.underlying5
 a5 := Tryz.isAgg5
 z5 := Tryz.sizeOf5
 v5 := Tryz.zeroValue5
 t9 := Tryz.underlying9
 a9 := Tryz.isAgg9
 z9 := Tryz.sizeOf9
 v9 := Tryz.zeroValue9
 t22 := Tryz.underlying59
 a22 := Tryz.isAgg59
 z22 := Tryz.sizeOf59
 v22 := Tryz.zeroValue59
 t25 := Tryz.underlying171
 a25 := Tryz.isAgg171
 z25 := Tryz.sizeOf171
 v25 := Tryz.zeroValue171
 t39 := Tryz.underlying198
 a39 := Tryz.isAgg198
 z39 := Tryz.sizeOf198
 v39 := Tryz.zeroValue198
 t45 := Tryz.underlying207
 a45 := Tryz.isAgg207
 z45 := Tryz.sizeOf207
 v45 := Tryz.zeroValue207
 t46 := Tryz.underlying208
 a46 := Tryz.isAgg208
 z46 := Tryz.sizeOf208
 v46 := Tryz.zeroValue208
 t50 := Tryz.underlying183
 a50 := Tryz.isAgg183
 z50 := Tryz.sizeOf183
 v50 := Tryz.zeroValue183
 t53 := Tryz.underlying214
 a53 := Tryz.isAgg214
 z53 := Tryz.sizeOf214
 v53 := Tryz.zeroValue214
 t55 := Tryz.underlying62
 a55 := Tryz.isAgg62
 z55 := Tryz.sizeOf62
 v55 := Tryz.zeroValue62
 t66 := Tryz.underlying232
 a66 := Tryz.isAgg232
 z66 := Tryz.sizeOf232
 v66 := Tryz.zeroValue232
 t70 := Tryz.underlying236
 a70 := Tryz.isAgg236
 z70 := Tryz.sizeOf236
 v70 := Tryz.zeroValue236
 t76 := Tryz.underlying244
 a76 := Tryz.isAgg244
 z76 := Tryz.sizeOf244
 v76 := Tryz.zeroValue244
 t77 := Tryz.underlying74
 a77 := Tryz.isAgg74
 z77 := Tryz.sizeOf74
 v77 := Tryz.zeroValue74 }
end Go.Proofs
namespace Go.Proofs.YtmbkmpeongodbaaGreat
open Go.RowKit Go.Sort

def or2 (a b : Int) : Int := if a = 0 then b else a
set_option maxHeartbeats 800000 in
theorem or2_any (g : Nat) (a b : Int) (w : World) (c0 : w.cell? ⟨g, 0, none⟩ = some (.int .i64 a)) (c1 : w.cell? ⟨g, 1, none⟩ = some (.int .i64 b)) :
  Calls Tryz.prog 93 #[.slice (some ⟨g, 0, none⟩) 2 2] w fun e w' => e = .returned (.int .i64 (or2 a b)) ∧ w' = w := by
 go_enter Tryz.func93, Tryz.ntmps93
 go_wp2
 go_loop [8] (fun i => ∃ k : Nat, k ≤ 2 ∧ i = .int .i64 k ∧ Hid (0 < k → a = 0) ∧ Hid (1 < k → b = 0)) (fun i => 2 - (intOf i).toNat)
 case atStart => exact ⟨0, Nat.zero_le _, rfl, fun h => absurd h (by omega), fun h => absurd h (by omega)⟩
 case round =>
  obtain ⟨k, hk, rfl, Ha, Hb⟩ := hrel
  by_cases hlt : k < 2
  ·obtain ⟨z, hcell, Hz⟩ : ∃ z, w.cell? ⟨g, k, none⟩ = some (.int .i64 z) ∧ Hid (or2 a b = if z = 0 ∧ k = 0 then b else z) := by
    match k, hlt, Ha with
    | 0, _, _ => exact ⟨a, c0, by show _ = _; unfold or2; by_cases h : a = 0 <;> simp [h]⟩
    | 1, _, Ha => exact ⟨b, c1, by show _ = _; unfold or2; rw [if_pos (Ha.out (by omega))]; simp⟩
   have Hz0 : Hid (z = 0 → (k = 0 → a = 0) ∧ (k = 1 → b = 0)) := by
    intro hz
    constructor
    ·intro h; subst h; rw [c0] at hcell; simpa [hz] using hcell
    ·intro h; subst h; rw [c1] at hcell; simpa [hz] using hcell
   clear c0 c1
   by_cases h0 : z = 0
   ·have hA := (Hz0.out h0).1
    have hB := (Hz0.out h0).2
    have HA : Hid (0 < k + 1 → a = 0) := by intro _; by_cases hk0 : k = 0; exact hA hk0; exact Ha.out (by omega)
    have HB : Hid (1 < k + 1 → b = 0) := by intro _; exact hB (by omega)
    have h0' : (z != 0) = false := by simpa using h0
    clear h0 hA hB
    go_wp2
    go_round
    case rel => exact ⟨k + 1, by omega, by go_num, HA, HB⟩
    case measure => simp [intOf]; omega
   ·have h0' : (z != 0) = true := by simpa using h0
    have HF : Hid (or2 a b = z) := by show _ = _; rw [Hz.out, if_neg (by simp [h0])]
    clear h0
    go_wp2
    go_ret
    exact ⟨ret_int HF.out.symm, rfl⟩
  ·have HF : Hid (or2 a b = 0) := by show _ = _; unfold or2; rw [if_pos (Ha.out (by omega))]; exact Hb.out (by omega)
   clear c0 c1
   go_wp2
   go_ret
   exact ⟨ret_int HF.out.symm, rfl⟩
def byD (x y : Rn) : Int := or2 (cmpI x.lo y.lo) (cmpI x.hi y.hi)
def aheadD (x y : Rn) : Bool := decide (x.lo < y.lo) || (x.lo == y.lo && decide (x.hi < y.hi))
theorem byD_lt (x y : Rn) : ltOf byD x y = aheadD x y := by
 unfold ltOf byD or2 cmpI aheadD
 by_cases h1 : x.lo < y.lo
 ·simp [h1]
 ·by_cases h2 : y.lo < x.lo
  ·have : ¬ x.lo = y.lo := by omega
   simp [h1, h2, this]
  ·have e : x.lo = y.lo := by omega
   by_cases h3 : x.hi < y.hi
   ·simp [e, h3]
   ·by_cases h4 : y.hi < x.hi <;> simp [e, h3, h4]
theorem byD_swo : SWO (ltOf byD) where
 irrefl x := by rw [byD_lt]; simp [aheadD]
 trans x y z h1 h2 := by rw [byD_lt] at *; simp [aheadD] at *; omega
 ntrans x y z h1 h2 := by rw [byD_lt] at *; simp [aheadD] at *; omega
theorem grew_by (w : World) (a b c : Obj) : Grew w (((w.alloc a).alloc b).drew.alloc c) := by
 refine ⟨1, #[a] ++ #[b] ++ #[c], ?_⟩
 rw [alloc_eq_grow ((w.alloc a).alloc b).drew c, alloc_eq_grow (w.alloc a) b, alloc_eq_grow w a, grow_grow, drew_grow, grow_grow]
 rfl
structure TwoD (w W : World) (x y : Rn) : Prop where
 below : Below w.heap.size w W
 size : w.heap.size + 2 ≤ W.heap.size
 a0 : W.cell? ⟨w.heap.size, 0, none⟩ = some (.int .i64 x.lo)
 a1 : W.cell? ⟨w.heap.size, 1, none⟩ = some (.int .i64 x.hi)
 b0 : W.cell? ⟨w.heap.size + 1, 0, none⟩ = some (.int .i64 y.lo)
 b1 : W.cell? ⟨w.heap.size + 1, 1, none⟩ = some (.int .i64 y.hi)
theorem TwoD.start (w : World) (x y : Rn) : TwoD w ((w.alloc (.cells #[.int .i64 x.lo, .int .i64 x.hi] 44)).alloc (.cells #[.int .i64 y.lo, .int .i64 y.hi] 44)) x y :=
 ⟨(below_new w _).trans ((below_new _ _).mono (by simp)), by simp, by simp, by simp, by simp, by simp⟩
theorem TwoD.on {w W W' : World} {x y : Rn} (h : TwoD w W x y) (hb : Below W.heap.size W W') : TwoD w W' x y :=
 ⟨h.below.trans (hb.mono h.below.size), Nat.le_trans h.size hb.size, (hb.cell (World.block_lt_of_cell? _ _ h.a0)).trans h.a0, (hb.cell (World.block_lt_of_cell? _ _ h.a1)).trans h.a1, (hb.cell (World.block_lt_of_cell? _ _ h.b0)).trans h.b0, (hb.cell (World.block_lt_of_cell? _ _ h.b1)).trans h.b1⟩
theorem or2_new (a b : Int) (w : World) (g : Nat) (hg : w.heap.size = g) : Calls Tryz.prog 93 #[.slice (some ⟨g, 0, none⟩) 2 2] (w.alloc (.cells #[.int .i64 a, .int .i64 b] 3)) fun e w' => e = .returned (.int .i64 (or2 a b)) ∧ w' = w.alloc (.cells #[.int .i64 a, .int .i64 b] 3) := by
 subst hg
 exact or2_any w.heap.size a b _ (by simp) (by simp)
set_option maxHeartbeats 1600000 in
theorem byDot_gr (x y : Rn) (w : World) : Calls Tryz.prog 128 #[.agg #[.int .i64 x.lo, .int .i64 x.hi], .agg #[.int .i64 y.lo, .int .i64 y.hi]] w fun e w' => e = .returned (.int .i64 (byD x y)) ∧ Grew w w' := by
 have T0 := hide (TwoD.start w x y)
 obtain ⟨w0, Hw0⟩ : ∃ w0, Hid ((w.alloc (.cells #[.int .i64 x.lo, .int .i64 x.hi] 44)).alloc (.cells #[.int .i64 y.lo, .int .i64 y.hi] 44) = w0) := ⟨_, rfl⟩
 rw [Hw0.out] at T0
 have c1 := T0.out.a0
 have c2 := T0.out.a1
 have c3 := T0.out.b0
 have c4 := T0.out.b1
 obtain ⟨p, Hp⟩ : ∃ p, Hid (cmpI x.lo y.lo = p) := ⟨_, rfl⟩
 obtain ⟨q, Hq⟩ : ∃ q, Hid (cmpI x.hi y.hi = q) := ⟨_, rfl⟩
 have C1 : Hid (∀ W, Calls Tryz.prog 94 #[.int .i64 x.lo, .int .i64 y.lo] W fun e w' => e = .returned (.int .i64 p) ∧ w' = W) := fun W => by rw [← Hp.out]; exact cmp_any _ _ W
 have C2 : Hid (∀ W, Calls Tryz.prog 94 #[.int .i64 x.hi, .int .i64 y.hi] W fun e w' => e = .returned (.int .i64 q) ∧ w' = W) := fun W => by rw [← Hq.out]; exact cmp_any _ _ W
 have HF : Hid (or2 p q = byD x y) := by show _ = _; unfold byD; rw [Hp.out, Hq.out]
 have T1 : Hid (TwoD w (w0.drew.alloc (.cells #[.int .i64 p, .int .i64 q] 3)) x y) := (T0.out.on (below_drew1 _)).on (below_new _ _)
 have HO := hide (or2_new p q w0.drew w0.heap.size rfl)
 have HG : Hid (Grew w (w0.drew.alloc (.cells #[.int .i64 p, .int .i64 q] 3))) := by rw [← Hw0.out]; exact grew_by _ _ _ _
 obtain ⟨r, m⟩ := x
 obtain ⟨r', m'⟩ := y
 go_enter Tryz.func128, Tryz.ntmps128
 go_wp2_with fail
 rw [Hw0.out]
 first | (go_region_held (fun W => W.cell? ⟨w.heap.size, 0, none⟩ = some (.int .i64 r) ∧ W.cell? ⟨w.heap.size, 1, none⟩ = some (.int .i64 m) ∧ W.cell? ⟨w.heap.size + 1, 0, none⟩ = some (.int .i64 r') ∧ W.cell? ⟨w.heap.size + 1, 1, none⟩ = some (.int .i64 m')) (first | exact ⟨T1.out.a0, T1.out.a1, T1.out.b0, T1.out.b1⟩ | go_keep) (first | (go_at_call_of 94 r; refine (C1.out _).mono ?_; rintro e w' ⟨rfl, rfl⟩) | (go_at_call_of 94 m; refine (C2.out _).mono ?_; rintro e w' ⟨rfl, rfl⟩) | (go_at_call 93; refine HO.out.mono ?_; rintro e w' ⟨rfl, rfl⟩))) | fail
 all_goals (go_wp2_with fail)
 all_goals go_ret
 all_goals exact ⟨ret_int HF.out, HG.out⟩
theorem cmpLaysD (blk size : Nat) (w : World) : CmpLays Tryz.prog 128 #[] encR 2 byD blk 0 size w :=
 fun _ _ _ _ x y => byDot_gr x y _
theorem sortD_any (ad : Addr) (cap n : Nat) (d : Array Rn) (w : World) (M : MR w ad d) (hn : d.size = n) (hb : n ≤ 8796093022207) :
  Calls Tryz.prog 127 #[.slice (some ad) n cap, .func (.func 128) #[] #[]] w fun e w' => e = .returned (.tuple #[]) ∧ ∃ d', d'.toList.Perm d.toList ∧ d'.size = n ∧ MR w' ad d' ∧ Below ad.block w w' := by
 subst hn
 have eg : ∀ args w, (callFunc 128 args).run Tryz.prog w = .ok (.enter 128 args) w := enters_of Tryz.func128 (by kernel_rfl) rfl
 have h := AnyQ.slices_SortFunc Tryz.sortD 2 Tryz.isAgg44 Tryz.sizeOf44 encR (fun _ => rfl) (fun x v hv => RC_one x v hv) byD byD_swo 128 #[] ad.block 0 cap d w eg (cmpLaysD ad.block d.size w) M.hk M.lt (by omega)
 rw [← M.ha] at h
 refine Calls.mono h ?_
 rintro e w' ⟨rfl, d', m, os, ⟨hs, _, hp⟩, _, rfl⟩
 refine ⟨rfl, d', ?_, hs, ⟨holdsK_sortWorldK_c encR 2 w ad.block 0 d d' m os M.hk M.lt hs, ?_, M.ha⟩, ?_⟩
 ·have e1 : d'.extract 0 d.size = d' := by rw [← hs]; simp
  have e2 : d.extract 0 d.size = d := by simp
  rwa [e1, e2] at hp
 ·have := M.lt
  show ad.block < ((putRow id (Sort.ahead w m) ad.block 0 (flatK encR 2 d')).heap ++ os).size
  rw [Array.size_append, size_putRow]
  show ad.block < w.heap.size + os.size
  omega
 ·have h1 : Below ad.block w (putRow id (Sort.ahead w m) ad.block 0 (flatK encR 2 d')) := Lib.below_putRow (Below.refl _ _) (Nat.le_refl _)
  refine h1.trans ?_
  have hsz : ad.block ≤ (putRow id (Sort.ahead w m) ad.block 0 (flatK encR 2 d')).heap.size := by rw [size_putRow]; exact Nat.le_of_lt M.lt
  show Below ad.block _ (grow (putRow id (Sort.ahead w m) ad.block 0 (flatK encR 2 d')) os)
  generalize putRow id (Sort.ahead w m) ad.block 0 (flatK encR 2 d') = V at hsz
  exact ⟨rfl, rfl, rfl, by show _ ≤ (V.heap ++ os).size; rw [Array.size_append]; omega, fun k hk => by show (V.heap ++ os)[k]? = _; rw [Array.getElem?_append_left (by omega)]⟩
theorem OwnD.mr {B0 B : Nat} {w w' : World} {ad : Addr} {cap : Nat} {acc : List Rn} (O : OwnD B0 B w w' (some ad) cap acc) : MR w' ad acc.toArray ∧ B ≤ ad.block ∧ acc.length ≤ cap ∧ cap ≤ maxLen := by
 rcases O.own.2 with ⟨h0, _⟩ | ⟨g, c, cur, hv, hbg, hgg, hnc, hcm, hcsz, htake⟩
 ·cases h0
 ·simp only [Value.slice.injEq, Option.some.injEq, true_and] at hv
  obtain ⟨rfl, rfl⟩ := hv
  refine ⟨⟨fun j hj => ?_, (Array.getElem?_eq_some_iff.1 hgg).1, rfl⟩, hbg, hnc, hcm⟩
  rw [Sort.size_flatK] at hj
  have hj' : j < acc.length * 2 := by simpa using hj
  refine ⟨?_, by simp [World.frozen?, hgg]⟩
  rw [Nat.zero_add, O.own.cellAt j (by omega), Sort.get_flatK _ _ _ _ hj]
  have e4 := rcs_at acc (j / 2) (j % 2) (by omega) (by omega)
  rw [show j / 2 * 2 + j % 2 = j by omega] at e4
  rw [e4]
  have e5 : acc.toArray[j / 2]! = acc.getD (j / 2) rn0 := by
   rw [getElem!_pos acc.toArray (j / 2) (by simp; omega)]; simp [List.getD, show j / 2 < acc.length by omega]
  rw [e5]
  have : j % 2 = 0 ∨ j % 2 = 1 := by omega
  rcases this with h | h <;> rw [h] <;> rfl
set_option maxRecDepth 100000 in
theorem cloneD_any (ad : Addr) (n c : Nat) (D : List Rn) (w : World) (hS : RSrc w (some ad) n c D) :
  Calls Tryz.prog 126 #[.slice (some ad) n c] w fun e w' => ∃ ao c', e = .returned (.slice ao n c') ∧ OwnD w.heap.size w.heap.size w w' ao c' D := by
 have HO := hide (ownD_made w)
 have HS := hide (hS.below (below_new w (.cells #[] 44)))
 have HB := hS.big
 have hnil : (binOp .eql 59 (.slice (some ad) n c) (.slice none 0 0)).run Tryz.prog w = .ok (.bool false) w := Lib.run_eql_slice_some_nil w _ _ _ Tryz.underlying59
 clear hS
 go_enter Tryz.func126, Tryz.ntmps126
 go_wp2_with (at_builtin; refine HO.out.appendS D (some ad) n c HS.out (by simp only [List.length_nil]; omega) rfl (.tmp 5) (.tmp 6) rfl 0 rfl rfl rfl ?_; intro ao3 c3 w3 O3; rw [List.nil_append] at O3; have HO3 := hide O3; clear O3)
 go_ret
 exact ⟨ao3, c3, by simp, HO3.out⟩
set_option maxRecDepth 100000 in
theorem compact1_any (ao : Option Addr) (n c : Nat) (w : World) (hn : n < 2) :
  Calls Tryz.prog 129 #[.slice ao n c] w fun e w' => e = .returned (.slice ao n c) ∧ w' = w := by
 have h : (n : Int) < 2 := by omega
 go_enter Tryz.func129, Tryz.ntmps129
 go_wp2_with fail
 go_ret
 exact ⟨rfl, rfl⟩
end Go.Proofs.YtmbkmpeongodbaaGreat

