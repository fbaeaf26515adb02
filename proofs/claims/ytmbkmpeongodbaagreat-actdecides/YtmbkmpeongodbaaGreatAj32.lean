/- GEr QRy QRv QCb -/
import Derived.Test.YtmbkmpeongodbaaGreatTk
import Derived.Test.YtmbkmpeongodbaaGreatAj18
import Derived.Test.YtmbkmpeongodbaaGreatAj15
import Derived.Test.YtmbkmpeongodbaaGreatAj00
import Derived.Test.YtmbkmpeongodbaaGreatAj09
namespace Go.Proofs.YtmbkmpeongodbaaGreat.K
open Go.RowKit
attribute [local go_sem ↓] ld28_eq st28_eq ld26_eq
attribute [local go_sem] zero_EC cells_EV
def isD (x : En) : Bool := (isR x.rep && decide (1 ≤ x.num)) && decide (x.num ≤ 1000000000)
theorem ret_b {a b : Bool} (h : a = b) : Ending.returned (.bool b) = .returned (.bool a) := by rw [h]
set_option maxRecDepth 100000 in
theorem refIsDot_any (x : En) (w : World) : Calls Tryz.prog 40 #[.agg (DC x)] w fun e w' => e = .returned (.bool (isD x)) ∧ Below w.heap.size w w' := by
 have HB := hide (below_new w (.cells #[.int .i64 x.rep, .int .i64 x.num] 44))
 unfold DC
 obtain ⟨r, m, s, q⟩ := x
 by_cases h1 : 0 ≤ r
 ·by_cases h2 : r < 16
  ·by_cases h3 : 1 ≤ m
   ·have HF : Hid (isD ⟨r, m, s, q⟩ = decide (m ≤ 1000000000)) := by show _ = _; unfold isD isR; simp [h1, h2, h3]
    go_enter Tryz.func40, Tryz.ntmps40
    go_wp2
    go_ret
    exact ⟨ret_b HF.out, HB.out⟩
   ·have HF : Hid (isD ⟨r, m, s, q⟩ = false) := by show _ = _; unfold isD isR; simp [h3]
    go_enter Tryz.func40, Tryz.ntmps40
    go_wp2
    go_ret
    exact ⟨ret_b HF.out, HB.out⟩
  ·have HF : Hid (isD ⟨r, m, s, q⟩ = false) := by show _ = _; unfold isD isR; simp [h2]
   go_enter Tryz.func40, Tryz.ntmps40
   go_wp2
   go_ret
   exact ⟨ret_b HF.out, HB.out⟩
 ·have HF : Hid (isD ⟨r, m, s, q⟩ = false) := by show _ = _; unfold isD isR; simp [h1]
  go_enter Tryz.func40, Tryz.ntmps40
  go_wp2
  go_ret
  exact ⟨ret_b HF.out, HB.out⟩
theorem ceE_zero (e : En) : (ceE e == 0) = (((isD e && good e.sku.data.toList) && decide (1 ≤ e.qty)) && decide (e.qty ≤ 1000000)) := by
 unfold ceE isD
 by_cases h1 : isR e.rep = false
 ·rw [if_pos h1, h1]; simp
 ·have h1' : isR e.rep = true := by simpa using h1
  rw [if_neg h1, h1']
  by_cases h2 : e.num < 1 ∨ 1000000000 < e.num
  ·rw [if_pos h2]
   rcases h2 with h2 | h2
   ·simp [show ¬ 1 ≤ e.num by omega]
   ·simp [show ¬ e.num ≤ 1000000000 by omega]
  ·rw [if_neg h2]
   simp only [show decide (1 ≤ e.num) = true from decide_eq_true (by omega), show decide (e.num ≤ 1000000000) = true from decide_eq_true (by omega), Bool.and_true, Bool.true_and]
   by_cases h3 : good e.sku.data.toList = false
   ·rw [if_pos h3, h3]; simp
   ·have h3' : good e.sku.data.toList = true := by simpa using h3
    rw [if_neg h3, h3']
    by_cases h4 : e.qty < 1 ∨ 1000000 < e.qty
    ·rw [if_pos h4]
     rcases h4 with h4 | h4
     ·simp [show ¬ 1 ≤ e.qty by omega]
     ·simp [show ¬ e.qty ≤ 1000000 by omega]
    ·rw [if_neg h4]
     simp [show 1 ≤ e.qty by omega, show e.qty ≤ 1000000 by omega]
set_option maxRecDepth 100000 in
theorem refEntry_any (e : En) (w : World) (hs : e.sku.size ≤ maxLen) : Calls Tryz.prog 59 #[EV e] w fun x w' => x = .returned (.bool (ceE e == 0)) ∧ Below w.heap.size w w' := by
 rw [ceE_zero e]
 have b1 := below_new w (.cells (EC e) 46)
 have hx := heap_alloc_new w (.cells (EC e) 46)
 obtain ⟨wk, hwk⟩ : ∃ wk, w.alloc (.cells (EC e) 46) = wk := ⟨_, rfl⟩
 obtain ⟨G, hG⟩ : ∃ G, w.heap.size = G := ⟨_, rfl⟩
 rw [hwk] at b1 hx
 rw [hG] at hx
 have HA : Hid (EnAt wk ⟨G, 0, none⟩ e) := by
  refine ⟨?_, ?_, ?_, ?_⟩ <;> simp [Addr.add, World.cell?, hx, EC]
 have HB := hide b1
 clear b1 hx
 have l1 := run_ld26 HA.out
 go_enter Tryz.func59, Tryz.ntmps59
 go_wp2_with fail
 clear hwk hG
 refine (refIsDot_any e _).mono ?_
 rintro x w2 ⟨rfl, b2⟩
 have HB2 := hide (HB.out.trans (b2.mono HB.out.size))
 have A2 := HA.out.on b2
 have c2 : w2.cell? ⟨G, 2, none⟩ = some (.string e.sku) := A2.c2
 have c3 : w2.cell? ⟨G, 3, none⟩ = some (.int .i64 e.qty) := A2.c3
 clear b2 A2 l1
 cases hd : isD e with
 | false =>
  have HD := hide hd
  clear hd
  go_wp2_with fail
  go_ret
  exact ⟨ret_b (by rw [HD.out]; rfl), HB2.out⟩
 | true =>
  have HD := hide hd
  clear hd
  go_wp2_with fail
  refine (refGood_any e.sku _ hs).mono ?_
  rintro x w' ⟨rfl, rfl⟩
  cases hg : good e.sku.data.toList with
  | false =>
   have HG := hide hg
   clear hg
   go_wp2_with fail
   go_ret
   exact ⟨ret_b (by rw [HD.out, HG.out]; rfl), HB2.out⟩
  | true =>
   have HG := hide hg
   clear hg
   by_cases h1 : 1 ≤ e.qty
   ·go_wp2_with fail
    go_ret
    exact ⟨ret_b (by rw [HD.out, HG.out, decide_eq_true h1]; rfl), HB2.out⟩
   ·go_wp2_with fail
    go_ret
    exact ⟨ret_b (by rw [HD.out, HG.out, decide_eq_false (show ¬ 1 ≤ e.qty by omega)]; rfl), HB2.out⟩
set_option maxRecDepth 100000 in
theorem refBefore_any (x y : En) (w : World) : Calls Tryz.prog 60 #[.agg (DC x), .agg (DC y)] w fun e w' => e = .returned (.bool (ahead x y)) ∧ Below w.heap.size w w' := by
 have HB : Hid (Below w.heap.size w ((w.alloc (.cells #[.int .i64 x.rep, .int .i64 x.num] 44)).alloc (.cells #[.int .i64 y.rep, .int .i64 y.num] 44))) := (below_new w _).trans ((below_new _ _).mono (below_new w (.cells #[.int .i64 x.rep, .int .i64 x.num] 44)).size)
 unfold DC
 obtain ⟨r, m, s, q⟩ := x
 obtain ⟨r', m', s', q'⟩ := y
 by_cases h1 : r < r'
 ·have HF : Hid (ahead ⟨r, m, s, q⟩ ⟨r', m', s', q'⟩ = true) := by show _ = _; unfold ahead; rw [decide_eq_true h1]; rfl
  go_enter Tryz.func60, Tryz.ntmps60
  go_wp2
  go_ret
  exact ⟨ret_b HF.out, HB.out⟩
 ·by_cases h2 : r = r'
  ·have HF : Hid (ahead ⟨r, m, s, q⟩ ⟨r', m', s', q'⟩ = decide (m < m')) := by show _ = _; unfold ahead; rw [decide_eq_false h1]; simp [h2]
   have h2' : (r == r') = true := by simpa using h2
   clear h2
   go_enter Tryz.func60, Tryz.ntmps60
   go_wp2
   go_ret
   exact ⟨ret_b HF.out, HB.out⟩
  ·have HF : Hid (ahead ⟨r, m, s, q⟩ ⟨r', m', s', q'⟩ = false) := by show _ = _; unfold ahead; rw [decide_eq_false h1]; simp [h2]
   have h2' : (r == r') = false := by simpa using h2
   clear h2
   go_enter Tryz.func60, Tryz.ntmps60
   go_wp2
   go_ret
   exact ⟨ret_b HF.out, HB.out⟩
set_option maxRecDepth 100000 in
set_option maxHeartbeats 3200000 in
theorem refEntries_any (ao : Option Addr) (n cap : Nat) (L : List En) (w : World) (hS : ESrc w ao n cap L) : Calls Tryz.prog 22 #[.slice ao n cap] w fun e w' => e = .returned (.bool (okN L n)) ∧ Below w.heap.size w w' := by
 have HS := hide hS
 have hn := hS.2.2.2.2
 clear hS
 go_enter Tryz.func22, Tryz.ntmps22
 go_wp2_with fail
 go_loopw [3] (fun i wr => ∃ k : Nat, k ≤ n ∧ i = .int .i64 k ∧ Hid (okN L k = true) ∧ Hid (Below w.heap.size w wr)) (fun i _ => n - (intOf i).toNat)
 case atStart => exact ⟨0, Nat.zero_le _, rfl, rfl, Below.refl _ _⟩
 case round =>
  obtain ⟨k, hk, rfl, HK, HB⟩ := hrel
  rename World => wr
  by_cases hlt : k < n
  ·obtain ⟨ad, rfl, A0⟩ := (HS.out.below HB.out).at k hlt
   have HSr := hide (HS.out.below HB.out)
   obtain ⟨e, He⟩ : ∃ e, Hid (L.getD k en0 = e) := ⟨_, rfl⟩
   have hsk := HS.out.sku k hlt
   rw [He.out] at A0 hsk
   have HA := hide A0
   have HSK := hide hsk
   clear A0 hsk
   have Hlt := hide hlt
   by_cases hk0 : k = 0
   ·have hk1 : decide (0 < k) = false := by rw [decide_eq_false_iff_not]; omega
    have HK0 := hide hk0
    have hat : Hid (okAt L k = (ceE e == 0)) := by show _ = _; unfold okAt; rw [He.out, hk0]; simp
    clear hk0
    go_wp2_with fail
    refine wp_region_held_drew (S := fun v => (ld28 (.pointer (some (ad.add (k * 4))))).run Tryz.prog v = .ok (EV e) v) (by kernel_rfl) (run_ld28 (HA.out.on (below_drew1 wr))) (fun hHeld => ?_)
    refine wTk 0 ⟨some 10, .move (.tmp 0), 22, "ref.go:51", #[], none⟩ rfl ?_
    refine wTk 1 ⟨some 11, .move (.tmp 3), 3, "ref.go:51", #[], none⟩ rfl ?_
    refine wTk 2 ⟨some 12, .indexAddr 22 (.tmp 10) (.tmp 11), 0, "ref.go:51", #[⟨0, .data⟩, ⟨1, .data⟩], none⟩ rfl ?_
    refine wTk 3 ⟨some 13, .load 46 (.tmp 12), 46, "ref.go:51", #[⟨2, .data⟩], none⟩ rfl ?_
    refine wpAnyH_ready (rs := [4]) (by kernel_rfl) (by simp) (.cons rfl (fun K hK => ?_) .nil)
    go_simp
    go_wp2_with fail
    refine (refEntry_any e _ HSK.out).mono ?_
    rintro x w2 ⟨rfl, b2⟩
    have hB2 : Below wr.heap.size wr w2 := (below_drew1 wr).trans b2
    have HB2 := hide hB2
    refine hK.out _ _ (run_ld28 (HA.out.on (hB2))) (fun hHeld => ?_)
    clear hK K b2
    cases hc : (ceE e == 0) with
    | false =>
     have HN : Hid (okN L n = false) := okN_no L k n Hlt.out (by rw [hat.out, hc])
     clear hc
     refine wTk 5 ⟨some 15, .unOp .not 4 (.tmp 14), 4, "ref.go:51", #[⟨4, .data⟩], none⟩ rfl ?_
     refine wTk 6 ⟨some 16, .move (.tmp 15), 4, "ref.go:51", #[⟨5, .data⟩, ⟨4, .chain⟩], none⟩ rfl ?_
     refine wSk 7 ⟨some 17, .move (.tmp 3), 3, "ref.go:51", #[⟨6, .guard⟩], some (6, false)⟩ rfl ?_
     refine wSk 8 ⟨some 18, .binOp .gtr 3 (.tmp 17) (.const (.int .i64 0)) 3, 4, "ref.go:51", #[⟨7, .data⟩, ⟨6, .guard⟩], some (6, false)⟩ rfl ?_
     refine wSk 9 ⟨some 19, .move (.tmp 18), 4, "ref.go:51", #[⟨8, .data⟩, ⟨6, .chain⟩, ⟨6, .guard⟩], some (6, false)⟩ rfl ?_
     refine wSk 10 ⟨some 20, .move (.tmp 0), 22, "ref.go:51", #[⟨9, .guard⟩], some (9, true)⟩ rfl ?_
     refine wSk 11 ⟨some 21, .move (.tmp 3), 3, "ref.go:51", #[⟨9, .guard⟩], some (9, true)⟩ rfl ?_
     refine wSk 12 ⟨some 22, .binOp .sub 3 (.tmp 21) (.const (.int .i64 1)) 3, 3, "ref.go:51", #[⟨11, .data⟩, ⟨9, .guard⟩], some (9, true)⟩ rfl ?_
     refine wSk 13 ⟨some 23, .indexAddr 22 (.tmp 20) (.tmp 22), 0, "ref.go:51", #[⟨10, .data⟩, ⟨12, .data⟩, ⟨9, .guard⟩], some (9, true)⟩ rfl ?_
     refine wSk 14 ⟨some 24, .fieldAddr 46 (.tmp 23) 0, 0, "ref.go:51", #[⟨13, .data⟩, ⟨9, .guard⟩], some (9, true)⟩ rfl ?_
     refine wSk 15 ⟨some 25, .load 44 (.tmp 24), 44, "ref.go:51", #[⟨14, .data⟩, ⟨9, .guard⟩], some (9, true)⟩ rfl ?_
     refine wSk 16 ⟨some 26, .move (.tmp 0), 22, "ref.go:51", #[⟨9, .guard⟩], some (9, true)⟩ rfl ?_
     refine wSk 17 ⟨some 27, .move (.tmp 3), 3, "ref.go:51", #[⟨9, .guard⟩], some (9, true)⟩ rfl ?_
     refine wSk 18 ⟨some 28, .indexAddr 22 (.tmp 26) (.tmp 27), 0, "ref.go:51", #[⟨16, .data⟩, ⟨17, .data⟩, ⟨9, .guard⟩], some (9, true)⟩ rfl ?_
     refine wSk 19 ⟨some 29, .fieldAddr 46 (.tmp 28) 0, 0, "ref.go:51", #[⟨18, .data⟩, ⟨9, .guard⟩], some (9, true)⟩ rfl ?_
     refine wSk 20 ⟨some 30, .load 44 (.tmp 29), 44, "ref.go:51", #[⟨19, .data⟩, ⟨9, .guard⟩], some (9, true)⟩ rfl ?_
     refine wSk 21 ⟨some 31, .call ⟨.value (.func 60), #[.tmp 25, .tmp 30], #[44, 44]⟩, 4, "ref.go:51", #[⟨15, .data⟩, ⟨20, .data⟩, ⟨9, .chain⟩, ⟨9, .guard⟩], some (9, true)⟩ rfl ?_
     refine wSk 22 ⟨some 32, .unOp .not 4 (.tmp 31), 4, "ref.go:51", #[⟨21, .data⟩, ⟨9, .guard⟩], some (9, true)⟩ rfl ?_
     refine wSk 23 ⟨some 33, .pick (.tmp 19) (.tmp 32) (.const (.bool false)), 4, "ref.go:51", #[⟨9, .data⟩, ⟨22, .data⟩, ⟨6, .guard⟩], some (6, false)⟩ rfl ?_
     refine wTk 24 ⟨some 34, .pick (.tmp 16) (.const (.bool true)) (.tmp 33), 4, "ref.go:51", #[⟨6, .data⟩, ⟨23, .data⟩], none⟩ rfl ?_
     refine wpAnyH_done (by kernel_rfl) ?_ _
     clear hHeld
     go_wp2_with fail
     go_ret
     exact ⟨by rw [HN.out]; rfl, HB.out.trans (HB2.out.mono HB.out.size)⟩
    | true =>
     have HC := hide hc
     clear hc
     refine wTk 5 ⟨some 15, .unOp .not 4 (.tmp 14), 4, "ref.go:51", #[⟨4, .data⟩], none⟩ rfl ?_
     refine wTk 6 ⟨some 16, .move (.tmp 15), 4, "ref.go:51", #[⟨5, .data⟩, ⟨4, .chain⟩], none⟩ rfl ?_
     refine wTk 7 ⟨some 17, .move (.tmp 3), 3, "ref.go:51", #[⟨6, .guard⟩], some (6, false)⟩ rfl ?_
     refine wTk 8 ⟨some 18, .binOp .gtr 3 (.tmp 17) (.const (.int .i64 0)) 3, 4, "ref.go:51", #[⟨7, .data⟩, ⟨6, .guard⟩], some (6, false)⟩ rfl ?_
     refine wTk 9 ⟨some 19, .move (.tmp 18), 4, "ref.go:51", #[⟨8, .data⟩, ⟨6, .chain⟩, ⟨6, .guard⟩], some (6, false)⟩ rfl ?_
     refine wSk 10 ⟨some 20, .move (.tmp 0), 22, "ref.go:51", #[⟨9, .guard⟩], some (9, true)⟩ rfl ?_
     refine wSk 11 ⟨some 21, .move (.tmp 3), 3, "ref.go:51", #[⟨9, .guard⟩], some (9, true)⟩ rfl ?_
     refine wSk 12 ⟨some 22, .binOp .sub 3 (.tmp 21) (.const (.int .i64 1)) 3, 3, "ref.go:51", #[⟨11, .data⟩, ⟨9, .guard⟩], some (9, true)⟩ rfl ?_
     refine wSk 13 ⟨some 23, .indexAddr 22 (.tmp 20) (.tmp 22), 0, "ref.go:51", #[⟨10, .data⟩, ⟨12, .data⟩, ⟨9, .guard⟩], some (9, true)⟩ rfl ?_
     refine wSk 14 ⟨some 24, .fieldAddr 46 (.tmp 23) 0, 0, "ref.go:51", #[⟨13, .data⟩, ⟨9, .guard⟩], some (9, true)⟩ rfl ?_
     refine wSk 15 ⟨some 25, .load 44 (.tmp 24), 44, "ref.go:51", #[⟨14, .data⟩, ⟨9, .guard⟩], some (9, true)⟩ rfl ?_
     refine wSk 16 ⟨some 26, .move (.tmp 0), 22, "ref.go:51", #[⟨9, .guard⟩], some (9, true)⟩ rfl ?_
     refine wSk 17 ⟨some 27, .move (.tmp 3), 3, "ref.go:51", #[⟨9, .guard⟩], some (9, true)⟩ rfl ?_
     refine wSk 18 ⟨some 28, .indexAddr 22 (.tmp 26) (.tmp 27), 0, "ref.go:51", #[⟨16, .data⟩, ⟨17, .data⟩, ⟨9, .guard⟩], some (9, true)⟩ rfl ?_
     refine wSk 19 ⟨some 29, .fieldAddr 46 (.tmp 28) 0, 0, "ref.go:51", #[⟨18, .data⟩, ⟨9, .guard⟩], some (9, true)⟩ rfl ?_
     refine wSk 20 ⟨some 30, .load 44 (.tmp 29), 44, "ref.go:51", #[⟨19, .data⟩, ⟨9, .guard⟩], some (9, true)⟩ rfl ?_
     refine wSk 21 ⟨some 31, .call ⟨.value (.func 60), #[.tmp 25, .tmp 30], #[44, 44]⟩, 4, "ref.go:51", #[⟨15, .data⟩, ⟨20, .data⟩, ⟨9, .chain⟩, ⟨9, .guard⟩], some (9, true)⟩ rfl ?_
     refine wSk 22 ⟨some 32, .unOp .not 4 (.tmp 31), 4, "ref.go:51", #[⟨21, .data⟩, ⟨9, .guard⟩], some (9, true)⟩ rfl ?_
     refine wTk 23 ⟨some 33, .pick (.tmp 19) (.tmp 32) (.const (.bool false)), 4, "ref.go:51", #[⟨9, .data⟩, ⟨22, .data⟩, ⟨6, .guard⟩], some (6, false)⟩ rfl ?_
     refine wTk 24 ⟨some 34, .pick (.tmp 16) (.const (.bool true)) (.tmp 33), 4, "ref.go:51", #[⟨6, .data⟩, ⟨23, .data⟩], none⟩ rfl ?_
     refine wpAnyH_done (by kernel_rfl) ?_ _
     clear hHeld
     have HN : Hid (okN L (k + 1) = true) := by show _ = _; rw [okN_succ, HK.out, hat.out, HC.out]; rfl
     go_wp2_with fail
     go_roundw
     case rel => exact ⟨k + 1, by omega, by simp, HN, HB.out.trans (HB2.out.mono HB.out.size)⟩
     case measure => simp [intOf]; omega
   ·obtain ⟨j, Hj⟩ : ∃ j, Hid (k = j + 1) := ⟨k - 1, (show k = k - 1 + 1 by omega)⟩
    have hjn : j < n := by have := Hj.out; omega
    have hwj : IntKind.i64.wrap ((k : Int) - 1) = (j : Int) := by rw [IntKind.wrap_i64]; have := Hj.out; omega
    have hk1 : decide (0 < k) = true := by rw [decide_eq_true_iff]; omega
    obtain ⟨ad', e', Aj⟩ := HSr.out.at j hjn
    obtain rfl := Option.some.inj e'
    obtain ⟨q, Hq⟩ : ∃ q, Hid (L.getD j en0 = q) := ⟨_, rfl⟩
    rw [Hq.out] at Aj
    have HAj := hide Aj
    have hat : Hid (okAt L k = ((ceE e == 0) && ahead q e)) := by show _ = _; unfold okAt; rw [He.out, show k - 1 = j by have := Hj.out; omega, Hq.out, decide_eq_false hk0, Bool.false_or]
    clear Aj e' hk0
    go_wp2_with fail
    refine wp_region_held_drew (S := fun v => (ld28 (.pointer (some (ad.add (k * 4))))).run Tryz.prog v = .ok (EV e) v ∧ (ld26 (.pointer (some (ad.add (k * 4))))).run Tryz.prog v = .ok (.agg (DC e)) v ∧ (ld26 (.pointer (some (ad.add (j * 4))))).run Tryz.prog v = .ok (.agg (DC q)) v) (by kernel_rfl) (⟨run_ld28 (HA.out.on (below_drew1 wr)), run_ld26 (HA.out.on (below_drew1 wr)), run_ld26 (HAj.out.on (below_drew1 wr))⟩) (fun hHeld => ?_)
    refine wTk 0 ⟨some 10, .move (.tmp 0), 22, "ref.go:51", #[], none⟩ rfl ?_
    refine wTk 1 ⟨some 11, .move (.tmp 3), 3, "ref.go:51", #[], none⟩ rfl ?_
    refine wTk 2 ⟨some 12, .indexAddr 22 (.tmp 10) (.tmp 11), 0, "ref.go:51", #[⟨0, .data⟩, ⟨1, .data⟩], none⟩ rfl ?_
    refine wTk 3 ⟨some 13, .load 46 (.tmp 12), 46, "ref.go:51", #[⟨2, .data⟩], none⟩ rfl ?_
    refine wpAnyH_ready (rs := [4]) (by kernel_rfl) (by simp) (.cons rfl (fun K hK => ?_) .nil)
    go_simp
    go_wp2_with fail
    refine (refEntry_any e _ HSK.out).mono ?_
    rintro x w2 ⟨rfl, b2⟩
    have hB2 : Below wr.heap.size wr w2 := (below_drew1 wr).trans b2
    have HB2 := hide hB2
    refine hK.out _ _ (⟨run_ld28 (HA.out.on (hB2)), run_ld26 (HA.out.on (hB2)), run_ld26 (HAj.out.on (hB2))⟩) (fun hHeld => ?_)
    clear hK K b2
    cases hc : (ceE e == 0) with
    | false =>
     have HN : Hid (okN L n = false) := okN_no L k n Hlt.out (by rw [hat.out, hc]; rfl)
     clear hc
     refine wTk 5 ⟨some 15, .unOp .not 4 (.tmp 14), 4, "ref.go:51", #[⟨4, .data⟩], none⟩ rfl ?_
     refine wTk 6 ⟨some 16, .move (.tmp 15), 4, "ref.go:51", #[⟨5, .data⟩, ⟨4, .chain⟩], none⟩ rfl ?_
     refine wSk 7 ⟨some 17, .move (.tmp 3), 3, "ref.go:51", #[⟨6, .guard⟩], some (6, false)⟩ rfl ?_
     refine wSk 8 ⟨some 18, .binOp .gtr 3 (.tmp 17) (.const (.int .i64 0)) 3, 4, "ref.go:51", #[⟨7, .data⟩, ⟨6, .guard⟩], some (6, false)⟩ rfl ?_
     refine wSk 9 ⟨some 19, .move (.tmp 18), 4, "ref.go:51", #[⟨8, .data⟩, ⟨6, .chain⟩, ⟨6, .guard⟩], some (6, false)⟩ rfl ?_
     refine wSk 10 ⟨some 20, .move (.tmp 0), 22, "ref.go:51", #[⟨9, .guard⟩], some (9, true)⟩ rfl ?_
     refine wSk 11 ⟨some 21, .move (.tmp 3), 3, "ref.go:51", #[⟨9, .guard⟩], some (9, true)⟩ rfl ?_
     refine wSk 12 ⟨some 22, .binOp .sub 3 (.tmp 21) (.const (.int .i64 1)) 3, 3, "ref.go:51", #[⟨11, .data⟩, ⟨9, .guard⟩], some (9, true)⟩ rfl ?_
     refine wSk 13 ⟨some 23, .indexAddr 22 (.tmp 20) (.tmp 22), 0, "ref.go:51", #[⟨10, .data⟩, ⟨12, .data⟩, ⟨9, .guard⟩], some (9, true)⟩ rfl ?_
     refine wSk 14 ⟨some 24, .fieldAddr 46 (.tmp 23) 0, 0, "ref.go:51", #[⟨13, .data⟩, ⟨9, .guard⟩], some (9, true)⟩ rfl ?_
     refine wSk 15 ⟨some 25, .load 44 (.tmp 24), 44, "ref.go:51", #[⟨14, .data⟩, ⟨9, .guard⟩], some (9, true)⟩ rfl ?_
     refine wSk 16 ⟨some 26, .move (.tmp 0), 22, "ref.go:51", #[⟨9, .guard⟩], some (9, true)⟩ rfl ?_
     refine wSk 17 ⟨some 27, .move (.tmp 3), 3, "ref.go:51", #[⟨9, .guard⟩], some (9, true)⟩ rfl ?_
     refine wSk 18 ⟨some 28, .indexAddr 22 (.tmp 26) (.tmp 27), 0, "ref.go:51", #[⟨16, .data⟩, ⟨17, .data⟩, ⟨9, .guard⟩], some (9, true)⟩ rfl ?_
     refine wSk 19 ⟨some 29, .fieldAddr 46 (.tmp 28) 0, 0, "ref.go:51", #[⟨18, .data⟩, ⟨9, .guard⟩], some (9, true)⟩ rfl ?_
     refine wSk 20 ⟨some 30, .load 44 (.tmp 29), 44, "ref.go:51", #[⟨19, .data⟩, ⟨9, .guard⟩], some (9, true)⟩ rfl ?_
     refine wSk 21 ⟨some 31, .call ⟨.value (.func 60), #[.tmp 25, .tmp 30], #[44, 44]⟩, 4, "ref.go:51", #[⟨15, .data⟩, ⟨20, .data⟩, ⟨9, .chain⟩, ⟨9, .guard⟩], some (9, true)⟩ rfl ?_
     refine wSk 22 ⟨some 32, .unOp .not 4 (.tmp 31), 4, "ref.go:51", #[⟨21, .data⟩, ⟨9, .guard⟩], some (9, true)⟩ rfl ?_
     refine wSk 23 ⟨some 33, .pick (.tmp 19) (.tmp 32) (.const (.bool false)), 4, "ref.go:51", #[⟨9, .data⟩, ⟨22, .data⟩, ⟨6, .guard⟩], some (6, false)⟩ rfl ?_
     refine wTk 24 ⟨some 34, .pick (.tmp 16) (.const (.bool true)) (.tmp 33), 4, "ref.go:51", #[⟨6, .data⟩, ⟨23, .data⟩], none⟩ rfl ?_
     refine wpAnyH_done (by kernel_rfl) ?_ _
     clear hHeld
     go_wp2_with fail
     go_ret
     exact ⟨by rw [HN.out]; rfl, HB.out.trans (HB2.out.mono HB.out.size)⟩
    | true =>
     have HC := hide hc
     clear hc
     refine wTk 5 ⟨some 15, .unOp .not 4 (.tmp 14), 4, "ref.go:51", #[⟨4, .data⟩], none⟩ rfl ?_
     refine wTk 6 ⟨some 16, .move (.tmp 15), 4, "ref.go:51", #[⟨5, .data⟩, ⟨4, .chain⟩], none⟩ rfl ?_
     refine wTk 7 ⟨some 17, .move (.tmp 3), 3, "ref.go:51", #[⟨6, .guard⟩], some (6, false)⟩ rfl ?_
     refine wTk 8 ⟨some 18, .binOp .gtr 3 (.tmp 17) (.const (.int .i64 0)) 3, 4, "ref.go:51", #[⟨7, .data⟩, ⟨6, .guard⟩], some (6, false)⟩ rfl ?_
     refine wTk 9 ⟨some 19, .move (.tmp 18), 4, "ref.go:51", #[⟨8, .data⟩, ⟨6, .chain⟩, ⟨6, .guard⟩], some (6, false)⟩ rfl ?_
     refine wTk 10 ⟨some 20, .move (.tmp 0), 22, "ref.go:51", #[⟨9, .guard⟩], some (9, true)⟩ rfl ?_
     refine wTk 11 ⟨some 21, .move (.tmp 3), 3, "ref.go:51", #[⟨9, .guard⟩], some (9, true)⟩ rfl ?_
     refine wTk 12 ⟨some 22, .binOp .sub 3 (.tmp 21) (.const (.int .i64 1)) 3, 3, "ref.go:51", #[⟨11, .data⟩, ⟨9, .guard⟩], some (9, true)⟩ rfl ?_
     refine wTk 13 ⟨some 23, .indexAddr 22 (.tmp 20) (.tmp 22), 0, "ref.go:51", #[⟨10, .data⟩, ⟨12, .data⟩, ⟨9, .guard⟩], some (9, true)⟩ rfl ?_
     refine wTk 14 ⟨some 24, .fieldAddr 46 (.tmp 23) 0, 0, "ref.go:51", #[⟨13, .data⟩, ⟨9, .guard⟩], some (9, true)⟩ rfl ?_
     refine wTk 15 ⟨some 25, .load 44 (.tmp 24), 44, "ref.go:51", #[⟨14, .data⟩, ⟨9, .guard⟩], some (9, true)⟩ rfl ?_
     refine wTk 16 ⟨some 26, .move (.tmp 0), 22, "ref.go:51", #[⟨9, .guard⟩], some (9, true)⟩ rfl ?_
     refine wTk 17 ⟨some 27, .move (.tmp 3), 3, "ref.go:51", #[⟨9, .guard⟩], some (9, true)⟩ rfl ?_
     refine wTk 18 ⟨some 28, .indexAddr 22 (.tmp 26) (.tmp 27), 0, "ref.go:51", #[⟨16, .data⟩, ⟨17, .data⟩, ⟨9, .guard⟩], some (9, true)⟩ rfl ?_
     refine wTk 19 ⟨some 29, .fieldAddr 46 (.tmp 28) 0, 0, "ref.go:51", #[⟨18, .data⟩, ⟨9, .guard⟩], some (9, true)⟩ rfl ?_
     refine wTk 20 ⟨some 30, .load 44 (.tmp 29), 44, "ref.go:51", #[⟨19, .data⟩, ⟨9, .guard⟩], some (9, true)⟩ rfl ?_
     refine wpAnyH_ready (rs := [21]) (by kernel_rfl) (by simp) (.cons rfl (fun K hK => ?_) .nil)
     go_simp
     go_wp2_with fail
     refine (refBefore_any q e _).mono ?_
     rintro x w3 ⟨rfl, b3⟩
     have hB3 : Below wr.heap.size wr w3 := HB2.out.trans (b3.mono HB2.out.size)
     have HB3 := hide hB3
     refine hK.out _ _ (⟨run_ld28 (HA.out.on (hB3)), run_ld26 (HA.out.on (hB3)), run_ld26 (HAj.out.on (hB3))⟩) (fun hHeld => ?_)
     clear hK K b3 hB2
     cases ha : ahead q e with
     | false =>
      have HN : Hid (okN L n = false) := okN_no L k n Hlt.out (by rw [hat.out, HC.out, ha]; rfl)
      clear ha
      refine wTk 22 ⟨some 32, .unOp .not 4 (.tmp 31), 4, "ref.go:51", #[⟨21, .data⟩, ⟨9, .guard⟩], some (9, true)⟩ rfl ?_
      refine wTk 23 ⟨some 33, .pick (.tmp 19) (.tmp 32) (.const (.bool false)), 4, "ref.go:51", #[⟨9, .data⟩, ⟨22, .data⟩, ⟨6, .guard⟩], some (6, false)⟩ rfl ?_
      refine wTk 24 ⟨some 34, .pick (.tmp 16) (.const (.bool true)) (.tmp 33), 4, "ref.go:51", #[⟨6, .data⟩, ⟨23, .data⟩], none⟩ rfl ?_
      refine wpAnyH_done (by kernel_rfl) ?_ _
      clear hHeld
      go_wp2_with fail
      go_ret
      exact ⟨by rw [HN.out]; rfl, HB.out.trans (HB3.out.mono HB.out.size)⟩
     | true =>
      have HN : Hid (okN L (k + 1) = true) := by show _ = _; rw [okN_succ, HK.out, hat.out, HC.out, ha]; rfl
      clear ha
      refine wTk 22 ⟨some 32, .unOp .not 4 (.tmp 31), 4, "ref.go:51", #[⟨21, .data⟩, ⟨9, .guard⟩], some (9, true)⟩ rfl ?_
      refine wTk 23 ⟨some 33, .pick (.tmp 19) (.tmp 32) (.const (.bool false)), 4, "ref.go:51", #[⟨9, .data⟩, ⟨22, .data⟩, ⟨6, .guard⟩], some (6, false)⟩ rfl ?_
      refine wTk 24 ⟨some 34, .pick (.tmp 16) (.const (.bool true)) (.tmp 33), 4, "ref.go:51", #[⟨6, .data⟩, ⟨23, .data⟩], none⟩ rfl ?_
      refine wpAnyH_done (by kernel_rfl) ?_ _
      clear hHeld
      go_wp2_with fail
      go_roundw
      case rel => exact ⟨k + 1, by omega, by simp, HN, HB.out.trans (HB3.out.mono HB.out.size)⟩
      case measure => simp [intOf]; omega
  ·obtain rfl : k = n := by omega
   go_wp2_with fail
   go_ret
   exact ⟨by rw [HK.out]; rfl, HB.out⟩
end Go.Proofs.YtmbkmpeongodbaaGreat.K
namespace Go.Proofs.YtmbkmpeongodbaaGreat
open Go.RowKit
attribute [local go_sem ↓] ldP_eq stP_eq ldJ_eq stJ_eq
attribute [local go_sem] zeros_JA cells_JAv zero_PC cells_PV fold_PC PC_size fold_PC1
def szn (N : Nat → List Rn) : Nat → Int
 | 0 => 0
 | k + 1 => szn N k + sz (N k)
theorem szn_bd {N : Nat → List Rn} : ∀ k, (∀ r, r < k → form 1 (N r)) → 0 ≤ szn N k ∧ szn N k ≤ k * 1000000000
 | 0, _ => by simp [szn]
 | k + 1, h => by
  have h1 := szn_bd k (fun r hr => h r (by omega))
  have h2 := sz_top (h k (by omega))
  simp only [szn]
  omega
theorem sz_next (R : List Rn) (t : Nat) (h : t < R.length) : sz (R.take (t + 1)) = sz (R.take t) + ((R.getD t rn0).hi - (R.getD t rn0).lo + 1) := by
 rw [rn_take R t h, sz_append, sz_cons]
 simp [sz]
set_option maxRecDepth 100000 in
set_option maxHeartbeats 1000000 in
theorem refSize_any (a : Pv) (w : World) (hS : PSrc w a) : Calls Tryz.prog 65 #[PV a] w fun e w' => ∃ N : Nat → List Rn, (∀ r, r < 16 → NormOf (runsAt a.P r) (N r)) ∧ e = .returned (.int .i64 (szn N 16)) ∧ Below w.heap.size w w' := by
 have b1 := below_new w (.cells (PC a) 26)
 have HX := hide (pbox_new w a)
 have HBK := hide b1
 have HS := hide (hS.below b1)
 clear b1 hS
 have l1 := run_ldP HX.out.at
 go_enter Tryz.func65, Tryz.ntmps65
 go_wp2_with fail
 refine (one_any a _ HS.out).mono ?_
 rintro e w2 ⟨T, N, rfl, hT, b4⟩
 have HT := hide hT
 have HB4 := hide (HBK.out.trans (b4.mono HBK.out.size))
 have b5 := below_new w2 (.cells (JA fun _ => si0) 105)
 have hst := run_stJ (F' := T) (isets_new w2 105 (fun _ => si0))
 have HZ := hide (ISets.setRow (F' := T) (isets_new w2 105 (fun _ => si0)))
 have HB6 : Hid (Below w2.heap.size w2 ((w2.alloc (.cells (JA fun _ => si0) 105)).setRow w2.heap.size (JA T))) := below_setRow b5 (Nat.le_refl _)
 clear hT b4 b5 l1
 go_wp2_with fail
 clear hst
 obtain ⟨w5, hw5⟩ : ∃ w5, (w2.alloc (.cells (JA fun _ => si0) 105)).setRow w2.heap.size (JA T) = w5 := ⟨_, rfl⟩
 rw [hw5] at HZ HB6 ⊢
 clear hw5
 go_loopw [4, 5] (fun vn vr wr => ∃ (y : Nat) (z : Int), y ≤ 16 ∧ vn = .int .i64 z ∧ vr = .int .i64 y ∧ Hid (z = szn N y ∧ Below w5.heap.size w5 wr)) (fun _ i _ => 16 - (intOf i).toNat)
 case atStart => exact ⟨0, 0, Nat.zero_le _, rfl, rfl, rfl, Below.refl _ _⟩
 case round =>
  obtain ⟨y, z, hy16, rfl, rfl, HI⟩ := hrel
  rename World => w6
  have y0 : (0 : Int) ≤ (y : Int) := by omega
  by_cases hy : y < 16
  ·have y1 : (y : Int) < 16 := by omega
   have HF := hide (HT.out y hy).2.2.1
   have HSR := hide ((HT.out y hy).1.below HB6.out)
   obtain ⟨sa, sn, sc, hf⟩ : ∃ sa sn sc, (T y).ao = sa ∧ (T y).n = sn ∧ (T y).cap = sc := ⟨_, _, _, rfl, rfl, rfl⟩
   rw [hf.1, hf.2.1, hf.2.2] at HSR
   have HTY := hide hf
   clear hf
   have HSN : Hid (sn = 2 * (N y).length) := by have := HSR.out.1; rw [tn_length] at this; show _ = _; omega
   have hsmall := form_small (Int.le_refl _) HF.out
   have hsb : sn ≤ 1000000002 := by have := HSN.out; omega
   have HSB := hide (And.intro (szn_bd (N := N) y (fun r hr => (HT.out r (by omega)).2.2.1)) (sz_top HF.out))
   go_wp2_with fail
   go_loopw [4, 6] (fun vn vk wr => ∃ (t kk : Nat) (z : Int), t ≤ (N y).length ∧ kk = 2 * t ∧ vn = .int .i64 z ∧ vk = .int .i64 kk ∧ Hid (z = szn N y + sz ((N y).take t) ∧ Below w5.heap.size w5 wr)) (fun _ i _ => sn - (intOf i).toNat)
   case atStart => exact ⟨0, 0, z, Nat.zero_le _, rfl, rfl, rfl, by rw [HI.out.1]; simp [sz], HI.out.2⟩
   case round =>
    obtain ⟨t, kk, z, ht, hkk, rfl, rfl, HI⟩ := hrel
    rename World => w6
    have HKK := hide hkk
    clear hkk
    have c0 := (HZ.out.below HI.out.2).cell y hy
    rw [HTY.out.1, HTY.out.2.1, HTY.out.2.2] at c0
    obtain ⟨k1, hk1e⟩ : ∃ k1 : Nat, kk + 1 = k1 := ⟨_, rfl⟩
    have hkw : IntKind.i64.wrap ((kk : Int) + 1) = (k1 : Int) := by have := HKK.out; rw [IntKind.wrap_i64]; omega
    by_cases hlt : t < (N y).length
    ·have hk1 : k1 < sn := by have := HKK.out; have := HSN.out; omega
     have hk0 : kk < sn := by omega
     obtain ⟨da, hda, qa⟩ := isrc_at (HSR.out.below HI.out.2) kk hk0
     obtain ⟨db, hdb, qb⟩ := isrc_at (HSR.out.below HI.out.2) k1 hk1
     have hdd : db = da := Option.some.inj (hdb.symm.trans hda)
     rw [hdd] at qb
     clear hdb hdd
     subst hda
     obtain ⟨tl1, tl2⟩ := tn_lo (N y) t hlt
     rw [← HKK.out] at tl1 tl2
     rw [hk1e] at tl2
     rw [tl1] at qa
     rw [tl2] at qb
     have hfg := form_gt HF.out t hlt
     have hnx := sz_next (N y) t hlt
     have htk := sz_take (N y) 1 t HF.out
     have htk2 := sz_take (N y) 1 (t + 1) HF.out
     obtain ⟨x, Hx⟩ : ∃ x, Hid ((N y).getD t rn0 = x) := ⟨_, rfl⟩
     rw [Hx.out] at qa qb hfg hnx
     obtain ⟨lo, hlo⟩ : ∃ lo, x.lo = lo := ⟨_, rfl⟩
     obtain ⟨h1, hh1⟩ : ∃ h1, x.hi + 1 = h1 := ⟨_, rfl⟩
     rw [hlo] at qa
     rw [hh1] at qb
     have hzb : 0 ≤ z ∧ z ≤ 17000000000 ∧ 1 ≤ lo ∧ lo < h1 ∧ h1 ≤ 1000000001 := by have := HSB.out; have := HI.out.1; omega
     have HZN : Hid (z + (h1 - lo) = szn N y + sz ((N y).take (t + 1))) := by show _ = _; have := HI.out.1; omega
     have HIB := hide HI.out.2
     clear hlo hh1 db tl1 tl2 hfg hnx htk htk2 HI Hx
     obtain ⟨hz0, hz1, hl0, hl1, hh2⟩ := hzb
     have hw1 : IntKind.i64.wrap (h1 - lo) = h1 - lo := by rw [IntKind.wrap_i64]; omega
     have hw2 : IntKind.i64.wrap (z + (h1 - lo)) = z + (h1 - lo) := by rw [IntKind.wrap_i64]; omega
     have r0 := cell_regrown c0
     have r1 := cell_regrown qa
     have r2 := cell_regrown qb
     have HK1 := hide hk1e
     clear hk1e
     go_wp2_with fail
     refine wp_region_quiet_below (by kernel_rfl) (by kernel_rfl) ?_
     repeat (with_reducible (refine wpQuiet_step ?_); intro K hK; go_simp; (try rw [if_neg (by unfold undef; simp)]); first | (with_reducible (refine hK _ ?_); clear hK K) | (apply Exists.intro; refine ⟨fun _ => ?_, hK _ ?_⟩; (fail); clear hK K))
     with_reducible (refine wpQuiet_nil ?_)
     intro w7 hw'
     obtain ⟨⟨dq, osq⟩, hw''⟩ := hw'
     have bw7 : Below w6.heap.size w6 w7 := by rw [hw'']; exact below_regrown w6 dq osq
     clear hw'' dq osq r0 r1 r2
     go_wp2_with fail
     go_roundw
     case rel => exact ⟨t + 1, kk + 2, z + (h1 - lo), by omega, by have := HKK.out; omega, by go_num, by go_num, HZN.out, HIB.out.trans (bw7.mono HIB.out.size)⟩
     case measure => (have := HK1.out; simp [intOf]; omega)
    ·obtain rfl : t = (N y).length := by omega
     have hk1 : ¬ (k1 : Int) < (sn : Int) := by have := HKK.out; have := HSN.out; omega
     have HN2 : Hid (z = szn N (y + 1)) := by have := HI.out.1; rw [List.take_length] at this; exact this
     have HIB := hide HI.out.2
     clear hk1e HI
     go_wp2_with fail
     go_roundw
     case rel => exact ⟨y + 1, z, by omega, rfl, by go_num, HN2.out, HIB.out⟩
     case measure => simp [intOf]; omega
  ·obtain rfl : y = 16 := by omega
   have HFin : Hid (∃ M : Nat → List Rn, (∀ r, r < 16 → NormOf (runsAt a.P r) (M r)) ∧ (Ending.returned (.int .i64 z) : Ending) = .returned (.int .i64 (szn M 16)) ∧ Below w.heap.size w w6) := ⟨N, fun r hr => (HT.out r hr).2.2, by rw [HI.out.1], HB4.out.trans ((HB6.out.trans (HI.out.2.mono HB6.out.size)).mono HB4.out.size)⟩
   clear HI
   go_wp2_with fail
   go_ret
   exact HFin.out
end Go.Proofs.YtmbkmpeongodbaaGreat
namespace Go.Proofs.YtmbkmpeongodbaaGreat
open Go.RowKit
attribute [local go_sem ↓] ldP_eq stP_eq ldJ_eq stJ_eq
attribute [local go_sem] zeros_JA cells_JAv zero_PC cells_PV fold_PC PC_size fold_PC1
theorem szn_sumZ (N : Nat → List Rn) : ∀ k, szn N k = sumZ N k
 | 0 => rfl
 | k + 1 => by simp only [szn, sumZ, szn_sumZ N k]
set_option maxRecDepth 100000 in
theorem refEmpty_any (a : Pv) (w : World) (hS : PSrc w a) : Calls Tryz.prog 30 #[PV a] w fun e w' => ∃ b, e = .returned (.bool b) ∧ (b = true ↔ ∀ r, r < 16 → ∀ n, ¬ mem (runsAt a.P r) n) ∧ Below w.heap.size w w' := by
 have b1 := below_new w (.cells (PC a) 26)
 have l1 := run_ldP (pbox_new w a).at
 have HBK := hide b1
 have HS := hide (hS.below b1)
 clear b1 hS
 go_enter Tryz.func30, Tryz.ntmps30
 go_wp2_with fail
 refine (refSize_any a _ HS.out).mono ?_
 rintro e w2 ⟨N, hN, rfl, b2⟩
 have hz : SizeP (runsAt a.P) (szn N 16) := ⟨N, hN, szn_sumZ N 16⟩
 have HFin : Hid (∃ b, (Ending.returned (.bool (szn N 16 == 0)) : Ending) = .returned (.bool b) ∧ (b = true ↔ ∀ r, r < 16 → ∀ n, ¬ mem (runsAt a.P r) n) ∧ Below w.heap.size w w2) := ⟨_, rfl, by rw [← hz.zero]; simp, HBK.out.trans (b2.mono HBK.out.size)⟩
 clear hz hN b2 l1
 generalize szn N 16 = z at *
 go_wp2_with fail
 go_ret
 exact HFin.out
end Go.Proofs.YtmbkmpeongodbaaGreat
namespace Go.Proofs.YtmbkmpeongodbaaGreat

def tin (t : List Int) (n : Int) : Bool := decide (cnt t n % 2 = 1)
theorem cnt_cons (x : Int) (t : List Int) (n : Int) : cnt (x :: t) n = (if x ≤ n then 1 else 0) + cnt t n := by
 have : x :: t = [x] ++ t := rfl
 rw [this, cnt_append, cnt_one]
theorem tn_in : ∀ {R : List Rn} {l : Int}, form l R → ∀ x, x ∈ tn R → l ≤ x ∧ x ≤ 1000000001
 | [], _, _, x, h => by cases h
 | r :: t, l, h, x, hx => by
  have h1 := h.1
  have h2 := h.2.1
  have h3 := h.2.2.1
  rcases List.mem_cons.1 hx with e | e
  ·subst e; omega
  ·rcases List.mem_cons.1 e with e | e
   ·subst e; omega
   ·have := tn_in h.2.2.2 x e
    omega
theorem tn_rise : ∀ {R : List Rn} {l : Int}, form l R → (tn R).Pairwise (· < ·)
 | [], _, _ => List.Pairwise.nil
 | r :: t, l, h => by
  have h2 := h.2.1
  refine List.pairwise_cons.2 ⟨fun x hx => ?_, List.pairwise_cons.2 ⟨fun x hx => ?_, tn_rise h.2.2.2⟩⟩
  ·rcases List.mem_cons.1 hx with e | e
   ·subst e; omega
   ·have := (tn_in h.2.2.2 x e).1
    omega
  ·have := (tn_in h.2.2.2 x hx).1
   omega
theorem tin_tn : ∀ {R : List Rn} {l : Int}, form l R → ∀ n, (tin (tn R) n = true ↔ inR R n)
 | [], _, _, n => by simp [tin, tn, cnt, inR]
 | r :: t, l, h, n => by
  have ih := tin_tn h.2.2.2 n
  have h2 := h.2.1
  have key : inR (r :: t) n ↔ (r.lo ≤ n ∧ n ≤ r.hi) ∨ inR t n := by unfold inR; simp
  rw [key, ← ih]
  unfold tin
  simp only [decide_eq_true_eq]
  show cnt (r.lo :: (r.hi + 1) :: tn t) n % 2 = 1 ↔ _
  rw [cnt_cons, cnt_cons]
  by_cases a1 : r.hi + 1 ≤ n
  ·rw [if_pos a1, if_pos (by omega)]
   constructor
   ·intro g; exact Or.inr (by omega)
   ·rintro (g | g) <;> omega
  ·have hz : cnt (tn t) n = 0 := cnt_none (fun x hx => by have := (tn_in h.2.2.2 x hx).1; omega)
   rw [if_neg a1, hz]
   by_cases a2 : r.lo ≤ n
   ·rw [if_pos a2]
    exact ⟨fun _ => Or.inl ⟨a2, by omega⟩, fun _ => rfl⟩
   ·rw [if_neg a2]
    constructor
    ·intro g; omega
    ·rintro (g | g) <;> omega
theorem tn_of : ∀ (k : Nat) {t : List Int} {l : Int}, t.length = 2 * k → t.Pairwise (· < ·) → (∀ x, x ∈ t → l ≤ x ∧ x ≤ 1000000001) → ∃ R, form l R ∧ tn R = t
 | 0, t, l, he, _, _ => by
  obtain rfl : t = [] := List.eq_nil_of_length_eq_zero (by omega)
  exact ⟨[], trivial, rfl⟩
 | k + 1, [], l, he, _, _ => by simp at he
 | k + 1, [a], l, he, _, _ => by simp at he; omega
 | k + 1, a :: b :: t, l, he, hp, hb => by
  obtain ⟨p1, p2⟩ := List.pairwise_cons.1 hp
  obtain ⟨p3, p4⟩ := List.pairwise_cons.1 p2
  have hab := p1 b List.mem_cons_self
  have ha := hb a List.mem_cons_self
  have hbb := hb b (List.mem_cons_of_mem _ List.mem_cons_self)
  obtain ⟨R, hR, e⟩ := tn_of k (t := t) (l := b + 1) (by simp at he; omega) p4 (fun x hx => ⟨by have := p3 x hx; omega, (hb x (List.mem_cons_of_mem _ (List.mem_cons_of_mem _ hx))).2⟩)
  refine ⟨⟨a, b - 1⟩ :: R, ⟨ha.1, by show a ≤ b - 1; omega, by show b - 1 ≤ 1000000000; omega, ?_⟩, ?_⟩
  ·have e2 : b - 1 + 2 = b + 1 := by omega
   show form (b - 1 + 2) R
   rw [e2]; exact hR
  ·show a :: (b - 1 + 1) :: tn R = _
   rw [e, Int.sub_add_cancel]
def rul (k : Int) (x y : Bool) : Bool := (k == 1 && x && y) || (k == 2 && x && !y)
theorem rul_ff (k : Int) (y : Bool) : rul k false y = false := by simp [rul]
structure CbI (k : Int) (A B : List Int) (i j : Nat) (t : List Int) (b : Bool) : Prop where
 hi : i ≤ A.length
 hj : j ≤ B.length
 tr : t.Pairwise (· < ·)
 tl : ∀ x, x ∈ t → x ∈ A.take i ++ B.take j
 lt : ∀ x, x ∈ A.take i ++ B.take j → ∀ y, y ∈ A.drop i ++ B.drop j → x < y
 ev : ∀ n, tin t n = rul k (tin (A.take i) n) (tin (B.take j) n)
 nw : b = decide (t.length % 2 = 1)
theorem CbI.start (k : Int) (A B : List Int) : CbI k A B 0 0 [] false :=
 ⟨Nat.zero_le _, Nat.zero_le _, List.Pairwise.nil, (fun x h => by cases h), (fun x h => by simp at h), fun n => by simp [tin, cnt, rul], rfl⟩
theorem tin_all {L : List Int} {n : Int} (h : ∀ x, x ∈ L → x ≤ n) : tin L n = decide (L.length % 2 = 1) := by unfold tin; rw [cnt_all h]
theorem tin_pre {L M : List Int} {n : Int} (h : ∀ x, x ∈ M → n < x) : tin (L ++ M) n = tin L n := by unfold tin; rw [cnt_append, cnt_none h, Nat.add_zero]
theorem CbI.step {k : Int} {A B : List Int} {i j i' j' : Nat} {t : List Int} {b : Bool} {at' : Int} (S : CbI k A B i j t b)
  (hA : A.Pairwise (· < ·)) (hB : B.Pairwise (· < ·))
  (ha : (A[i]? = some at' ∧ i' = i + 1) ∨ ((∀ x, A[i]? = some x → at' < x) ∧ i' = i))
  (hb : (B[j]? = some at' ∧ j' = j + 1) ∨ ((∀ x, B[j]? = some x → at' < x) ∧ j' = j))
  (hs : A[i]? = some at' ∨ B[j]? = some at') :
  (rul k (decide (i' % 2 = 1)) (decide (j' % 2 = 1)) = b → CbI k A B i' j' t b) ∧ (rul k (decide (i' % 2 = 1)) (decide (j' % 2 = 1)) ≠ b → CbI k A B i' j' (t ++ [at']) (!b)) := by
 have step1 : ∀ (L : List Int) (u u' : Nat), L.Pairwise (· < ·) → u ≤ L.length → ((L[u]? = some at' ∧ u' = u + 1) ∨ ((∀ x, L[u]? = some x → at' < x) ∧ u' = u)) →
   u' ≤ L.length ∧ (∃ M, L.take u' = L.take u ++ M ∧ ∀ x, x ∈ M → x = at') ∧ (∀ y, y ∈ L.drop u' → at' < y) ∧ (∀ y, y ∈ L.drop u' → y ∈ L.drop u) := by
  intro L u u' hL hu h
  have hdrop : ∀ v x, L[v]? = some x → ∀ y, y ∈ L.drop (v + 1) → x < y := by
   intro v x hx y hy
   have hp : (L.drop v).Pairwise (· < ·) := hL.sublist (List.drop_sublist _ _)
   rw [(take_on' L v x hx).2] at hp
   exact (List.pairwise_cons.1 hp).1 y hy
  rcases h with ⟨h1, rfl⟩ | ⟨h1, rfl⟩
  ·have hl := (List.getElem?_eq_some_iff.1 h1).1
   obtain ⟨t1, t2⟩ := take_on' L u at' h1
   exact ⟨hl, ⟨[at'], t1, fun x hx => List.mem_singleton.1 hx⟩, hdrop u at' h1, fun y hy => by rw [t2]; exact List.mem_cons_of_mem _ hy⟩
  ·refine ⟨hu, ⟨[], by simp, fun x hx => by cases hx⟩, fun y hy => ?_, fun y hy => hy⟩
   cases hx : L[u']? with
   | none => rw [List.drop_of_length_le (by simpa using hx)] at hy; cases hy
   | some x =>
    have h2 := h1 x hx
    rw [(take_on' L u' x hx).2] at hy
    rcases List.mem_cons.1 hy with e | e
    ·omega
    ·have := hdrop u' x hx y e
     omega
 obtain ⟨a1, ⟨MA, a2, a3⟩, a4, a5⟩ := step1 A i i' hA S.hi ha
 obtain ⟨b1, ⟨MB, b2, b3⟩, b4, b5⟩ := step1 B j j' hB S.hj hb
 have hat : at' ∈ A.drop i ++ B.drop j := by
  rcases hs with h | h
  ·exact List.mem_append_left _ (by rw [(take_on' A i at' h).2]; exact List.mem_cons_self)
  ·exact List.mem_append_right _ (by rw [(take_on' B j at' h).2]; exact List.mem_cons_self)
 have hatk : at' ∈ A.take i' ++ B.take j' := by
  rcases hs with h | h
  ·rcases ha with ⟨_, e⟩ | ⟨g, _⟩
   ·exact List.mem_append_left _ (by rw [e, (take_on' A i at' h).1]; exact List.mem_append_right _ (List.mem_singleton.2 rfl))
   ·have := g at' h; omega
  ·rcases hb with ⟨_, e⟩ | ⟨g, _⟩
   ·exact List.mem_append_right _ (by rw [e, (take_on' B j at' h).1]; exact List.mem_append_right _ (List.mem_singleton.2 rfl))
   ·have := g at' h; omega
 have hold : ∀ x, x ∈ A.take i ++ B.take j → x < at' := fun x hx => S.lt x hx at' hat
 have hmono : ∀ x, x ∈ A.take i ++ B.take j → x ∈ A.take i' ++ B.take j' := fun x hx => by
  rw [a2, b2]
  rcases List.mem_append.1 hx with g | g
  ·exact List.mem_append_left _ (List.mem_append_left _ g)
  ·exact List.mem_append_right _ (List.mem_append_left _ g)
 have hnew : ∀ x, x ∈ A.take i' ++ B.take j' → x ≤ at' := fun x hx => by
  rw [a2, b2] at hx
  rcases List.mem_append.1 hx with g | g
  ·rcases List.mem_append.1 g with g | g
   ·have := hold x (List.mem_append_left _ g); omega
   ·have := a3 x g; omega
  ·rcases List.mem_append.1 g with g | g
   ·have := hold x (List.mem_append_right _ g); omega
   ·have := b3 x g; omega
 have hlt : ∀ x, x ∈ A.take i' ++ B.take j' → ∀ y, y ∈ A.drop i' ++ B.drop j' → x < y := fun x hx y hy => by
  have h1 := hnew x hx
  rcases List.mem_append.1 hy with g | g
  ·have := a4 y g; omega
  ·have := b4 y g; omega
 have htl : ∀ x, x ∈ t → x < at' := fun x hx => hold x (S.tl x hx)
 have low : ∀ n, n < at' → tin (A.take i') n = tin (A.take i) n ∧ tin (B.take j') n = tin (B.take j) n := fun n hn => by
  rw [a2, b2]
  exact ⟨tin_pre (fun x hx => by rw [a3 x hx]; exact hn), tin_pre (fun x hx => by rw [b3 x hx]; exact hn)⟩
 have high : ∀ n, at' ≤ n → tin (A.take i') n = decide (i' % 2 = 1) ∧ tin (B.take j') n = decide (j' % 2 = 1) := fun n hn => by
  rw [tin_all (fun x hx => Int.le_trans (hnew x (List.mem_append_left _ hx)) hn), tin_all (fun x hx => Int.le_trans (hnew x (List.mem_append_right _ hx)) hn), List.length_take, List.length_take, Nat.min_eq_left a1, Nat.min_eq_left b1]
  exact ⟨rfl, rfl⟩
 refine ⟨fun he => ⟨a1, b1, S.tr, fun x hx => hmono x (S.tl x hx), hlt, fun n => ?_, S.nw⟩, fun hne => ⟨a1, b1, ?_, fun x hx => ?_, hlt, fun n => ?_, ?_⟩⟩
 ·by_cases hn : n < at'
  ·rw [(low n hn).1, (low n hn).2, S.ev n]
  ·rw [(high n (by omega)).1, (high n (by omega)).2, he, tin_all (fun x hx => by have := htl x hx; omega), S.nw]
 ·refine List.pairwise_append.2 ⟨S.tr, List.pairwise_singleton _ _, fun x hx y hy => ?_⟩
  obtain rfl := List.mem_singleton.1 hy
  exact htl x hx
 ·rcases List.mem_append.1 hx with g | g
  ·exact hmono x (S.tl x g)
  ·obtain rfl := List.mem_singleton.1 g
   exact hatk
 ·by_cases hn : n < at'
  ·rw [(low n hn).1, (low n hn).2, tin_pre (fun x hx => by rw [List.mem_singleton.1 hx]; exact hn), S.ev n]
  ·have hb' : rul k (decide (i' % 2 = 1)) (decide (j' % 2 = 1)) = !b := by
    revert hne
    cases rul k (decide (i' % 2 = 1)) (decide (j' % 2 = 1)) <;> cases b <;> simp
   rw [(high n (by omega)).1, (high n (by omega)).2, hb', tin_all (fun x hx => ?_), S.nw, List.length_append]
   ·show decide ((t.length + 1) % 2 = 1) = _
    by_cases h : t.length % 2 = 1
    ·rw [decide_eq_true h, decide_eq_false (by omega)]; rfl
    ·rw [decide_eq_false h, decide_eq_true (by omega)]; rfl
   ·rcases List.mem_append.1 hx with g | g
    ·have := htl x g; omega
    ·have := List.mem_singleton.1 g; omega
 ·rw [S.nw, List.length_append]
  show _ = decide ((t.length + 1) % 2 = 1)
  by_cases h : t.length % 2 = 1
  ·rw [decide_eq_true h, decide_eq_false (by omega)]; rfl
  ·rw [decide_eq_false h, decide_eq_true (by omega)]; rfl
def CombOf (k : Int) (a b c : List Rn) : Prop := form 1 c ∧ ∀ n, mem c n ↔ ((k = 1 ∧ mem a n ∧ mem b n) ∨ (k = 2 ∧ mem a n ∧ ¬ mem b n))
theorem CbI.done {k : Int} {a b : List Rn} {t : List Int} {x : Bool} (ha : form 1 a) (hb : form 1 b) (S : CbI k (tn a) (tn b) (tn a).length (tn b).length t x) : ∃ c, t = tn c ∧ CombOf k a b c := by
 have hev := S.ev
 simp only [List.take_length] at hev
 have hbd : ∀ z, z ∈ t → 1 ≤ z ∧ z ≤ 1000000001 := fun z hz => by
  have := S.tl z hz
  simp only [List.take_length] at this
  rcases List.mem_append.1 this with g | g
  ·exact tn_in ha z g
  ·exact tn_in hb z g
 have hlen : t.length % 2 = 0 := by
  have h1 := hev 1000000001
  rw [tin_all (fun z hz => (hbd z hz).2), tin_all (fun z hz => (tn_in ha z hz).2), tn_length] at h1
  rw [show decide (2 * a.length % 2 = 1) = false from decide_eq_false (by omega), rul_ff] at h1
  have := of_decide_eq_false h1
  omega
 obtain ⟨c, hc, e⟩ := tn_of (t.length / 2) (l := 1) (t := t) (by omega) S.tr hbd
 refine ⟨c, e.symm, hc, fun n => ?_⟩
 rw [mem_inR hc, mem_inR ha, mem_inR hb, ← tin_tn hc, ← tin_tn ha, ← tin_tn hb, e, hev n]
 unfold rul
 cases tin (tn a) n <;> cases tin (tn b) n <;> simp
end Go.Proofs.YtmbkmpeongodbaaGreat

