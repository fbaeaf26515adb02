/- GEr GRf -/
import Derived.Test.YtaphmhbmhcahaaaGreatTk
import Derived.Test.YtaphmhbmhcahaaaGreatSe20
import Derived.Test.YtaphmhbmhcahaaaGreatSe16
import Derived.Test.YtaphmhbmhcahaaaGreatSe00
import Derived.Test.YtaphmhbmhcahaaaGreatSe18
import Derived.Test.YtaphmhbmhcahaaaGreatSe29
set_option maxRecDepth 100000
set_option maxHeartbeats 3200000
namespace Go.Proofs.YtaphmhbmhcahaaaGreat.K
open Go.RowKit
attribute [local go_sem ↓] ld28_eq st28_eq ld26_eq
attribute [local go_sem] zero_EC cells_EV
def isD (x : En) : Bool := (isR x.rep && decide (1 <= x.num)) && decide (x.num <= 1000000000)
theorem ret_b {a b : Bool} (h : a = b) : Ending.returned (.bool b) = .returned (.bool a) := by rw [h]
theorem refIsDot_any (x : En) (w : World) : Calls Tryz.prog 93 #[.agg (DC x)] w fun e w' => e = .returned (.bool (isD x)) /\ Below w.heap.size w w' := by
 have HB := hide (below_new w (.cells #[.int .i64 x.rep, .int .i64 x.num] 43))
 unfold DC
 obtain ⟨r, m, s, q⟩ := x
 by_cases h1 : 0 <= r
 ·by_cases h2 : r < 16
  ·by_cases h3 : 1 <= m
   ·have HF : Hid (isD ⟨r, m, s, q⟩ = decide (m <= 1000000000)) := by show _ = _; unfold isD isR; simp [h1, h2, h3]
    go_enter Tryz.func93, Tryz.ntmps93
    go_wp2
    go_ret
    exact ⟨ret_b HF.out, HB.out⟩
   ·have HF : Hid (isD ⟨r, m, s, q⟩ = false) := by show _ = _; unfold isD isR; simp [h3]
    go_enter Tryz.func93, Tryz.ntmps93
    go_wp2
    go_ret
    exact ⟨ret_b HF.out, HB.out⟩
  ·have HF : Hid (isD ⟨r, m, s, q⟩ = false) := by show _ = _; unfold isD isR; simp [h2]
   go_enter Tryz.func93, Tryz.ntmps93
   go_wp2
   go_ret
   exact ⟨ret_b HF.out, HB.out⟩
 ·have HF : Hid (isD ⟨r, m, s, q⟩ = false) := by show _ = _; unfold isD isR; simp [h1]
  go_enter Tryz.func93, Tryz.ntmps93
  go_wp2
  go_ret
  exact ⟨ret_b HF.out, HB.out⟩
theorem ceE_zero (e : En) : (ceE e == 0) = (((isD e && good e.sku.data.toList) && decide (1 <= e.qty)) && decide (e.qty <= 1000000)) := by
 unfold ceE isD
 by_cases h1 : isR e.rep = false
 ·rw [if_pos h1, h1]; simp
 ·have h1' : isR e.rep = true := by simpa using h1
  rw [if_neg h1, h1']
  by_cases h2 : e.num < 1 ∨ 1000000000 < e.num
  ·rw [if_pos h2]
   rcases h2 with h2 | h2
   ·simp [show ¬ 1 <= e.num by omega]
   ·simp [show ¬ e.num <= 1000000000 by omega]
  ·rw [if_neg h2]
   simp only [show decide (1 <= e.num) = true from decide_eq_true (by omega), show decide (e.num <= 1000000000) = true from decide_eq_true (by omega), Bool.and_true, Bool.true_and]
   by_cases h3 : good e.sku.data.toList = false
   ·rw [if_pos h3, h3]; simp
   ·have h3' : good e.sku.data.toList = true := by simpa using h3
    rw [if_neg h3, h3']
    by_cases h4 : e.qty < 1 ∨ 1000000 < e.qty
    ·rw [if_pos h4]
     rcases h4 with h4 | h4
     ·simp [show ¬ 1 <= e.qty by omega]
     ·simp [show ¬ e.qty <= 1000000 by omega]
    ·rw [if_neg h4]
     simp [show 1 <= e.qty by omega, show e.qty <= 1000000 by omega]
theorem refEntry_any (e : En) (w : World) (hs : e.sku.size <= maxLen) : Calls Tryz.prog 98 #[EV e] w fun x w' => x = .returned (.bool (ceE e == 0)) /\ Below w.heap.size w w' := by
 rw [ceE_zero e]
 have b1 := below_new w (.cells (EC e) 66)
 have hx := heap_alloc_new w (.cells (EC e) 66)
 obtain ⟨wk, hwk⟩ : ∃ wk, w.alloc (.cells (EC e) 66) = wk := ⟨_, rfl⟩
 obtain ⟨G, hG⟩ : ∃ G, w.heap.size = G := ⟨_, rfl⟩
 rw [hwk] at b1 hx
 rw [hG] at hx
 have HA : Hid (EnAt wk ⟨G, 0, none⟩ e) := by
  refine ⟨?_, ?_, ?_, ?_⟩ <;> simp [Addr.add, World.cell?, hx, EC]
 have HB := hide b1
 clear b1 hx
 have l1 := run_ld26 HA.out
 go_enter Tryz.func98, Tryz.ntmps98
 go_wp2_with fail
 clear hwk hG
 refine (refIsDot_any e _).mono ?_
 rintro x w2 ⟨rfl, b2⟩
 have HB2 := hide (HB.out.trans (b2.mono HB.out.size))
 have A2 := HA.out.on b2
 have c2 : w2.cell? ⟨G, 2, none⟩ = some (.string e.sku) := A2.c2
 have c3 : w2.cell? ⟨G, 3, none⟩ = some (.int .i64 e.qty) := A2.c3
 clear b2 A2 l1
 cases hd : isD e with
 | false =>
  have HD := hide hd
  clear hd
  go_wp2_with fail
  go_ret
  exact ⟨ret_b (by rw [HD.out]; rfl), HB2.out⟩
 | true =>
  have HD := hide hd
  clear hd
  go_wp2_with fail
  refine (refGood_any e.sku _ hs).mono ?_
  rintro x w' ⟨rfl, rfl⟩
  cases hg : good e.sku.data.toList with
  | false =>
   have HG := hide hg
   clear hg
   go_wp2_with fail
   go_ret
   exact ⟨ret_b (by rw [HD.out, HG.out]; rfl), HB2.out⟩
  | true =>
   have HG := hide hg
   clear hg
   by_cases h1 : 1 <= e.qty
   ·go_wp2_with fail
    go_ret
    exact ⟨ret_b (by rw [HD.out, HG.out, decide_eq_true h1]; rfl), HB2.out⟩
   ·go_wp2_with fail
    go_ret
    exact ⟨ret_b (by rw [HD.out, HG.out, decide_eq_false (show ¬ 1 <= e.qty by omega)]; rfl), HB2.out⟩
theorem refBefore_any (x y : En) (w : World) : Calls Tryz.prog 99 #[.agg (DC x), .agg (DC y)] w fun e w' => e = .returned (.bool (ahead x y)) /\ Below w.heap.size w w' := by
 have HB : Hid (Below w.heap.size w ((w.alloc (.cells #[.int .i64 x.rep, .int .i64 x.num] 43)).alloc (.cells #[.int .i64 y.rep, .int .i64 y.num] 43))) := (below_new w _).trans ((below_new _ _).mono (below_new w (.cells #[.int .i64 x.rep, .int .i64 x.num] 43)).size)
 unfold DC
 obtain ⟨r, m, s, q⟩ := x
 obtain ⟨r', m', s', q'⟩ := y
 by_cases h1 : r < r'
 ·have HF : Hid (ahead ⟨r, m, s, q⟩ ⟨r', m', s', q'⟩ = true) := by show _ = _; unfold ahead; rw [decide_eq_true h1]; rfl
  go_enter Tryz.func99, Tryz.ntmps99
  go_wp2
  go_ret
  exact ⟨ret_b HF.out, HB.out⟩
 ·by_cases h2 : r = r'
  ·have HF : Hid (ahead ⟨r, m, s, q⟩ ⟨r', m', s', q'⟩ = decide (m < m')) := by show _ = _; unfold ahead; rw [decide_eq_false h1]; simp [h2]
   have h2' : (r == r') = true := by simpa using h2
   clear h2
   go_enter Tryz.func99, Tryz.ntmps99
   go_wp2
   go_ret
   exact ⟨ret_b HF.out, HB.out⟩
  ·have HF : Hid (ahead ⟨r, m, s, q⟩ ⟨r', m', s', q'⟩ = false) := by show _ = _; unfold ahead; rw [decide_eq_false h1]; simp [h2]
   have h2' : (r == r') = false := by simpa using h2
   clear h2
   go_enter Tryz.func99, Tryz.ntmps99
   go_wp2
   go_ret
   exact ⟨ret_b HF.out, HB.out⟩
theorem refEntries_any (ao : Option Addr) (n cap : Nat) (L : List En) (w : World) (hS : ESrc w ao n cap L) : Calls Tryz.prog 54 #[.slice ao n cap] w fun e w' => e = .returned (.bool (okN L n)) /\ Below w.heap.size w w' := by
 have HS := hide hS
 have hn := hS.2.2.2.2
 clear hS
 go_enter Tryz.func54, Tryz.ntmps54
 go_wp2_with fail
 go_loopw [3] (fun i wr => ∃ k : Nat, k <= n /\ i = .int .i64 k /\ Hid (okN L k = true) /\ Hid (Below w.heap.size w wr)) (fun i _ => n - (intOf i).toNat)
 case atStart => exact ⟨0, Nat.zero_le _, rfl, rfl, Below.refl _ _⟩
 case round =>
  obtain ⟨k, hk, rfl, HK, HB⟩ := hrel
  rename World => wr
  by_cases hlt : k < n
  ·obtain ⟨ad, rfl, A0⟩ := (HS.out.below HB.out).at k hlt
   have HSr := hide (HS.out.below HB.out)
   obtain ⟨e, He⟩ : ∃ e, Hid (L.getD k en0 = e) := ⟨_, rfl⟩
   have hsk := HS.out.sku k hlt
   rw [He.out] at A0 hsk
   have HA := hide A0
   have HSK := hide hsk
   clear A0 hsk
   have Hlt := hide hlt
   by_cases hk0 : k = 0
   ·have hk1 : decide (0 < k) = false := by rw [decide_eq_false_iff_not]; omega
    have HK0 := hide hk0
    have hat : Hid (okAt L k = (ceE e == 0)) := by show _ = _; unfold okAt; rw [He.out, hk0]; simp
    clear hk0
    go_wp2_with fail
    refine wp_region_held_drew (S := fun v => (ld28 (.pointer (some (ad.add (k * 4))))).run Tryz.prog v = .ok (EV e) v) (by kernel_rfl) (run_ld28 (HA.out.on (below_drew1 wr))) (fun hHeld => ?_)
    refine wTk 0 ⟨some 10, .move (.tmp 0), 22, "ref.go:51", #[], none⟩ rfl ?_
    refine wTk 1 ⟨some 11, .move (.tmp 3), 3, "ref.go:51", #[], none⟩ rfl ?_
    refine wTk 2 ⟨some 12, .indexAddr 22 (.tmp 10) (.tmp 11), 0, "ref.go:51", #[⟨0, .data⟩, ⟨1, .data⟩], none⟩ rfl ?_
    refine wTk 3 ⟨some 13, .load 66 (.tmp 12), 66, "ref.go:51", #[⟨2, .data⟩], none⟩ rfl ?_
    refine wpAnyH_ready (rs := [4]) (by kernel_rfl) (by simp) (.cons rfl (fun K hK => ?_) .nil)
    go_simp
    go_wp2_with fail
    refine (refEntry_any e _ HSK.out).mono ?_
    rintro x w2 ⟨rfl, b2⟩
    have hB2 : Below wr.heap.size wr w2 := (below_drew1 wr).trans b2
    have HB2 := hide hB2
    refine hK.out _ _ (run_ld28 (HA.out.on (hB2))) (fun hHeld => ?_)
    clear hK K b2
    cases hc : (ceE e == 0) with
    | false =>
     have HN : Hid (okN L n = false) := okN_no L k n Hlt.out (by rw [hat.out, hc])
     clear hc
     refine wTk 5 ⟨some 15, .unOp .not 4 (.tmp 14), 4, "ref.go:51", #[⟨4, .data⟩], none⟩ rfl ?_
     refine wTk 6 ⟨some 16, .move (.tmp 15), 4, "ref.go:51", #[⟨5, .data⟩, ⟨4, .chain⟩], none⟩ rfl ?_
     refine wSk 7 ⟨some 17, .move (.tmp 3), 3, "ref.go:51", #[⟨6, .guard⟩], some (6, false)⟩ rfl ?_
     refine wSk 8 ⟨some 18, .binOp .gtr 3 (.tmp 17) (.const (.int .i64 0)) 3, 4, "ref.go:51", #[⟨7, .data⟩, ⟨6, .guard⟩], some (6, false)⟩ rfl ?_
     refine wSk 9 ⟨some 19, .move (.tmp 18), 4, "ref.go:51", #[⟨8, .data⟩, ⟨6, .chain⟩, ⟨6, .guard⟩], some (6, false)⟩ rfl ?_
     refine wSk 10 ⟨some 20, .move (.tmp 0), 22, "ref.go:51", #[⟨9, .guard⟩], some (9, true)⟩ rfl ?_
     refine wSk 11 ⟨some 21, .move (.tmp 3), 3, "ref.go:51", #[⟨9, .guard⟩], some (9, true)⟩ rfl ?_
     refine wSk 12 ⟨some 22, .binOp .sub 3 (.tmp 21) (.const (.int .i64 1)) 3, 3, "ref.go:51", #[⟨11, .data⟩, ⟨9, .guard⟩], some (9, true)⟩ rfl ?_
     refine wSk 13 ⟨some 23, .indexAddr 22 (.tmp 20) (.tmp 22), 0, "ref.go:51", #[⟨10, .data⟩, ⟨12, .data⟩, ⟨9, .guard⟩], some (9, true)⟩ rfl ?_
     refine wSk 14 ⟨some 24, .fieldAddr 66 (.tmp 23) 0, 0, "ref.go:51", #[⟨13, .data⟩, ⟨9, .guard⟩], some (9, true)⟩ rfl ?_
     refine wSk 15 ⟨some 25, .load 43 (.tmp 24), 43, "ref.go:51", #[⟨14, .data⟩, ⟨9, .guard⟩], some (9, true)⟩ rfl ?_
     refine wSk 16 ⟨some 26, .move (.tmp 0), 22, "ref.go:51", #[⟨9, .guard⟩], some (9, true)⟩ rfl ?_
     refine wSk 17 ⟨some 27, .move (.tmp 3), 3, "ref.go:51", #[⟨9, .guard⟩], some (9, true)⟩ rfl ?_
     refine wSk 18 ⟨some 28, .indexAddr 22 (.tmp 26) (.tmp 27), 0, "ref.go:51", #[⟨16, .data⟩, ⟨17, .data⟩, ⟨9, .guard⟩], some (9, true)⟩ rfl ?_
     refine wSk 19 ⟨some 29, .fieldAddr 66 (.tmp 28) 0, 0, "ref.go:51", #[⟨18, .data⟩, ⟨9, .guard⟩], some (9, true)⟩ rfl ?_
     refine wSk 20 ⟨some 30, .load 43 (.tmp 29), 43, "ref.go:51", #[⟨19, .data⟩, ⟨9, .guard⟩], some (9, true)⟩ rfl ?_
     refine wSk 21 ⟨some 31, .call ⟨.value (.func 99), #[.tmp 25, .tmp 30], #[43, 43]⟩, 4, "ref.go:51", #[⟨15, .data⟩, ⟨20, .data⟩, ⟨9, .chain⟩, ⟨9, .guard⟩], some (9, true)⟩ rfl ?_
     refine wSk 22 ⟨some 32, .unOp .not 4 (.tmp 31), 4, "ref.go:51", #[⟨21, .data⟩, ⟨9, .guard⟩], some (9, true)⟩ rfl ?_
     refine wSk 23 ⟨some 33, .pick (.tmp 19) (.tmp 32) (.const (.bool false)), 4, "ref.go:51", #[⟨9, .data⟩, ⟨22, .data⟩, ⟨6, .guard⟩], some (6, false)⟩ rfl ?_
     refine wTk 24 ⟨some 34, .pick (.tmp 16) (.const (.bool true)) (.tmp 33), 4, "ref.go:51", #[⟨6, .data⟩, ⟨23, .data⟩], none⟩ rfl ?_
     refine wpAnyH_done (by kernel_rfl) ?_ _
     clear hHeld
     go_wp2_with fail
     go_ret
     exact ⟨by rw [HN.out]; rfl, HB.out.trans (HB2.out.mono HB.out.size)⟩
    | true =>
     have HC := hide hc
     clear hc
     refine wTk 5 ⟨some 15, .unOp .not 4 (.tmp 14), 4, "ref.go:51", #[⟨4, .data⟩], none⟩ rfl ?_
     refine wTk 6 ⟨some 16, .move (.tmp 15), 4, "ref.go:51", #[⟨5, .data⟩, ⟨4, .chain⟩], none⟩ rfl ?_
     refine wTk 7 ⟨some 17, .move (.tmp 3), 3, "ref.go:51", #[⟨6, .guard⟩], some (6, false)⟩ rfl ?_
     refine wTk 8 ⟨some 18, .binOp .gtr 3 (.tmp 17) (.const (.int .i64 0)) 3, 4, "ref.go:51", #[⟨7, .data⟩, ⟨6, .guard⟩], some (6, false)⟩ rfl ?_
     refine wTk 9 ⟨some 19, .move (.tmp 18), 4, "ref.go:51", #[⟨8, .data⟩, ⟨6, .chain⟩, ⟨6, .guard⟩], some (6, false)⟩ rfl ?_
     refine wSk 10 ⟨some 20, .move (.tmp 0), 22, "ref.go:51", #[⟨9, .guard⟩], some (9, true)⟩ rfl ?_
     refine wSk 11 ⟨some 21, .move (.tmp 3), 3, "ref.go:51", #[⟨9, .guard⟩], some (9, true)⟩ rfl ?_
     refine wSk 12 ⟨some 22, .binOp .sub 3 (.tmp 21) (.const (.int .i64 1)) 3, 3, "ref.go:51", #[⟨11, .data⟩, ⟨9, .guard⟩], some (9, true)⟩ rfl ?_
     refine wSk 13 ⟨some 23, .indexAddr 22 (.tmp 20) (.tmp 22), 0, "ref.go:51", #[⟨10, .data⟩, ⟨12, .data⟩, ⟨9, .guard⟩], some (9, true)⟩ rfl ?_
     refine wSk 14 ⟨some 24, .fieldAddr 66 (.tmp 23) 0, 0, "ref.go:51", #[⟨13, .data⟩, ⟨9, .guard⟩], some (9, true)⟩ rfl ?_
     refine wSk 15 ⟨some 25, .load 43 (.tmp 24), 43, "ref.go:51", #[⟨14, .data⟩, ⟨9, .guard⟩], some (9, true)⟩ rfl ?_
     refine wSk 16 ⟨some 26, .move (.tmp 0), 22, "ref.go:51", #[⟨9, .guard⟩], some (9, true)⟩ rfl ?_
     refine wSk 17 ⟨some 27, .move (.tmp 3), 3, "ref.go:51", #[⟨9, .guard⟩], some (9, true)⟩ rfl ?_
     refine wSk 18 ⟨some 28, .indexAddr 22 (.tmp 26) (.tmp 27), 0, "ref.go:51", #[⟨16, .data⟩, ⟨17, .data⟩, ⟨9, .guard⟩], some (9, true)⟩ rfl ?_
     refine wSk 19 ⟨some 29, .fieldAddr 66 (.tmp 28) 0, 0, "ref.go:51", #[⟨18, .data⟩, ⟨9, .guard⟩], some (9, true)⟩ rfl ?_
     refine wSk 20 ⟨some 30, .load 43 (.tmp 29), 43, "ref.go:51", #[⟨19, .data⟩, ⟨9, .guard⟩], some (9, true)⟩ rfl ?_
     refine wSk 21 ⟨some 31, .call ⟨.value (.func 99), #[.tmp 25, .tmp 30], #[43, 43]⟩, 4, "ref.go:51", #[⟨15, .data⟩, ⟨20, .data⟩, ⟨9, .chain⟩, ⟨9, .guard⟩], some (9, true)⟩ rfl ?_
     refine wSk 22 ⟨some 32, .unOp .not 4 (.tmp 31), 4, "ref.go:51", #[⟨21, .data⟩, ⟨9, .guard⟩], some (9, true)⟩ rfl ?_
     refine wTk 23 ⟨some 33, .pick (.tmp 19) (.tmp 32) (.const (.bool false)), 4, "ref.go:51", #[⟨9, .data⟩, ⟨22, .data⟩, ⟨6, .guard⟩], some (6, false)⟩ rfl ?_
     refine wTk 24 ⟨some 34, .pick (.tmp 16) (.const (.bool true)) (.tmp 33), 4, "ref.go:51", #[⟨6, .data⟩, ⟨23, .data⟩], none⟩ rfl ?_
     refine wpAnyH_done (by kernel_rfl) ?_ _
     clear hHeld
     have HN : Hid (okN L (k + 1) = true) := by show _ = _; rw [okN_succ, HK.out, hat.out, HC.out]; rfl
     go_wp2_with fail
     go_roundw
     case rel => exact ⟨k + 1, by omega, by simp, HN, HB.out.trans (HB2.out.mono HB.out.size)⟩
     case measure => simp [intOf]; omega
   ·obtain ⟨j, Hj⟩ : ∃ j, Hid (k = j + 1) := ⟨k - 1, (show k = k - 1 + 1 by omega)⟩
    have hjn : j < n := by have := Hj.out; omega
    have hwj : IntKind.i64.wrap ((k : Int) - 1) = (j : Int) := by rw [IntKind.wrap_i64]; have := Hj.out; omega
    have hk1 : decide (0 < k) = true := by rw [decide_eq_true_iff]; omega
    obtain ⟨ad', e', Aj⟩ := HSr.out.at j hjn
    obtain rfl := Option.some.inj e'
    obtain ⟨q, Hq⟩ : ∃ q, Hid (L.getD j en0 = q) := ⟨_, rfl⟩
    rw [Hq.out] at Aj
    have HAj := hide Aj
    have hat : Hid (okAt L k = ((ceE e == 0) && ahead q e)) := by show _ = _; unfold okAt; rw [He.out, show k - 1 = j by have := Hj.out; omega, Hq.out, decide_eq_false hk0, Bool.false_or]
    clear Aj e' hk0
    go_wp2_with fail
    refine wp_region_held_drew (S := fun v => (ld28 (.pointer (some (ad.add (k * 4))))).run Tryz.prog v = .ok (EV e) v /\ (ld26 (.pointer (some (ad.add (k * 4))))).run Tryz.prog v = .ok (.agg (DC e)) v /\ (ld26 (.pointer (some (ad.add (j * 4))))).run Tryz.prog v = .ok (.agg (DC q)) v) (by kernel_rfl) (⟨run_ld28 (HA.out.on (below_drew1 wr)), run_ld26 (HA.out.on (below_drew1 wr)), run_ld26 (HAj.out.on (below_drew1 wr))⟩) (fun hHeld => ?_)
    refine wTk 0 ⟨some 10, .move (.tmp 0), 22, "ref.go:51", #[], none⟩ rfl ?_
    refine wTk 1 ⟨some 11, .move (.tmp 3), 3, "ref.go:51", #[], none⟩ rfl ?_
    refine wTk 2 ⟨some 12, .indexAddr 22 (.tmp 10) (.tmp 11), 0, "ref.go:51", #[⟨0, .data⟩, ⟨1, .data⟩], none⟩ rfl ?_
    refine wTk 3 ⟨some 13, .load 66 (.tmp 12), 66, "ref.go:51", #[⟨2, .data⟩], none⟩ rfl ?_
    refine wpAnyH_ready (rs := [4]) (by kernel_rfl) (by simp) (.cons rfl (fun K hK => ?_) .nil)
    go_simp
    go_wp2_with fail
    refine (refEntry_any e _ HSK.out).mono ?_
    rintro x w2 ⟨rfl, b2⟩
    have hB2 : Below wr.heap.size wr w2 := (below_drew1 wr).trans b2
    have HB2 := hide hB2
    refine hK.out _ _ (⟨run_ld28 (HA.out.on (hB2)), run_ld26 (HA.out.on (hB2)), run_ld26 (HAj.out.on (hB2))⟩) (fun hHeld => ?_)
    clear hK K b2
    cases hc : (ceE e == 0) with
    | false =>
     have HN : Hid (okN L n = false) := okN_no L k n Hlt.out (by rw [hat.out, hc]; rfl)
     clear hc
     refine wTk 5 ⟨some 15, .unOp .not 4 (.tmp 14), 4, "ref.go:51", #[⟨4, .data⟩], none⟩ rfl ?_
     refine wTk 6 ⟨some 16, .move (.tmp 15), 4, "ref.go:51", #[⟨5, .data⟩, ⟨4, .chain⟩], none⟩ rfl ?_
     refine wSk 7 ⟨some 17, .move (.tmp 3), 3, "ref.go:51", #[⟨6, .guard⟩], some (6, false)⟩ rfl ?_
     refine wSk 8 ⟨some 18, .binOp .gtr 3 (.tmp 17) (.const (.int .i64 0)) 3, 4, "ref.go:51", #[⟨7, .data⟩, ⟨6, .guard⟩], some (6, false)⟩ rfl ?_
     refine wSk 9 ⟨some 19, .move (.tmp 18), 4, "ref.go:51", #[⟨8, .data⟩, ⟨6, .chain⟩, ⟨6, .guard⟩], some (6, false)⟩ rfl ?_
     refine wSk 10 ⟨some 20, .move (.tmp 0), 22, "ref.go:51", #[⟨9, .guard⟩], some (9, true)⟩ rfl ?_
     refine wSk 11 ⟨some 21, .move (.tmp 3), 3, "ref.go:51", #[⟨9, .guard⟩], some (9, true)⟩ rfl ?_
     refine wSk 12 ⟨some 22, .binOp .sub 3 (.tmp 21) (.const (.int .i64 1)) 3, 3, "ref.go:51", #[⟨11, .data⟩, ⟨9, .guard⟩], some (9, true)⟩ rfl ?_
     refine wSk 13 ⟨some 23, .indexAddr 22 (.tmp 20) (.tmp 22), 0, "ref.go:51", #[⟨10, .data⟩, ⟨12, .data⟩, ⟨9, .guard⟩], some (9, true)⟩ rfl ?_
     refine wSk 14 ⟨some 24, .fieldAddr 66 (.tmp 23) 0, 0, "ref.go:51", #[⟨13, .data⟩, ⟨9, .guard⟩], some (9, true)⟩ rfl ?_
     refine wSk 15 ⟨some 25, .load 43 (.tmp 24), 43, "ref.go:51", #[⟨14, .data⟩, ⟨9, .guard⟩], some (9, true)⟩ rfl ?_
     refine wSk 16 ⟨some 26, .move (.tmp 0), 22, "ref.go:51", #[⟨9, .guard⟩], some (9, true)⟩ rfl ?_
     refine wSk 17 ⟨some 27, .move (.tmp 3), 3, "ref.go:51", #[⟨9, .guard⟩], some (9, true)⟩ rfl ?_
     refine wSk 18 ⟨some 28, .indexAddr 22 (.tmp 26) (.tmp 27), 0, "ref.go:51", #[⟨16, .data⟩, ⟨17, .data⟩, ⟨9, .guard⟩], some (9, true)⟩ rfl ?_
     refine wSk 19 ⟨some 29, .fieldAddr 66 (.tmp 28) 0, 0, "ref.go:51", #[⟨18, .data⟩, ⟨9, .guard⟩], some (9, true)⟩ rfl ?_
     refine wSk 20 ⟨some 30, .load 43 (.tmp 29), 43, "ref.go:51", #[⟨19, .data⟩, ⟨9, .guard⟩], some (9, true)⟩ rfl ?_
     refine wSk 21 ⟨some 31, .call ⟨.value (.func 99), #[.tmp 25, .tmp 30], #[43, 43]⟩, 4, "ref.go:51", #[⟨15, .data⟩, ⟨20, .data⟩, ⟨9, .chain⟩, ⟨9, .guard⟩], some (9, true)⟩ rfl ?_
     refine wSk 22 ⟨some 32, .unOp .not 4 (.tmp 31), 4, "ref.go:51", #[⟨21, .data⟩, ⟨9, .guard⟩], some (9, true)⟩ rfl ?_
     refine wSk 23 ⟨some 33, .pick (.tmp 19) (.tmp 32) (.const (.bool false)), 4, "ref.go:51", #[⟨9, .data⟩, ⟨22, .data⟩, ⟨6, .guard⟩], some (6, false)⟩ rfl ?_
     refine wTk 24 ⟨some 34, .pick (.tmp 16) (.const (.bool true)) (.tmp 33), 4, "ref.go:51", #[⟨6, .data⟩, ⟨23, .data⟩], none⟩ rfl ?_
     refine wpAnyH_done (by kernel_rfl) ?_ _
     clear hHeld
     go_wp2_with fail
     go_ret
     exact ⟨by rw [HN.out]; rfl, HB.out.trans (HB2.out.mono HB.out.size)⟩
    | true =>
     have HC := hide hc
     clear hc
     refine wTk 5 ⟨some 15, .unOp .not 4 (.tmp 14), 4, "ref.go:51", #[⟨4, .data⟩], none⟩ rfl ?_
     refine wTk 6 ⟨some 16, .move (.tmp 15), 4, "ref.go:51", #[⟨5, .data⟩, ⟨4, .chain⟩], none⟩ rfl ?_
     refine wTk 7 ⟨some 17, .move (.tmp 3), 3, "ref.go:51", #[⟨6, .guard⟩], some (6, false)⟩ rfl ?_
     refine wTk 8 ⟨some 18, .binOp .gtr 3 (.tmp 17) (.const (.int .i64 0)) 3, 4, "ref.go:51", #[⟨7, .data⟩, ⟨6, .guard⟩], some (6, false)⟩ rfl ?_
     refine wTk 9 ⟨some 19, .move (.tmp 18), 4, "ref.go:51", #[⟨8, .data⟩, ⟨6, .chain⟩, ⟨6, .guard⟩], some (6, false)⟩ rfl ?_
     refine wTk 10 ⟨some 20, .move (.tmp 0), 22, "ref.go:51", #[⟨9, .guard⟩], some (9, true)⟩ rfl ?_
     refine wTk 11 ⟨some 21, .move (.tmp 3), 3, "ref.go:51", #[⟨9, .guard⟩], some (9, true)⟩ rfl ?_
     refine wTk 12 ⟨some 22, .binOp .sub 3 (.tmp 21) (.const (.int .i64 1)) 3, 3, "ref.go:51", #[⟨11, .data⟩, ⟨9, .guard⟩], some (9, true)⟩ rfl ?_
     refine wTk 13 ⟨some 23, .indexAddr 22 (.tmp 20) (.tmp 22), 0, "ref.go:51", #[⟨10, .data⟩, ⟨12, .data⟩, ⟨9, .guard⟩], some (9, true)⟩ rfl ?_
     refine wTk 14 ⟨some 24, .fieldAddr 66 (.tmp 23) 0, 0, "ref.go:51", #[⟨13, .data⟩, ⟨9, .guard⟩], some (9, true)⟩ rfl ?_
     refine wTk 15 ⟨some 25, .load 43 (.tmp 24), 43, "ref.go:51", #[⟨14, .data⟩, ⟨9, .guard⟩], some (9, true)⟩ rfl ?_
     refine wTk 16 ⟨some 26, .move (.tmp 0), 22, "ref.go:51", #[⟨9, .guard⟩], some (9, true)⟩ rfl ?_
     refine wTk 17 ⟨some 27, .move (.tmp 3), 3, "ref.go:51", #[⟨9, .guard⟩], some (9, true)⟩ rfl ?_
     refine wTk 18 ⟨some 28, .indexAddr 22 (.tmp 26) (.tmp 27), 0, "ref.go:51", #[⟨16, .data⟩, ⟨17, .data⟩, ⟨9, .guard⟩], some (9, true)⟩ rfl ?_
     refine wTk 19 ⟨some 29, .fieldAddr 66 (.tmp 28) 0, 0, "ref.go:51", #[⟨18, .data⟩, ⟨9, .guard⟩], some (9, true)⟩ rfl ?_
     refine wTk 20 ⟨some 30, .load 43 (.tmp 29), 43, "ref.go:51", #[⟨19, .data⟩, ⟨9, .guard⟩], some (9, true)⟩ rfl ?_
     refine wpAnyH_ready (rs := [21]) (by kernel_rfl) (by simp) (.cons rfl (fun K hK => ?_) .nil)
     go_simp
     go_wp2_with fail
     refine (refBefore_any q e _).mono ?_
     rintro x w3 ⟨rfl, b3⟩
     have hB3 : Below wr.heap.size wr w3 := HB2.out.trans (b3.mono HB2.out.size)
     have HB3 := hide hB3
     refine hK.out _ _ (⟨run_ld28 (HA.out.on (hB3)), run_ld26 (HA.out.on (hB3)), run_ld26 (HAj.out.on (hB3))⟩) (fun hHeld => ?_)
     clear hK K b3 hB2
     cases ha : ahead q e with
     | false =>
      have HN : Hid (okN L n = false) := okN_no L k n Hlt.out (by rw [hat.out, HC.out, ha]; rfl)
      clear ha
      refine wTk 22 ⟨some 32, .unOp .not 4 (.tmp 31), 4, "ref.go:51", #[⟨21, .data⟩, ⟨9, .guard⟩], some (9, true)⟩ rfl ?_
      refine wTk 23 ⟨some 33, .pick (.tmp 19) (.tmp 32) (.const (.bool false)), 4, "ref.go:51", #[⟨9, .data⟩, ⟨22, .data⟩, ⟨6, .guard⟩], some (6, false)⟩ rfl ?_
      refine wTk 24 ⟨some 34, .pick (.tmp 16) (.const (.bool true)) (.tmp 33), 4, "ref.go:51", #[⟨6, .data⟩, ⟨23, .data⟩], none⟩ rfl ?_
      refine wpAnyH_done (by kernel_rfl) ?_ _
      clear hHeld
      go_wp2_with fail
      go_ret
      exact ⟨by rw [HN.out]; rfl, HB.out.trans (HB3.out.mono HB.out.size)⟩
     | true =>
      have HN : Hid (okN L (k + 1) = true) := by show _ = _; rw [okN_succ, HK.out, hat.out, HC.out, ha]; rfl
      clear ha
      refine wTk 22 ⟨some 32, .unOp .not 4 (.tmp 31), 4, "ref.go:51", #[⟨21, .data⟩, ⟨9, .guard⟩], some (9, true)⟩ rfl ?_
      refine wTk 23 ⟨some 33, .pick (.tmp 19) (.tmp 32) (.const (.bool false)), 4, "ref.go:51", #[⟨9, .data⟩, ⟨22, .data⟩, ⟨6, .guard⟩], some (6, false)⟩ rfl ?_
      refine wTk 24 ⟨some 34, .pick (.tmp 16) (.const (.bool true)) (.tmp 33), 4, "ref.go:51", #[⟨6, .data⟩, ⟨23, .data⟩], none⟩ rfl ?_
      refine wpAnyH_done (by kernel_rfl) ?_ _
      clear hHeld
      go_wp2_with fail
      go_roundw
      case rel => exact ⟨k + 1, by omega, by simp, HN, HB.out.trans (HB3.out.mono HB.out.size)⟩
      case measure => simp [intOf]; omega
  ·obtain rfl : k = n := by omega
   go_wp2_with fail
   go_ret
   exact ⟨by rw [HK.out]; rfl, HB.out⟩
end Go.Proofs.YtaphmhbmhcahaaaGreat.K
namespace Go.Proofs.YtaphmhbmhcahaaaGreat
open Go.RowKit
attribute [local go_sem ↓] ldP_eq stP_eq ldFa_eq stFa_eq ldD_eq stD_eq
attribute [local go_sem] cells_PV PC_size cells_FaV FaC_size cells_RV RC_size zero_RC fold_RC
theorem refFacts_any (f : Fc) (w : World) (hF : FcOk w f) : Calls Tryz.prog 95 #[FaV (mkF f)] w fun e w' => GivB w w' e (FormF f) := by
 have HX := hide (FaBox_new w (mkF f))
 have HBK := hide (below_new w (.cells (FaC (mkF f)) 59))
 have HS := hide (hF.below HBK.out)
 clear hF
 obtain ⟨wk, hwk⟩ : ∃ wk, w.alloc (.cells (FaC (mkF f)) 59) = wk := ⟨_, rfl⟩
 obtain ⟨G, hG⟩ : ∃ G, w.heap.size = G := ⟨_, rfl⟩
 rw [hwk] at HX HBK HS
 rw [hG] at HX
 obtain ⟨c0, c3⟩ := HX.out.cs
 have lp := run_ldP HX.out.past
 have lf := run_ldFa HX.out
 go_enter Tryz.func95, Tryz.ntmps95
 go_wp2_with fail
 clear hwk hG
 refine (K.refEntries_any f.ao f.an f.ac f.es _ HS.out.es).mono ?_
 rintro e w2 ⟨rfl, b2⟩
 have HB2 := hide (HBK.out.trans (b2.mono HBK.out.size))
 have HX2 := hide (HX.out.below b2)
 have HS2 := hide (HS.out.below b2)
 clear b2 c0 c3 lp lf HX HS HBK
 cases hc : K.okN f.es f.an with
 | false =>
  have HN : Hid (¬ FormF f) := fun h => by have h1 := h.1; rw [hc] at h1; cases h1
  clear hc
  go_wp2_with fail
  go_ret
  exact ⟨_, rfl, BIf.no HN.out, HB2.out⟩
 | true =>
  have HC := hide hc
  have lp := run_ldP HX2.out.past
  clear hc
  go_wp2_with fail
  refine (refIsNorm_any f.p _ HS2.out.p).mono ?_
  rintro e w3 ⟨b, rfl, hb, b3⟩
  have HB3 := hide (HB2.out.trans (b3.mono HB2.out.size))
  have HX3 := hide (HX2.out.below b3)
  have HS3 := hide (HS2.out.below b3)
  clear b3 lp HX2 HS2 HB2
  cases b with
  | false =>
   have HN : Hid (¬ FormF f) := fun h => (by have := hb.out.2 h.2.1; cases this)
   clear hb
   go_wp2_with fail
   go_ret
   exact ⟨_, rfl, BIf.no HN.out, HB3.out⟩
  | true =>
   have HI : Hid (InForm f.p.P) := hb.out.1 rfl
   have c3 := HX3.out.cs.2
   clear hb
   go_wp2_with fail
   refine (refRecords_any f.ro f.rn f.rc f.rs _ HS3.out.rs).mono ?_
   rintro e w4 ⟨b, rfl, hb, b4⟩
   have HF : Hid (BIf b (FormF f) /\ Below w.heap.size w w4) := ⟨⟨fun h => ⟨HC.out, HI.out, hb.out.1 h⟩, fun h => hb.out.2 h.2.2⟩, HB3.out.trans (b4.mono HB3.out.size)⟩
   clear hb b4 c3
   cases b with
   | true =>
    go_wp2_with fail
    go_ret
    exact ⟨_, rfl, HF.out.1, HF.out.2⟩
   | false =>
    go_wp2_with fail
    go_ret
    exact ⟨_, rfl, HF.out.1, HF.out.2⟩
end Go.Proofs.YtaphmhbmhcahaaaGreat
