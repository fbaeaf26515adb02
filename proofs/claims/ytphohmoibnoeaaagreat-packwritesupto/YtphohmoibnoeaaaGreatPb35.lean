/- IQe -/
import Derived.Test.YtphohmoibnoeaaaGreatTk
import Derived.Test.YtphohmoibnoeaaaGreatPb34
import Derived.Deep.CutRange
namespace Go.Proofs.YtphohmoibnoeaaaGreat.K
open Go.RowKit
attribute [local go_sem ↓] ld28_eq st28_eq ld26_eq
attribute [local go_sem] zero_EC cells_EV

set_option maxRecDepth 100000 in
theorem refAhead_any (x y : En) (w : World) : Calls Tryz.prog 48 #[.agg (DC x), .agg (DC y)] w fun e w' => e = .returned (.bool (ahead x y)) ∧ Below w.heap.size w w' := by
 have HB : Hid (Below w.heap.size w ((w.alloc (.cells #[.int .i64 x.rep, .int .i64 x.num] 55)).alloc (.cells #[.int .i64 y.rep, .int .i64 y.num] 55))) := (below_new w _).trans ((below_new _ _).mono (below_new w (.cells #[.int .i64 x.rep, .int .i64 x.num] 55)).size)
 unfold DC
 obtain ⟨r, m, s, q⟩ := x
 obtain ⟨r', m', s', q'⟩ := y
 by_cases h1 : r < r'
 ·have HF : Hid (ahead ⟨r, m, s, q⟩ ⟨r', m', s', q'⟩ = true) := by show _ = _; unfold ahead; rw [decide_eq_true h1]; rfl
  go_enter Tryz.func48, Tryz.ntmps48
  go_wp2
  go_ret
  exact ⟨ret_b HF.out, HB.out⟩
 ·by_cases h2 : r = r'
  ·have HF : Hid (ahead ⟨r, m, s, q⟩ ⟨r', m', s', q'⟩ = decide (m < m')) := by show _ = _; unfold ahead; rw [decide_eq_false h1]; simp [h2]
   have h2' : (r == r') = true := by simpa using h2
   clear h2
   go_enter Tryz.func48, Tryz.ntmps48
   go_wp2
   go_ret
   exact ⟨ret_b HF.out, HB.out⟩
  ·have HF : Hid (ahead ⟨r, m, s, q⟩ ⟨r', m', s', q'⟩ = false) := by show _ = _; unfold ahead; rw [decide_eq_false h1]; simp [h2]
   have h2' : (r == r') = false := by simpa using h2
   clear h2
   go_enter Tryz.func48, Tryz.ntmps48
   go_wp2
   go_ret
   exact ⟨ret_b HF.out, HB.out⟩
theorem EnAt.flat {w : World} {b o : Nat} {e : En} (A : EnAt w ⟨b, o, none⟩ e) : w.cell? ⟨b, o, none⟩ = some (.int .i64 e.rep) ∧ w.cell? ⟨b, o + 1, none⟩ = some (.int .i64 e.num) ∧ w.cell? ⟨b, o + 2, none⟩ = some (.string e.sku) ∧ w.cell? ⟨b, o + 3, none⟩ = some (.int .i64 e.qty) := by
 obtain ⟨h0, h1, h2, h3⟩ := A
 rw [Addr.add_lit] at h1 h2 h3
 exact ⟨h0, h1, h2, h3⟩
set_option maxRecDepth 100000 in
set_option maxHeartbeats 3200000 in
theorem refEntries7_any (ao : Option Addr) (n cap : Nat) (L : List En) (w : World) (hS : ESrc w ao n cap L) : Calls Tryz.prog 20 #[.slice ao n cap] w fun e w' => e = .returned (.bool (okN L n)) ∧ Below w.heap.size w w' := by
 have HS := hide hS
 have hn := hS.2.2.2.2
 clear hS
 go_enter Tryz.func20, Tryz.ntmps20
 go_wp2_with fail
 go_loopw [3] (fun i wr => ∃ k : Nat, k ≤ n ∧ i = .int .i64 k ∧ Hid (okN L k = true) ∧ Hid (Below w.heap.size w wr)) (fun i _ => n - (intOf i).toNat)
 case atStart => exact ⟨0, Nat.zero_le _, rfl, rfl, Below.refl _ _⟩
 case round =>
  obtain ⟨k, hk, rfl, HK, HB⟩ := hrel
  rename World => wr
  by_cases hlt : k < n
  ·obtain ⟨ad, rfl, A0⟩ := (HS.out.below HB.out).at k hlt
   have HSr := hide (HS.out.below HB.out)
   obtain ⟨e, He⟩ : ∃ e, Hid (L.getD k en0 = e) := ⟨_, rfl⟩
   have hsk := HS.out.sku k hlt
   rw [He.out] at A0 hsk
   obtain ⟨ad0, e0, A00⟩ := (HS.out.below HB.out).at 0 (by omega)
   obtain rfl := Option.some.inj e0
   have hsp := World.cell?_spot A00.c0
   rw [Nat.zero_mul, add_zero] at hsp
   obtain ⟨b, o, sp⟩ := ad
   have hsp : sp = none := hsp
   subst hsp
   clear A00 e0
   rw [Addr.add_lit] at A0
   have HA := hide A0
   have HSK := hide hsk
   have l0 := run_ld26 A0
   clear A0 hsk
   have Hlt := hide hlt
   go_wp2_with fail
   refine (refIsDot_any e _).mono ?_
   rintro x w2 ⟨rfl, b2⟩
   have HB2 := hide (HB.out.trans (b2.mono HB.out.size))
   have HA2 := hide (HA.out.on b2)
   obtain ⟨-, -, c2, c3⟩ := HA2.out.flat
   have HSr2 := hide (HSr.out.below b2)
   clear b2 l0
   have hz := ceE_zero e
   cases hd : isD e with
   | false =>
    have HN : Hid (okN L n = false) := okN_no L k n Hlt.out (by unfold okAt; rw [He.out, hz, hd]; rfl)
    clear hd hz
    go_wp2_with fail
    go_ret
    exact ⟨ret_b HN.out, HB2.out⟩
   | true =>
    have HD := hide hd
    clear hd
    go_wp2_with fail
    refine (refGood_any e.sku _ HSK.out).mono ?_
    rintro x w' ⟨rfl, rfl⟩
    rename World => w2
    cases hg : good e.sku.data.toList with
    | false =>
     have HN : Hid (okN L n = false) := okN_no L k n Hlt.out (by unfold okAt; rw [He.out, hz, HD.out, hg]; rfl)
     clear hg hz
     go_wp2_with fail
     go_ret
     exact ⟨ret_b HN.out, HB2.out⟩
    | true =>
     have HG := hide hg
     clear hg
     by_cases q1 : e.qty < 1
     ·have HN : Hid (okN L n = false) := okN_no L k n Hlt.out (by unfold okAt; rw [He.out, hz, HD.out, HG.out, decide_eq_false (show ¬ 1 ≤ e.qty by omega)]; rfl)
      clear hz
      go_wp2_with fail
      go_ret
      exact ⟨ret_b HN.out, HB2.out⟩
     by_cases q2 : 1000000 < e.qty
     ·have HN : Hid (okN L n = false) := okN_no L k n Hlt.out (by unfold okAt; rw [He.out, hz, HD.out, HG.out, decide_eq_false (show ¬ e.qty ≤ 1000000 by omega), Bool.and_false]; rfl)
      clear hz
      go_wp2_with fail
      go_ret
      exact ⟨ret_b HN.out, HB2.out⟩
     have HC : Hid ((ceE e == 0) = true) := by show _ = _; rw [hz, HD.out, HG.out, decide_eq_true (show 1 ≤ e.qty by omega), decide_eq_true (show e.qty ≤ 1000000 by omega)]; rfl
     clear hz
     by_cases hk0 : k = 0
     ·have hk1 : decide (0 < k) = false := by rw [decide_eq_false_iff_not]; omega
      have HN : Hid (okN L (k + 1) = true) := by show _ = _; rw [okN_succ, HK.out]; unfold okAt; rw [He.out, HC.out, decide_eq_true hk0]; rfl
      clear hk0
      go_upto_region 6 with fail
      refine wp_region_held_drew (S := fun _ => True) (by kernel_rfl) (trivial) (fun hHeld => ?_)
      refine wTk 0 ⟨some 42, .move (.tmp 3), 3, "ref.go:24", #[], none⟩ rfl ?_
      refine wTk 1 ⟨some 43, .binOp .gtr 3 (.tmp 42) (.const (.int .i64 0)) 3, 4, "ref.go:24", #[⟨0, .data⟩], none⟩ rfl ?_
      refine wTk 2 ⟨some 44, .move (.tmp 43), 4, "ref.go:24", #[⟨1, .data⟩], none⟩ rfl ?_
      refine wSk 3 ⟨some 45, .move (.tmp 0), 26, "ref.go:24", #[⟨2, .guard⟩], some (2, true)⟩ rfl ?_
      refine wSk 4 ⟨some 46, .move (.tmp 3), 3, "ref.go:24", #[⟨2, .guard⟩], some (2, true)⟩ rfl ?_
      refine wSk 5 ⟨some 47, .binOp .sub 3 (.tmp 46) (.const (.int .i64 1)) 3, 3, "ref.go:24", #[⟨4, .data⟩, ⟨2, .guard⟩], some (2, true)⟩ rfl ?_
      refine wSk 6 ⟨some 48, .indexAddr 26 (.tmp 45) (.tmp 47), 0, "ref.go:24", #[⟨3, .data⟩, ⟨5, .data⟩, ⟨2, .guard⟩], some (2, true)⟩ rfl ?_
      refine wSk 7 ⟨some 49, .fieldAddr 57 (.tmp 48) 0, 0, "ref.go:24", #[⟨6, .data⟩, ⟨2, .guard⟩], some (2, true)⟩ rfl ?_
      refine wSk 8 ⟨some 50, .load 55 (.tmp 49), 55, "ref.go:24", #[⟨7, .data⟩, ⟨2, .guard⟩], some (2, true)⟩ rfl ?_
      refine wSk 9 ⟨some 51, .move (.tmp 0), 26, "ref.go:24", #[⟨2, .guard⟩], some (2, true)⟩ rfl ?_
      refine wSk 10 ⟨some 52, .move (.tmp 3), 3, "ref.go:24", #[⟨2, .guard⟩], some (2, true)⟩ rfl ?_
      refine wSk 11 ⟨some 53, .indexAddr 26 (.tmp 51) (.tmp 52), 0, "ref.go:24", #[⟨9, .data⟩, ⟨10, .data⟩, ⟨2, .guard⟩], some (2, true)⟩ rfl ?_
      refine wSk 12 ⟨some 54, .fieldAddr 57 (.tmp 53) 0, 0, "ref.go:24", #[⟨11, .data⟩, ⟨2, .guard⟩], some (2, true)⟩ rfl ?_
      refine wSk 13 ⟨some 55, .load 55 (.tmp 54), 55, "ref.go:24", #[⟨12, .data⟩, ⟨2, .guard⟩], some (2, true)⟩ rfl ?_
      refine wSk 14 ⟨some 56, .call ⟨.value (.func 48), #[.tmp 50, .tmp 55], #[55, 55]⟩, 4, "ref.go:24", #[⟨8, .data⟩, ⟨13, .data⟩, ⟨2, .chain⟩, ⟨2, .guard⟩], some (2, true)⟩ rfl ?_
      refine wSk 15 ⟨some 57, .unOp .not 4 (.tmp 56), 4, "ref.go:24", #[⟨14, .data⟩, ⟨2, .guard⟩], some (2, true)⟩ rfl ?_
      refine wTk 16 ⟨some 58, .pick (.tmp 44) (.tmp 57) (.const (.bool false)), 4, "ref.go:24", #[⟨2, .data⟩, ⟨15, .data⟩], none⟩ rfl ?_
      refine wpAnyH_done (by kernel_rfl) ?_ _
      clear hHeld
      go_wp2_with fail
      go_roundw
      case rel => exact ⟨k + 1, by omega, by simp, HN, below_drew HB2.out⟩
      case measure => simp [intOf]; omega
     ·obtain ⟨j, Hj⟩ : ∃ j, Hid (k = j + 1) := ⟨k - 1, (show k = k - 1 + 1 by omega)⟩
      have hjn : j < n := by have := Hj.out; omega
      have hwj : IntKind.i64.wrap ((k : Int) - 1) = (j : Int) := by rw [IntKind.wrap_i64]; have := Hj.out; omega
      have hk1 : decide (0 < k) = true := by rw [decide_eq_true_iff]; omega
      obtain ⟨ad', e', Aj⟩ := HSr2.out.at j hjn
      obtain rfl := Option.some.inj e'
      obtain ⟨q, Hq⟩ : ∃ q, Hid (L.getD j en0 = q) := ⟨_, rfl⟩
      rw [Hq.out, Addr.add_lit] at Aj
      have HAj := hide Aj
      have hat : Hid (okAt L k = ((ceE e == 0) && ahead q e)) := by show _ = _; unfold okAt; rw [He.out, show k - 1 = j by have := Hj.out; omega, Hq.out, decide_eq_false hk0, Bool.false_or]
      clear Aj e' hk0
      go_upto_region 6 with fail
      refine wp_region_held_drew (S := fun v => (ld26 (.pointer (some ⟨b, o + k * 4, none⟩))).run Tryz.prog v = .ok (.agg (DC e)) v ∧ (ld26 (.pointer (some ⟨b, o + j * 4, none⟩))).run Tryz.prog v = .ok (.agg (DC q)) v) (by kernel_rfl) (⟨run_ld26 (HA2.out.on (below_drew1 w2)), run_ld26 (HAj.out.on (below_drew1 w2))⟩) (fun hHeld => ?_)
      refine wTk 0 ⟨some 42, .move (.tmp 3), 3, "ref.go:24", #[], none⟩ rfl ?_
      refine wTk 1 ⟨some 43, .binOp .gtr 3 (.tmp 42) (.const (.int .i64 0)) 3, 4, "ref.go:24", #[⟨0, .data⟩], none⟩ rfl ?_
      refine wTk 2 ⟨some 44, .move (.tmp 43), 4, "ref.go:24", #[⟨1, .data⟩], none⟩ rfl ?_
      refine wTk 3 ⟨some 45, .move (.tmp 0), 26, "ref.go:24", #[⟨2, .guard⟩], some (2, true)⟩ rfl ?_
      refine wTk 4 ⟨some 46, .move (.tmp 3), 3, "ref.go:24", #[⟨2, .guard⟩], some (2, true)⟩ rfl ?_
      refine wTk 5 ⟨some 47, .binOp .sub 3 (.tmp 46) (.const (.int .i64 1)) 3, 3, "ref.go:24", #[⟨4, .data⟩, ⟨2, .guard⟩], some (2, true)⟩ rfl ?_
      refine wTk 6 ⟨some 48, .indexAddr 26 (.tmp 45) (.tmp 47), 0, "ref.go:24", #[⟨3, .data⟩, ⟨5, .data⟩, ⟨2, .guard⟩], some (2, true)⟩ rfl ?_
      refine wTk 7 ⟨some 49, .fieldAddr 57 (.tmp 48) 0, 0, "ref.go:24", #[⟨6, .data⟩, ⟨2, .guard⟩], some (2, true)⟩ rfl ?_
      refine wTk 8 ⟨some 50, .load 55 (.tmp 49), 55, "ref.go:24", #[⟨7, .data⟩, ⟨2, .guard⟩], some (2, true)⟩ rfl ?_
      refine wTk 9 ⟨some 51, .move (.tmp 0), 26, "ref.go:24", #[⟨2, .guard⟩], some (2, true)⟩ rfl ?_
      refine wTk 10 ⟨some 52, .move (.tmp 3), 3, "ref.go:24", #[⟨2, .guard⟩], some (2, true)⟩ rfl ?_
      refine wTk 11 ⟨some 53, .indexAddr 26 (.tmp 51) (.tmp 52), 0, "ref.go:24", #[⟨9, .data⟩, ⟨10, .data⟩, ⟨2, .guard⟩], some (2, true)⟩ rfl ?_
      refine wTk 12 ⟨some 54, .fieldAddr 57 (.tmp 53) 0, 0, "ref.go:24", #[⟨11, .data⟩, ⟨2, .guard⟩], some (2, true)⟩ rfl ?_
      refine wTk 13 ⟨some 55, .load 55 (.tmp 54), 55, "ref.go:24", #[⟨12, .data⟩, ⟨2, .guard⟩], some (2, true)⟩ rfl ?_
      refine wpAnyH_ready (rs := [14]) (by kernel_rfl) (by simp) (.cons rfl (fun K hK => ?_) .nil)
      go_simp
      go_wp2_with fail
      refine (refAhead_any q e _).mono ?_
      rintro x w3 ⟨rfl, b3⟩
      have hB3 : Below w2.heap.size w2 w3 := (below_drew1 w2).trans b3
      have HB3 := hide (HB2.out.trans (hB3.mono HB2.out.size))
      refine hK.out _ _ (⟨run_ld26 (HA2.out.on (hB3)), run_ld26 (HAj.out.on (hB3))⟩) (fun hHeld => ?_)
      clear hK K b3 hB3
      cases ha : ahead q e with
      | false =>
       have HN : Hid (okN L n = false) := okN_no L k n Hlt.out (by rw [hat.out, HC.out, ha]; rfl)
       clear ha
       refine wTk 15 ⟨some 57, .unOp .not 4 (.tmp 56), 4, "ref.go:24", #[⟨14, .data⟩, ⟨2, .guard⟩], some (2, true)⟩ rfl ?_
       refine wTk 16 ⟨some 58, .pick (.tmp 44) (.tmp 57) (.const (.bool false)), 4, "ref.go:24", #[⟨2, .data⟩, ⟨15, .data⟩], none⟩ rfl ?_
       refine wpAnyH_done (by kernel_rfl) ?_ _
       clear hHeld
       go_wp2_with fail
       go_ret
       exact ⟨ret_b HN.out, HB3.out⟩
      | true =>
       have HN : Hid (okN L (k + 1) = true) := by show _ = _; rw [okN_succ, HK.out, hat.out, HC.out, ha]; rfl
       clear ha
       refine wTk 15 ⟨some 57, .unOp .not 4 (.tmp 56), 4, "ref.go:24", #[⟨14, .data⟩, ⟨2, .guard⟩], some (2, true)⟩ rfl ?_
       refine wTk 16 ⟨some 58, .pick (.tmp 44) (.tmp 57) (.const (.bool false)), 4, "ref.go:24", #[⟨2, .data⟩, ⟨15, .data⟩], none⟩ rfl ?_
       refine wpAnyH_done (by kernel_rfl) ?_ _
       clear hHeld
       go_wp2_with fail
       go_roundw
       case rel => exact ⟨k + 1, by omega, by simp, HN, HB3.out⟩
       case measure => simp [intOf]; omega
  ·obtain rfl : k = n := by omega
   go_wp2_with fail
   go_ret
   exact ⟨by rw [HK.out]; rfl, HB.out⟩
end Go.Proofs.YtphohmoibnoeaaaGreat.K
