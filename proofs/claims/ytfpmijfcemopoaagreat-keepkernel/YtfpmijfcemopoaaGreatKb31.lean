/- BEn BAp -/
import Derived.Test.YtfpmijfcemopoaaGreatTk
import Derived.Test.YtfpmijfcemopoaaGreatKb30
import Derived.Deep.CutRange
import Derived.Test.YtfpmijfcemopoaaGreatKb27
namespace Go.Proofs.YtfpmijfcemopoaaGreat.K
open Go.RowKit
attribute [local go_sem ↓] ld28_eq st28_eq ld26_eq
attribute [local go_sem] zero_EC cells_EV
set_option maxRecDepth 100000 in
theorem refAhead_any (x y : En) (w : World) : Calls Tryz.prog 35 #[.agg (DC x), .agg (DC y)] w fun e w' => e = .returned (.bool (ahead x y)) ∧ Below w.heap.size w w' := by
 have HB : Hid (Below w.heap.size w ((w.alloc (.cells #[.int .i64 x.rep, .int .i64 x.num] 47)).alloc (.cells #[.int .i64 y.rep, .int .i64 y.num] 47))) := (below_new w _).trans ((below_new _ _).mono (below_new w (.cells #[.int .i64 x.rep, .int .i64 x.num] 47)).size)
 unfold DC
 obtain ⟨r, m, s, q⟩ := x
 obtain ⟨r', m', s', q'⟩ := y
 by_cases h1 : r < r'
 ·have HF : Hid (ahead ⟨r, m, s, q⟩ ⟨r', m', s', q'⟩ = true) := by show _ = _; unfold ahead; rw [decide_eq_true h1]; rfl
  go_enter Tryz.func35, Tryz.ntmps35
  go_wp2
  go_ret
  exact ⟨ret_b HF.out, HB.out⟩
 ·by_cases h2 : r = r'
  ·have HF : Hid (ahead ⟨r, m, s, q⟩ ⟨r', m', s', q'⟩ = decide (m < m')) := by show _ = _; unfold ahead; rw [decide_eq_false h1]; simp [h2]
   have h2' : (r == r') = true := by simpa using h2
   clear h2
   go_enter Tryz.func35, Tryz.ntmps35
   go_wp2
   go_ret
   exact ⟨ret_b HF.out, HB.out⟩
  ·have HF : Hid (ahead ⟨r, m, s, q⟩ ⟨r', m', s', q'⟩ = false) := by show _ = _; unfold ahead; rw [decide_eq_false h1]; simp [h2]
   have h2' : (r == r') = false := by simpa using h2
   clear h2
   go_enter Tryz.func35, Tryz.ntmps35
   go_wp2
   go_ret
   exact ⟨ret_b HF.out, HB.out⟩
theorem addr_en {w : World} {e : En} {p : Addr} (h : EnAt w p e) : p = ⟨p.block, p.off, none⟩ := by
 have hs := World.cell?_spot h.c0
 obtain ⟨b, o, k⟩ := p
 obtain rfl : k = none := hs
 rfl
theorem en_fields {w : World} {e : En} {p : Addr} (h : EnAt w p e) : w.cell? ⟨p.block, p.off + 2, none⟩ = some (.string e.sku) ∧ w.cell? ⟨p.block, p.off + 3, none⟩ = some (.int .i64 e.qty) := by
 have hs := World.cell?_spot h.c0
 have c2 := h.c2
 have c3 := h.c3
 obtain ⟨b, o, k⟩ := p
 obtain rfl : k = none := hs
 rw [Addr.add_lit] at c2 c3
 exact ⟨c2, c3⟩
set_option maxRecDepth 100000 in
set_option maxHeartbeats 3200000 in
theorem refEnts07_any (ao : Option Addr) (n cap : Nat) (L : List En) (w : World) (hS : ESrc w ao n cap L) : Calls Tryz.prog 62 #[.slice ao n cap] w fun e w' => e = .returned (.bool (okN L n)) ∧ Below w.heap.size w w' := by
 have HS := hide hS
 have hn := hS.2.2.2.2
 clear hS
 go_enter Tryz.func62, Tryz.ntmps62
 go_wp2_with fail
 go_loopw [3] (fun i wr => ∃ k : Nat, k ≤ n ∧ i = .int .i64 k ∧ Hid (okN L k = true) ∧ Hid (Below w.heap.size w wr)) (fun i _ => n - (intOf i).toNat)
 case atStart => exact ⟨0, Nat.zero_le _, rfl, rfl, Below.refl _ _⟩
 case round =>
  obtain ⟨k, hk, rfl, HK, HB⟩ := hrel
  rename World => wr
  by_cases hlt : k < n
  ·have hlti : (k : Int) < (n : Int) := by omega
   obtain ⟨ad, hao, A0⟩ := (HS.out.below HB.out).at k hlt
   subst hao
   have HSr := hide (HS.out.below HB.out)
   obtain ⟨e, He⟩ : ∃ e, Hid (L.getD k en0 = e) := ⟨_, rfl⟩
   have hsk := HS.out.sku k hlt
   rw [He.out] at A0 hsk
   have HA := hide A0
   have Hlt := hide hlt
   have HAt : Hid (okAt L k = false → okN L n = false) := fun h => okN_no L k n Hlt.out h
   have HOk : Hid ((ceE e == 0) = false → okAt L k = false) := fun h => by unfold okAt; rw [He.out, h]; rfl
   have l0 := run_ld26 A0
   have l0' : (ld26 (.pointer (some ⟨(ad.add (k * 4)).block, (ad.add (k * 4)).off, none⟩))).run Tryz.prog wr = .ok (.agg (DC e)) wr := by
    have h := run_ld26 A0
    rwa [addr_en A0] at h
   clear A0
   go_wp2_with fail
   clear l0 l0'
   refine (refIsDot_any e _).mono ?_
   rintro x w1 ⟨rfl, b1⟩
   have HB1 := hide (HB.out.trans (b1.mono HB.out.size))
   have HA1 := hide (HA.out.on b1)
   have HSr1 := hide (HSr.out.below b1)
   obtain ⟨f2, f3⟩ := en_fields HA1.out
   have g2 := HA1.out.c2
   have g3 := HA1.out.c3
   clear b1 HA HSr
   cases hd : isD e with
   | false =>
    have HN : Hid (okN L n = false) := HAt.out (HOk.out (by rw [ceE_zero, hd]; rfl))
    clear hd
    go_wp2_with fail
    go_ret
    exact ⟨by rw [HN.out]; rfl, HB1.out⟩
   | true =>
    have HD := hide hd
    clear hd
    go_wp2_with fail
    refine (refGood_any e.sku _ hsk).mono ?_
    rintro x w' ⟨rfl, rfl⟩
    cases hg : good e.sku.data.toList with
    | false =>
     have HN : Hid (okN L n = false) := HAt.out (HOk.out (by rw [ceE_zero, HD.out, hg]; rfl))
     clear hg
     go_wp2_with fail
     go_ret
     exact ⟨by rw [HN.out]; rfl, HB1.out⟩
    | true =>
     have HG := hide hg
     clear hg
     by_cases h1 : e.qty < 1
     ·have HN : Hid (okN L n = false) := HAt.out (HOk.out (by rw [ceE_zero, HD.out, HG.out, decide_eq_false (show ¬ 1 ≤ e.qty by omega)]; rfl))
      go_wp2_with fail
      go_ret
      exact ⟨by rw [HN.out]; rfl, HB1.out⟩
     ·by_cases h2 : 1000000 < e.qty
      ·have HN : Hid (okN L n = false) := HAt.out (HOk.out (by rw [ceE_zero, HD.out, HG.out, decide_eq_true (show 1 ≤ e.qty by omega), decide_eq_false (show ¬ e.qty ≤ 1000000 by omega)]; rfl))
       go_wp2_with fail
       go_ret
       exact ⟨by rw [HN.out]; rfl, HB1.out⟩
      ·have HC : Hid ((ceE e == 0) = true) := by show _ = _; rw [ceE_zero, HD.out, HG.out, decide_eq_true (show 1 ≤ e.qty by omega), decide_eq_true (show e.qty ≤ 1000000 by omega)]; rfl
       clear HOk
       by_cases hk0 : k = 0
       ·have hk1 : decide (0 < k) = false := by rw [decide_eq_false_iff_not]; omega
        have HK0 := hide hk0
        have hat : Hid (okAt L k = (ceE e == 0)) := by show _ = _; unfold okAt; rw [He.out, hk0]; simp
        clear hk0
        go_upto_region 6 with fail
        refine wp_region_held_drew (S := fun _ => True) (by kernel_rfl) (trivial) (fun hHeld => ?_)
        refine wTk 0 ⟨some 42, .move (.tmp 3), 3, "ref.go:24", #[], none⟩ rfl ?_
        refine wTk 1 ⟨some 43, .binOp .gtr 3 (.tmp 42) (.const (.int .i64 0)) 3, 4, "ref.go:24", #[⟨0, .data⟩], none⟩ rfl ?_
        refine wTk 2 ⟨some 44, .move (.tmp 43), 4, "ref.go:24", #[⟨1, .data⟩], none⟩ rfl ?_
        refine wSk 3 ⟨some 45, .move (.tmp 0), 23, "ref.go:24", #[⟨2, .guard⟩], some (2, true)⟩ rfl ?_
        refine wSk 4 ⟨some 46, .move (.tmp 3), 3, "ref.go:24", #[⟨2, .guard⟩], some (2, true)⟩ rfl ?_
        refine wSk 5 ⟨some 47, .binOp .sub 3 (.tmp 46) (.const (.int .i64 1)) 3, 3, "ref.go:24", #[⟨4, .data⟩, ⟨2, .guard⟩], some (2, true)⟩ rfl ?_
        refine wSk 6 ⟨some 48, .indexAddr 23 (.tmp 45) (.tmp 47), 0, "ref.go:24", #[⟨3, .data⟩, ⟨5, .data⟩, ⟨2, .guard⟩], some (2, true)⟩ rfl ?_
        refine wSk 7 ⟨some 49, .fieldAddr 49 (.tmp 48) 0, 0, "ref.go:24", #[⟨6, .data⟩, ⟨2, .guard⟩], some (2, true)⟩ rfl ?_
        refine wSk 8 ⟨some 50, .load 47 (.tmp 49), 47, "ref.go:24", #[⟨7, .data⟩, ⟨2, .guard⟩], some (2, true)⟩ rfl ?_
        refine wSk 9 ⟨some 51, .move (.tmp 0), 23, "ref.go:24", #[⟨2, .guard⟩], some (2, true)⟩ rfl ?_
        refine wSk 10 ⟨some 52, .move (.tmp 3), 3, "ref.go:24", #[⟨2, .guard⟩], some (2, true)⟩ rfl ?_
        refine wSk 11 ⟨some 53, .indexAddr 23 (.tmp 51) (.tmp 52), 0, "ref.go:24", #[⟨9, .data⟩, ⟨10, .data⟩, ⟨2, .guard⟩], some (2, true)⟩ rfl ?_
        refine wSk 12 ⟨some 54, .fieldAddr 49 (.tmp 53) 0, 0, "ref.go:24", #[⟨11, .data⟩, ⟨2, .guard⟩], some (2, true)⟩ rfl ?_
        refine wSk 13 ⟨some 55, .load 47 (.tmp 54), 47, "ref.go:24", #[⟨12, .data⟩, ⟨2, .guard⟩], some (2, true)⟩ rfl ?_
        refine wSk 14 ⟨some 56, .call ⟨.value (.func 35), #[.tmp 50, .tmp 55], #[47, 47]⟩, 4, "ref.go:24", #[⟨8, .data⟩, ⟨13, .data⟩, ⟨2, .chain⟩, ⟨2, .guard⟩], some (2, true)⟩ rfl ?_
        refine wSk 15 ⟨some 57, .unOp .not 4 (.tmp 56), 4, "ref.go:24", #[⟨14, .data⟩, ⟨2, .guard⟩], some (2, true)⟩ rfl ?_
        refine wTk 16 ⟨some 58, .pick (.tmp 44) (.tmp 57) (.const (.bool false)), 4, "ref.go:24", #[⟨2, .data⟩, ⟨15, .data⟩], none⟩ rfl ?_
        refine wpAnyH_done (by kernel_rfl) ?_ _
        clear hHeld
        have HN : Hid (okN L (k + 1) = true) := by show _ = _; rw [okN_succ, HK.out, hat.out, HC.out]; rfl
        go_wp2_with fail
        go_roundw
        case rel => exact ⟨k + 1, by omega, by simp, HN, HB1.out.trans ((below_drew1 w').mono HB1.out.size)⟩
        case measure => simp [intOf]; omega
       ·obtain ⟨j, Hj⟩ : ∃ j, Hid (k = j + 1) := ⟨k - 1, (show k = k - 1 + 1 by omega)⟩
        have hjn : j < n := by have := Hj.out; omega
        have hwj : IntKind.i64.wrap ((k : Int) - 1) = (j : Int) := by rw [IntKind.wrap_i64]; have := Hj.out; omega
        have hk1 : decide (0 < k) = true := by rw [decide_eq_true_iff]; omega
        obtain ⟨ad', e', Aj⟩ := HSr1.out.at j hjn
        obtain rfl := Option.some.inj e'
        obtain ⟨q, Hq⟩ : ∃ q, Hid (L.getD j en0 = q) := ⟨_, rfl⟩
        rw [Hq.out] at Aj
        have HAj := hide Aj
        have hat : Hid (okAt L k = ((ceE e == 0) && ahead q e)) := by show _ = _; unfold okAt; rw [He.out, show k - 1 = j by have := Hj.out; omega, Hq.out, decide_eq_false hk0, Bool.false_or]
        clear Aj e' hk0
        go_upto_region 6 with fail
        refine wp_region_held_drew (S := fun v => (ld26 (.pointer (some (ad.add (k * 4))))).run Tryz.prog v = .ok (.agg (DC e)) v ∧ (ld26 (.pointer (some (ad.add (j * 4))))).run Tryz.prog v = .ok (.agg (DC q)) v) (by kernel_rfl) (⟨run_ld26 (HA1.out.on (below_drew1 w')), run_ld26 (HAj.out.on (below_drew1 w'))⟩) (fun hHeld => ?_)
        refine wTk 0 ⟨some 42, .move (.tmp 3), 3, "ref.go:24", #[], none⟩ rfl ?_
        refine wTk 1 ⟨some 43, .binOp .gtr 3 (.tmp 42) (.const (.int .i64 0)) 3, 4, "ref.go:24", #[⟨0, .data⟩], none⟩ rfl ?_
        refine wTk 2 ⟨some 44, .move (.tmp 43), 4, "ref.go:24", #[⟨1, .data⟩], none⟩ rfl ?_
        refine wTk 3 ⟨some 45, .move (.tmp 0), 23, "ref.go:24", #[⟨2, .guard⟩], some (2, true)⟩ rfl ?_
        refine wTk 4 ⟨some 46, .move (.tmp 3), 3, "ref.go:24", #[⟨2, .guard⟩], some (2, true)⟩ rfl ?_
        refine wTk 5 ⟨some 47, .binOp .sub 3 (.tmp 46) (.const (.int .i64 1)) 3, 3, "ref.go:24", #[⟨4, .data⟩, ⟨2, .guard⟩], some (2, true)⟩ rfl ?_
        refine wTk 6 ⟨some 48, .indexAddr 23 (.tmp 45) (.tmp 47), 0, "ref.go:24", #[⟨3, .data⟩, ⟨5, .data⟩, ⟨2, .guard⟩], some (2, true)⟩ rfl ?_
        refine wTk 7 ⟨some 49, .fieldAddr 49 (.tmp 48) 0, 0, "ref.go:24", #[⟨6, .data⟩, ⟨2, .guard⟩], some (2, true)⟩ rfl ?_
        refine wTk 8 ⟨some 50, .load 47 (.tmp 49), 47, "ref.go:24", #[⟨7, .data⟩, ⟨2, .guard⟩], some (2, true)⟩ rfl ?_
        refine wTk 9 ⟨some 51, .move (.tmp 0), 23, "ref.go:24", #[⟨2, .guard⟩], some (2, true)⟩ rfl ?_
        refine wTk 10 ⟨some 52, .move (.tmp 3), 3, "ref.go:24", #[⟨2, .guard⟩], some (2, true)⟩ rfl ?_
        refine wTk 11 ⟨some 53, .indexAddr 23 (.tmp 51) (.tmp 52), 0, "ref.go:24", #[⟨9, .data⟩, ⟨10, .data⟩, ⟨2, .guard⟩], some (2, true)⟩ rfl ?_
        refine wTk 12 ⟨some 54, .fieldAddr 49 (.tmp 53) 0, 0, "ref.go:24", #[⟨11, .data⟩, ⟨2, .guard⟩], some (2, true)⟩ rfl ?_
        refine wTk 13 ⟨some 55, .load 47 (.tmp 54), 47, "ref.go:24", #[⟨12, .data⟩, ⟨2, .guard⟩], some (2, true)⟩ rfl ?_
        refine wpAnyH_ready (rs := [14]) (by kernel_rfl) (by simp) (.cons rfl (fun K hK => ?_) .nil)
        go_simp
        go_wp2_with fail
        refine (refAhead_any q e _).mono ?_
        rintro x w3 ⟨rfl, b3⟩
        have hB3 : Below w'.heap.size w' w3 := (below_drew1 w').trans b3
        have HB3 := hide hB3
        refine hK.out _ _ (⟨run_ld26 (HA1.out.on (hB3)), run_ld26 (HAj.out.on (hB3))⟩) (fun hHeld => ?_)
        clear hK K b3
        cases ha : ahead q e with
        | false =>
         have HN : Hid (okN L n = false) := HAt.out (by rw [hat.out, HC.out, ha]; rfl)
         clear ha
         refine wTk 15 ⟨some 57, .unOp .not 4 (.tmp 56), 4, "ref.go:24", #[⟨14, .data⟩, ⟨2, .guard⟩], some (2, true)⟩ rfl ?_
         refine wTk 16 ⟨some 58, .pick (.tmp 44) (.tmp 57) (.const (.bool false)), 4, "ref.go:24", #[⟨2, .data⟩, ⟨15, .data⟩], none⟩ rfl ?_
         refine wpAnyH_done (by kernel_rfl) ?_ _
         clear hHeld
         go_wp2_with fail
         go_ret
         exact ⟨by rw [HN.out]; rfl, HB1.out.trans (HB3.out.mono HB1.out.size)⟩
        | true =>
         have HN : Hid (okN L (k + 1) = true) := by show _ = _; rw [okN_succ, HK.out, hat.out, HC.out, ha]; rfl
         clear ha
         refine wTk 15 ⟨some 57, .unOp .not 4 (.tmp 56), 4, "ref.go:24", #[⟨14, .data⟩, ⟨2, .guard⟩], some (2, true)⟩ rfl ?_
         refine wTk 16 ⟨some 58, .pick (.tmp 44) (.tmp 57) (.const (.bool false)), 4, "ref.go:24", #[⟨2, .data⟩, ⟨15, .data⟩], none⟩ rfl ?_
         refine wpAnyH_done (by kernel_rfl) ?_ _
         clear hHeld
         go_wp2_with fail
         go_roundw
         case rel => exact ⟨k + 1, by omega, by simp, HN, HB1.out.trans (HB3.out.mono HB1.out.size)⟩
         case measure => simp [intOf]; omega
  ·obtain rfl : k = n := by omega
   go_wp2_with fail
   go_ret
   exact ⟨by rw [HK.out]; rfl, HB.out⟩
end Go.Proofs.YtfpmijfcemopoaaGreat.K
namespace Go.Proofs.YtfpmijfcemopoaaGreat
open Go.RowKit
attribute [local go_sem ↓] ldP_eq stP_eq ldRe_eq stRe_eq K.ld28_eq K.st28_eq
attribute [local go_sem] cells_PV PC_size cells_ReV ReC_size K.cells_EV K.EC_size K.zero_EC
variable {w w' w2 W W' : World} {g : Nat}
theorem ok_chk {L : List K.En} {n : Nat} (hl : L.length = n) : K.chk L = 0 ↔ K.okN L n = true := by
 unfold K.chk
 rw [hl]
 cases K.okN L n <;> simp
def freeB (R : List Rc) (e : K.En) : Bool := !R.any (fun r => covB r e)
theorem free_cnt (R : List Rc) (e : K.En) : freeB R e = true ↔ R.countP (fun r => covB r e) = 0 := by
 unfold freeB
 rw [Bool.not_eq_true', List.any_eq_false, List.countP_eq_zero]
def ApA (w w' : World) (x : Ending) (L : List K.En) (R : List Rc) (n : Nat) : Prop := (K.chk L = 0 ∧ OkR R n ∧ K.GivesEE w w' x (L.filter (freeB R)) 0) ∨ (¬ (K.chk L = 0 ∧ OkR R n) ∧ K.GivesEE w w' x [] 1)
set_option maxRecDepth 100000 in
set_option maxHeartbeats 1600000 in
theorem refApply_any (ao bo : Option Addr) (n cap m cap' : Nat) (L : List K.En) (R : List Rc) (w : World) (hS : K.ESrc w ao n cap L) (hR : RcS w bo m cap' R) :
  Calls Tryz.prog 20 #[.slice ao n cap, .slice bo m cap'] w fun x w' => ApA w w' x L R m := by
 have HS := hide hS
 have HR := hide hR
 have HL : Hid (L.length = n) := hS.1
 have hnb : n ≤ 3518437208883 := hS.2.2.2.2
 have hmb := hR.big
 have HM : Hid (R.length = m) := hR.len
 clear hS hR
 go_enter Tryz.func20, Tryz.ntmps20
 go_wp2_with fail
 refine (K.refEnts07_any ao n cap L _ HS.out).mono ?_
 rintro x w1 ⟨rfl, b1⟩
 have HB1 := hide b1
 have HS1 := hide (HS.out.below b1)
 have HR1 := hide (HR.out.below b1)
 clear b1 HS HR
 cases hc : K.okN L n with
 | false =>
  have HE : Hid (ApA w w1 (.returned (.tuple #[.slice none 0 0, .int .i64 1])) L R m) := .inr ⟨fun h => (by have := (ok_chk HL.out).1 h.1; rw [hc] at this; cases this), _, _, _, rfl, K.ESrc.none _, HB1.out, fun ad h => by cases h⟩
  clear hc
  go_wp2_with fail
  go_ret2
  exact HE.out
 | true =>
  have HC : Hid (K.chk L = 0) := (ok_chk HL.out).2 hc
  clear hc
  go_wp2_with fail
  refine (refChkR_any bo m cap' R _ HR1.out).mono ?_
  rintro x w2 ⟨z, rfl, hz, b2⟩
  have HB2 := hide (HB1.out.trans (b2.mono HB1.out.size))
  have HS2 := hide (HS1.out.below b2)
  have HR2 := hide (HR1.out.below b2)
  clear b2 HS1 HR1 HB1
  rcases hz with ⟨rfl, hO⟩ | ⟨rfl, hO⟩
  rotate_left
  ·have HE : Hid (ApA w w2 (.returned (.tuple #[.slice none 0 0, .int .i64 1])) L R m) := .inr ⟨fun h => hO h.2, _, _, _, rfl, K.ESrc.none _, HB2.out, fun ad h => by cases h⟩
   clear hO
   go_wp2_with fail
   go_ret2
   exact HE.out
  ·have HO0 := hide hO
   clear hO
   go_wp2_with fail
   go_loopw [6, 7] (fun v i wr => ∃ (k : Nat) (ap : Option Addr) (c : Nat), k ≤ n ∧ v = .slice ap ((L.take k).filter (freeB R)).length c ∧ i = .int .i64 (k : Int) ∧ Hid (K.OwnE w2.heap.size w2.heap.size w2 wr ap c ((L.take k).filter (freeB R)))) (fun _ i _ => n - (intOf i).toNat)
   case atStart => exact ⟨0, none, 0, Nat.zero_le _, rfl, rfl, K.OwnE.nil (Below.refl _ _) (Nat.le_refl _) (Nat.le_refl _)⟩
   case round =>
    obtain ⟨k, ap, c, hk, rfl, rfl, HO⟩ := hrel
    rename World => wr
    obtain ⟨acc, Hacc⟩ : ∃ acc, Hid ((L.take k).filter (freeB R) = acc) := ⟨_, rfl⟩
    have hal : acc.length ≤ k := by
     rw [← Hacc.out]; have h1 := List.length_filter_le (freeB R) (L.take k); have h2 := List.length_take_le k L; omega
    rw [Hacc.out] at HO ⊢
    obtain ⟨an, han⟩ : ∃ an, acc.length = an := ⟨_, rfl⟩
    rw [han] at hal ⊢
    by_cases hlt : k < n
    ·have hlti : (k : Int) < (n : Int) := by omega
     obtain ⟨ad, hao, A0⟩ := (HS2.out.below HO.out.below).at k hlt
     subst hao
     obtain ⟨e, He⟩ : ∃ e, Hid (L.getD k K.en0 = e) := ⟨_, rfl⟩
     rw [He.out] at A0
     have HT := hide (K.take_snoc L k (by rw [HL.out]; exact hlt))
     rw [He.out] at HT
     have HA0 := hide A0
     have l0 := K.run_ld28 A0
     have Hlt := hide hlt
     have Han := hide han
     clear A0 hlt hk han
     go_wp2_with fail
     clear l0
     refine (refBars_any bo m cap' R e _ (HR2.out.below HO.out.below)).mono ?_
     rintro x w6 ⟨rfl, b6⟩
     have HO6 := hide (HO.out.later b6)
     have HA6 := hide (HA0.out.on b6)
     clear b6
     obtain ⟨q, hq⟩ : ∃ q, R.countP (fun r => covB r e) = q := ⟨_, rfl⟩
     rw [hq]
     by_cases hq0 : q = 0
     ·have HN : Hid ((L.take (k + 1)).filter (freeB R) = acc ++ [e]) := by
       show _ = _
       have hf : freeB R e = true := (free_cnt R e).2 (by rw [hq, hq0])
       rw [HT.out, List.filter_append, Hacc.out]; simp [hf]
      have hqb : ((q : Int) == 0) = true := by simp [hq0]
      have l6 := K.run_ld28 HA6.out
      clear hq hq0
      go_wp2_with (at_builtin; refine HO6.out.append e _ rfl (by have := Han.out; have := Hlt.out; omega) rfl (.tmp 29) (.tmp 34) rfl an Han.out rfl rfl ?_; intro g7 c7 w7 O7 hk7; have HO7 := hide O7; clear O7 hk7)
      clear l6
      go_roundw
      case rel => exact ⟨k + 1, some ⟨g7, 0, none⟩, c7, Hlt.out, by rw [HN.out, List.length_append, Han.out]; rfl, by simp, by rw [HN.out]; exact HO7⟩
      case measure => simp [intOf]; have := Hlt.out; omega
     ·have HN : Hid ((L.take (k + 1)).filter (freeB R) = acc) := by
       show _ = _
       have hf : ¬ freeB R e = true := fun h => hq0 (by rw [← hq]; exact (free_cnt R e).1 h)
       rw [HT.out, List.filter_append, Hacc.out]; simp [hf]
      have hqb : ((q : Int) == 0) = false := by simp [hq0]
      clear hq hq0
      go_wp2_with fail
      go_roundw
      case rel => exact ⟨k + 1, ap, c, Hlt.out, by rw [HN.out, Han.out], by simp, by rw [HN.out]; exact HO6⟩
      case measure => simp [intOf]; have := Hlt.out; omega
    ·have hlti : ¬ (k : Int) < (n : Int) := by omega
     have HE : Hid (ApA w wr (.returned (.tuple #[.slice ap an c, .int .i64 0])) L R m) := by
      have h1 := HO.out.src (fun e he => by rw [← Hacc.out] at he; exact HS2.out.2.2.2.1 e (List.mem_of_mem_take (List.mem_filter.1 he).1)) (by omega)
      rw [han] at h1
      refine .inl ⟨HC.out, HO0.out, ap, an, c, rfl, ?_, HB2.out.trans (HO.out.below.mono HB2.out.size), fun ad h => Nat.le_trans HB2.out.size (h1.2 ad h)⟩
      have e : acc = L.filter (freeB R) := by rw [← Hacc.out, List.take_of_length_le (by have := HL.out; omega)]
      rw [← e]
      exact h1.1
     clear hlt
     go_wp2_with fail
     go_ret2
     exact HE.out
end Go.Proofs.YtfpmijfcemopoaaGreat
