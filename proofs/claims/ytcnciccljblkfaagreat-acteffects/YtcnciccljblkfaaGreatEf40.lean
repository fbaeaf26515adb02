/- EFc -/
import Derived.Test.YtcnciccljblkfaaGreatTk
import Derived.Test.YtcnciccljblkfaaGreatEf35
import Derived.Test.YtcnciccljblkfaaGreatEf39
namespace Go.Proofs.YtcnciccljblkfaaGreat
open Go.RowKit
attribute [local go_sem ↓] ldP_eq stP_eq ldFa_eq stFa_eq ldRe_eq stRe_eq K.ld28_eq K.st28_eq K.ld26_eq K.run_eqD
attribute [local go_sem] cells_PV PC_size cells_FaV FaC_size K.zero_EC K.cells_EV K.EC_size cells_ReV ReC_size
set_option maxRecDepth 100000 in
set_option maxHeartbeats 12800000 in
theorem refEffect_any (ao : Option Addr) (n cap : Nat) (L : List K.En) (f : Fc) (w : World) (hS : K.ESrc w ao n cap L) (hF : FcOk w f) :
  Calls Tryz.prog 5 #[.slice ao n cap, FaV (mkF f)] w fun x w' => EfA w w' x L f := by
 have HX := hide (FaBox_new w (mkF f))
 have HBK := hide (below_new w (.cells (FaC (mkF f)) 29))
 have HF := hide (hF.below HBK.out)
 have HS := hide (hS.below HBK.out)
 have HL : Hid (L.length = n) := hS.1
 have hnb := hS.2.2.2.2
 have HAl : Hid (f.es.length = f.an ∧ f.rs.length = f.rn) := ⟨hF.es.1, hF.rs.len⟩
 clear hF hS
 obtain ⟨wk, hwk⟩ : ∃ wk, w.alloc (.cells (FaC (mkF f)) 29) = wk := ⟨_, rfl⟩
 obtain ⟨G, hG⟩ : ∃ G, w.heap.size = G := ⟨_, rfl⟩
 rw [hwk] at HX HBK HF HS
 rw [hG] at HX
 go_enter Tryz.func5, Tryz.ntmps5
 go_wp2_with fail
 clear hwk hG
 refine (K.refEntries_any ao n cap L _ HS.out).mono ?_
 rintro x w1 ⟨rfl, b1⟩
 have HB1 := hide b1
 clear b1
 cases hc : K.okN L n with
 | false =>
  have HE : Hid (EfA w w1 (.returned (.tuple #[.slice none 0 0, .int .i64 1])) L f) := ⟨_, _, _, _, _, rfl, K.ESrc.none _, HBK.out.trans (HB1.out.mono HBK.out.size), .inl ⟨fun h => (by have := (ok_chk HL.out).1 h; rw [hc] at this; cases this), rfl, rfl⟩⟩
  clear hc
  go_wp2_with fail
  go_ret2
  exact HE.out
 | true =>
 have HC : Hid (K.chk L = 0) := (ok_chk HL.out).2 hc
 clear hc
 have lf := run_ldFa (HX.out.below HB1.out)
 go_wp2_with fail
 clear lf
 refine (refFacts_any f w1 (HF.out.below HB1.out)).mono ?_
 rintro x w2 ⟨b, rfl, hb, b2⟩
 have HB2 := hide (HB1.out.trans (b2.mono HB1.out.size))
 clear b2 HB1
 cases b with
 | false =>
  have HE : Hid (EfA w w2 (.returned (.tuple #[.slice none 0 0, .int .i64 1])) L f) := ⟨_, _, _, _, _, rfl, K.ESrc.none _, HBK.out.trans (HB2.out.mono HBK.out.size), .inr (.inl ⟨HC.out, .inl ⟨fun h => (by have := hb.out.2 h; cases this), rfl⟩, by decide, rfl⟩)⟩
  clear hb
  go_wp2_with fail
  go_ret2
  exact HE.out
 | true =>
 clear hb
 have lf := run_ldFa (HX.out.below HB2.out)
 go_wp2_with fail
 clear lf
 refine (refEvent_any f w2 (HF.out.below HB2.out)).mono ?_
 rintro x wb ⟨z, rfl, hz, b3⟩
 have HB3 := hide (HB2.out.trans (b3.mono HB2.out.size))
 have HEv := hide hz
 clear b3 hz HB2
 by_cases hz0 : z = 0
 rotate_left
 ·have HE : Hid (EfA w wb (.returned (.tuple #[.slice none 0 0, .int .i64 z])) L f) := ⟨_, _, _, _, _, rfl, K.ESrc.none _, HBK.out.trans (HB3.out.mono HBK.out.size), .inr (.inl ⟨HC.out, HEv.out, hz0, rfl⟩)⟩
  have hzb : (z != 0) = true := by simp [hz0]
  clear hz0
  go_wp2_with fail
  go_ret2
  exact HE.out
 subst hz0
 have HFo := hide (ev_form HEv.out)
 have hle := one_le HFo.out.2
 have HAs : Hid (K.Asc L) := K.chk_asc' HC.out
 have a2 := (HX.out.below HB3.out).cs.1
 obtain ⟨p0, hp0⟩ : ∃ p0, ((f.an : Int) == 0) = p0 := ⟨_, rfl⟩
 have HP0 : Hid (EfI L f 0 p0 []) := by
  cases p0 with
  | true => exact EfI.start0 (List.eq_nil_of_length_eq_zero (by rw [HAl.out.1]; simpa using hp0))
  | false =>
   have h1 : f.es.length = 1 := by
    have h2 : ¬ f.an = 0 := by simpa using hp0
    rw [HAl.out.1]; omega
   refine EfI.start1 ?_
   match hes : f.es with
   | [a] => rfl
   | [] => rw [hes] at h1; simp at h1
   | _ :: _ :: _ => rw [hes] at h1; simp at h1
 go_wp2_with fail
 clear a2 hp0
 go_loopw [7, 8, 9] (fun v q i wr => ∃ (k : Nat) (p : Bool) (ap : Option Addr) (l c : Nat), k ≤ n ∧ v = .slice ap l c ∧ q = .bool p ∧ i = .int .i64 (k : Int) ∧ l ≤ k + 1 ∧ Hid (EfM wb wr ap l c L f k p)) (fun _ _ i _ => n - (intOf i).toNat)
 case atStart => exact ⟨0, p0, none, 0, 0, Nat.zero_le _, rfl, rfl, rfl, by omega, ⟨[], rfl, K.OwnE.nil (Below.refl _ _) (Nat.le_refl _) (Nat.le_refl _), HP0.out⟩⟩
 case round =>
  obtain ⟨k, p, ap, l, c, hk, rfl, rfl, rfl, hlk, HI⟩ := hrel
  rename World => wr
  clear HP0
  by_cases hlt : k < n
  ·have hlti : (k : Int) < (n : Int) := by omega
   have HBr := hide (HB3.out.trans (HI.out.below.mono HB3.out.size))
   obtain ⟨ad, hao, A0⟩ := (HS.out.below HBr.out).at k hlt
   have hsk := (HS.out.below HBr.out).sku k hlt
   obtain ⟨x, Hx⟩ : ∃ x, Hid (L.getD k K.en0 = x) := ⟨_, rfl⟩
   rw [Hx.out] at A0 hsk
   have hld := K.run_ld28 A0
   obtain ⟨g7, hg7⟩ : ∃ g7, wr.heap.size = g7 := ⟨_, rfl⟩
   obtain ⟨w7, hst, X7, B7, S7⟩ := K.made wr x g7 hg7
   have HX7 := hide X7
   have HM7 := hide (HI.out.later B7)
   have HBb7 := hide (HI.out.below.trans (B7.mono HI.out.below.size))
   have Hg7 : Hid ((Value.slice ap l c).ownBlock ≠ some g7 ∧ g7 < w7.heap.size) := ⟨fun e => by have := HI.out.own g7 e; omega, by omega⟩
   have HSk := hide hsk
   have Hlt : Hid (k < n ∧ k < L.length) := ⟨hlt, by rw [HL.out]; exact hlt⟩
   have HFw : Hid (∀ W, Below wb.heap.size wb W → FaBox W G (mkF f) ∧ FcOk W f) := fun W hW => ⟨(HX.out.below HB3.out).below hW, (HF.out.below HB3.out).below hW⟩
   have HBox : Hid (∀ W : World, W.heap[g7]? = w7.heap[g7]? → (K.ld26 (.pointer (some ⟨g7, 0, none⟩))).run Tryz.prog W = .ok (.agg (K.DC x)) W ∧ (K.ld28 (.pointer (some ⟨g7, 0, none⟩))).run Tryz.prog W = .ok (K.EV x) W) := fun W h => by
    have X : K.Box W g7 36 x := h.trans HX7.out
    exact ⟨K.run_ld26 X.at, K.run_ld28 X.at⟩
   subst hao
   clear A0 X7 B7 S7 hsk hlt HI HBr
   cases p with
   | true =>
    go_upto_region 12 with fail
    clear hst hld hg7
    refine wp_region_held_drew (S := fun _ => True) (by kernel_rfl) (trivial) (fun hHeld => ?_)
    refine wTk 0 ⟨some 38, .move (.tmp 8), 4, "ref.go:255", #[], none⟩ rfl ?_
    refine wTk 1 ⟨some 39, .unOp .not 4 (.tmp 38), 4, "ref.go:255", #[⟨0, .data⟩], none⟩ rfl ?_
    refine wTk 2 ⟨some 40, .move (.tmp 39), 4, "ref.go:255", #[⟨1, .data⟩], none⟩ rfl ?_
    refine wSk 3 ⟨some 41, .fieldAddr 36 (.tmp 10) 0, 0, "ref.go:255", #[⟨2, .guard⟩], some (2, true)⟩ rfl ?_
    refine wSk 4 ⟨some 42, .load 34 (.tmp 41), 34, "ref.go:255", #[⟨3, .data⟩, ⟨2, .guard⟩], some (2, true)⟩ rfl ?_
    refine wSk 5 ⟨some 43, .fieldAddr 29 (.tmp 3) 0, 0, "ref.go:255", #[⟨2, .guard⟩], some (2, true)⟩ rfl ?_
    refine wSk 6 ⟨some 44, .load 22 (.tmp 43), 22, "ref.go:255", #[⟨5, .data⟩, ⟨2, .guard⟩], some (2, true)⟩ rfl ?_
    refine wSk 7 ⟨some 45, .indexAddr 22 (.tmp 44) (.const (.int .i64 0)), 0, "ref.go:255", #[⟨6, .data⟩, ⟨2, .guard⟩], some (2, true)⟩ rfl ?_
    refine wSk 8 ⟨some 46, .fieldAddr 36 (.tmp 45) 0, 0, "ref.go:255", #[⟨7, .data⟩, ⟨2, .guard⟩], some (2, true)⟩ rfl ?_
    refine wSk 9 ⟨some 47, .load 34 (.tmp 46), 34, "ref.go:255", #[⟨8, .data⟩, ⟨2, .guard⟩], some (2, true)⟩ rfl ?_
    refine wSk 10 ⟨some 48, .binOp .eql 34 (.tmp 42) (.tmp 47) 34, 4, "ref.go:255", #[⟨4, .data⟩, ⟨9, .data⟩, ⟨2, .guard⟩], some (2, true)⟩ rfl ?_
    refine wTk 11 ⟨some 49, .pick (.tmp 40) (.tmp 48) (.const (.bool false)), 4, "ref.go:255", #[⟨2, .data⟩, ⟨10, .data⟩], none⟩ rfl ?_
    refine wpAnyH_done (by kernel_rfl) ?_ _
    clear hHeld
    go_upto_region 14 with fail
    refine wp_region_held_drew (S := fun _ => True) (by kernel_rfl) (trivial) (fun hHeld => ?_)
    refine wTk 0 ⟨some 50, .move (.tmp 8), 4, "ref.go:258", #[], none⟩ rfl ?_
    refine wTk 1 ⟨some 51, .unOp .not 4 (.tmp 50), 4, "ref.go:258", #[⟨0, .data⟩], none⟩ rfl ?_
    refine wTk 2 ⟨some 52, .move (.tmp 51), 4, "ref.go:258", #[⟨1, .data⟩], none⟩ rfl ?_
    refine wSk 3 ⟨some 53, .fieldAddr 29 (.tmp 3) 0, 0, "ref.go:258", #[⟨2, .guard⟩], some (2, true)⟩ rfl ?_
    refine wSk 4 ⟨some 54, .load 22 (.tmp 53), 22, "ref.go:258", #[⟨3, .data⟩, ⟨2, .guard⟩], some (2, true)⟩ rfl ?_
    refine wSk 5 ⟨some 55, .indexAddr 22 (.tmp 54) (.const (.int .i64 0)), 0, "ref.go:258", #[⟨4, .data⟩, ⟨2, .guard⟩], some (2, true)⟩ rfl ?_
    refine wSk 6 ⟨some 56, .fieldAddr 36 (.tmp 55) 0, 0, "ref.go:258", #[⟨5, .data⟩, ⟨2, .guard⟩], some (2, true)⟩ rfl ?_
    refine wSk 7 ⟨some 57, .load 34 (.tmp 56), 34, "ref.go:258", #[⟨6, .data⟩, ⟨2, .guard⟩], some (2, true)⟩ rfl ?_
    refine wSk 8 ⟨some 58, .fieldAddr 36 (.tmp 10) 0, 0, "ref.go:258", #[⟨2, .guard⟩], some (2, true)⟩ rfl ?_
    refine wSk 9 ⟨some 59, .load 34 (.tmp 58), 34, "ref.go:258", #[⟨8, .data⟩, ⟨2, .guard⟩], some (2, true)⟩ rfl ?_
    refine wSk 10 ⟨some 60, .call ⟨.value (.func 16), #[.tmp 57, .tmp 59], #[34, 34]⟩, 4, "ref.go:258", #[⟨7, .data⟩, ⟨9, .data⟩, ⟨2, .chain⟩, ⟨2, .guard⟩], some (2, true)⟩ rfl ?_
    refine wTk 11 ⟨some 61, .pick (.tmp 52) (.tmp 60) (.const (.bool false)), 4, "ref.go:258", #[⟨2, .data⟩, ⟨10, .data⟩], none⟩ rfl ?_
    refine wpAnyH_done (by kernel_rfl) ?_ _
    clear hHeld
    have Hd2 : Hid (Below w7.heap.size w7 w7.drew.drew) := (below_drew1 w7).trans ((below_drew1 w7.drew).mono (below_drew1 w7).size)
    have HMd := hide (HM7.out.later Hd2.out)
    have HBd := hide (HBb7.out.trans (Hd2.out.mono HBb7.out.size))
    by_cases hrn : f.rn = 1
    ·have hrni : ((f.rn : Int) == 1) = true := by simp [hrn]
     have hr0 : (0 : Int) < (f.rn : Int) := by omega
     obtain ⟨rd, hro, R0⟩ := (HF.out.rs.below HB3.out).at 0 (by omega)
     have hrok := (HF.out.rs.below HB3.out).okAt 0 (by omega)
     obtain ⟨rr, Hr⟩ : ∃ rr, Hid (f.rs.getD 0 rc0 = rr) := ⟨_, rfl⟩
     rw [Hr.out] at R0 hrok
     rw [Nat.zero_mul, K.add_zero] at R0
     have HR0 := hide R0
     have HRk := hide hrok
     have Hro := hide hro
     have HFr : Hid (freeB f.rs x = !covB rr x) := by
      have h1 : f.rs = [rr] := by
       have h2 : f.rs.length = 1 := by rw [HAl.out.2]; exact hrn
       match hrs : f.rs with
       | [q] => have h3 := Hr.out; rw [hrs] at h3; rw [← h3]; rfl
       | [] => rw [hrs] at h2; simp at h2
       | _ :: _ :: _ => rw [hrs] at h2; simp at h2
      show _ = _
      unfold freeB
      rw [h1]
      simp
     have HS7 : Hid (∀ W, Below wb.heap.size wb W → W.heap[g7]? = w7.heap[g7]? → (ldP (.pointer (some ⟨G, 1, none⟩))).run Tryz.prog W = .ok (PV f.p) W ∧ W.cell? ⟨G, 3, none⟩ = some (.slice (some rd) f.rn f.rc) ∧ (K.ld26 (.pointer (some ⟨g7, 0, none⟩))).run Tryz.prog W = .ok (.agg (K.DC x)) W ∧ (K.ld28 (.pointer (some ⟨g7, 0, none⟩))).run Tryz.prog W = .ok (K.EV x) W ∧ (ldRe (.pointer (some rd))).run Tryz.prog W = .ok (ReV (mkR rr)) W) := fun W hW hg => ⟨run_ldP (HFw.out W hW).1.past, by rw [← Hro.out]; exact (HFw.out W hW).1.cs.2, (HBox.out W hg).1, (HBox.out W hg).2, run_laRe (HR0.out.on hW)⟩
     clear R0 hrok hro
     go_upto_region 17 with fail
     refine wp_region_held_drew (S := fun W => (ldP (.pointer (some ⟨G, 1, none⟩))).run Tryz.prog W = .ok (PV f.p) W ∧ W.cell? ⟨G, 3, none⟩ = some (.slice (some rd) f.rn f.rc) ∧ (K.ld26 (.pointer (some ⟨g7, 0, none⟩))).run Tryz.prog W = .ok (.agg (K.DC x)) W ∧ (K.ld28 (.pointer (some ⟨g7, 0, none⟩))).run Tryz.prog W = .ok (K.EV x) W ∧ (ldRe (.pointer (some rd))).run Tryz.prog W = .ok (ReV (mkR rr)) W) (by kernel_rfl) (HS7.out _ (HBd.out.trans ((below_drew1 w7.drew.drew).mono HBd.out.size)) rfl) (fun hHeld => ?_)
     refine wTk 0 ⟨some 69, .fieldAddr 29 (.tmp 3) 1, 0, "ref.go:262", #[], none⟩ rfl ?_
     refine wTk 1 ⟨some 70, .load 26 (.tmp 69), 26, "ref.go:262", #[⟨0, .data⟩], none⟩ rfl ?_
     refine wTk 2 ⟨some 71, .fieldAddr 36 (.tmp 10) 0, 0, "ref.go:262", #[], none⟩ rfl ?_
     refine wTk 3 ⟨some 72, .load 34 (.tmp 71), 34, "ref.go:262", #[⟨2, .data⟩], none⟩ rfl ?_
     refine wpAnyH_ready (rs := [4]) (by kernel_rfl) (by simp) (.cons rfl (fun K hK => ?_) .nil)
     go_simp
     go_wp2_with fail
     refine (refHas_any f.p ⟨x.rep, x.num⟩ _ (HFw.out _ (HBd.out.trans ((below_drew1 w7.drew.drew).mono HBd.out.size))).2.p).mono ?_
     rintro e u4 ⟨b, rfl, hb, b4⟩
     have hib := inB_eq hb
     have Hc4 : Hid (Below w7.drew.drew.heap.size w7.drew.drew u4) := (below_drew1 w7.drew.drew).trans b4
     have Hb4 : Hid (Below wb.heap.size wb u4) := HBd.out.trans (Hc4.out.mono HBd.out.size)
     have Hz4 : Hid (u4.heap[g7]? = w7.heap[g7]?) := (Hc4.out.block g7 Hg7.out.2).trans rfl
     refine hK.out _ _ (HS7.out _ Hb4.out Hz4.out) (fun hHeld => ?_)
     clear hK K
     clear b4 hb
     cases b with
     | true =>
      refine wTk 5 ⟨some 74, .move (.tmp 73), 4, "ref.go:262", #[⟨4, .data⟩, ⟨4, .chain⟩], none⟩ rfl ?_
      refine wSk 6 ⟨some 75, .fieldAddr 29 (.tmp 3) 2, 0, "ref.go:262", #[⟨5, .guard⟩], some (5, false)⟩ rfl ?_
      refine wSk 7 ⟨some 76, .load 27 (.tmp 75), 27, "ref.go:262", #[⟨6, .data⟩, ⟨5, .guard⟩], some (5, false)⟩ rfl ?_
      refine wSk 8 ⟨some 77, .call ⟨.builtin .len, #[.tmp 76], #[27]⟩, 3, "ref.go:262", #[⟨7, .data⟩, ⟨5, .guard⟩], some (5, false)⟩ rfl ?_
      refine wSk 9 ⟨some 78, .binOp .eql 3 (.tmp 77) (.const (.int .i64 1)) 3, 4, "ref.go:262", #[⟨8, .data⟩, ⟨5, .guard⟩], some (5, false)⟩ rfl ?_
      refine wSk 10 ⟨some 79, .move (.tmp 78), 4, "ref.go:262", #[⟨9, .data⟩, ⟨5, .chain⟩, ⟨5, .guard⟩], some (5, false)⟩ rfl ?_
      refine wSk 11 ⟨some 80, .fieldAddr 29 (.tmp 3) 2, 0, "ref.go:262", #[⟨10, .guard⟩], some (10, true)⟩ rfl ?_
      refine wSk 12 ⟨some 81, .load 27 (.tmp 80), 27, "ref.go:262", #[⟨11, .data⟩, ⟨10, .guard⟩], some (10, true)⟩ rfl ?_
      refine wSk 13 ⟨some 82, .indexAddr 27 (.tmp 81) (.const (.int .i64 0)), 0, "ref.go:262", #[⟨12, .data⟩, ⟨10, .guard⟩], some (10, true)⟩ rfl ?_
      refine wSk 14 ⟨some 83, .load 52 (.tmp 82), 52, "ref.go:262", #[⟨13, .data⟩, ⟨10, .guard⟩], some (10, true)⟩ rfl ?_
      refine wSk 15 ⟨some 84, .load 36 (.tmp 10), 36, "ref.go:262", #[⟨10, .guard⟩], some (10, true)⟩ rfl ?_
      refine wSk 16 ⟨some 85, .call ⟨.value (.func 18), #[.tmp 83, .tmp 84], #[52, 36]⟩, 4, "ref.go:262", #[⟨14, .data⟩, ⟨15, .data⟩, ⟨10, .chain⟩, ⟨10, .guard⟩], some (10, true)⟩ rfl ?_
      refine wSk 17 ⟨some 86, .pick (.tmp 79) (.tmp 85) (.const (.bool false)), 4, "ref.go:262", #[⟨10, .data⟩, ⟨16, .data⟩, ⟨5, .guard⟩], some (5, false)⟩ rfl ?_
      refine wTk 18 ⟨some 87, .pick (.tmp 74) (.const (.bool true)) (.tmp 86), 4, "ref.go:262", #[⟨5, .data⟩, ⟨17, .data⟩], none⟩ rfl ?_
      refine wpAnyH_done (by kernel_rfl) ?_ _
      clear hHeld
      have Hst : Hid (stayE f x = false) := by
       show _ = _
       unfold stayE
       rw [hib]
       rfl
      have HNx : Hid (EfM wb u4 ap l c L f (k + 1) true) := ((HMd.out).later Hc4.out).imp (fun acc hI => hI.drop Hlt.out.2 (by rw [Hx.out]; exact Hst.out) (fun h => by cases h))
      go_wp2_with fail
      go_roundw
      case rel => exact ⟨k + 1, true, ap, l, c, Hlt.out.1, rfl, rfl, by simp, by have := hlk; omega, HNx⟩
      case measure => simp [intOf]; have := Hlt.out; omega
     | false =>
      refine wTk 5 ⟨some 74, .move (.tmp 73), 4, "ref.go:262", #[⟨4, .data⟩, ⟨4, .chain⟩], none⟩ rfl ?_
      refine wTk 6 ⟨some 75, .fieldAddr 29 (.tmp 3) 2, 0, "ref.go:262", #[⟨5, .guard⟩], some (5, false)⟩ rfl ?_
      refine wTk 7 ⟨some 76, .load 27 (.tmp 75), 27, "ref.go:262", #[⟨6, .data⟩, ⟨5, .guard⟩], some (5, false)⟩ rfl ?_
      refine wTk 8 ⟨some 77, .call ⟨.builtin .len, #[.tmp 76], #[27]⟩, 3, "ref.go:262", #[⟨7, .data⟩, ⟨5, .guard⟩], some (5, false)⟩ rfl ?_
      refine wTk 9 ⟨some 78, .binOp .eql 3 (.tmp 77) (.const (.int .i64 1)) 3, 4, "ref.go:262", #[⟨8, .data⟩, ⟨5, .guard⟩], some (5, false)⟩ rfl ?_
      refine wTk 10 ⟨some 79, .move (.tmp 78), 4, "ref.go:262", #[⟨9, .data⟩, ⟨5, .chain⟩, ⟨5, .guard⟩], some (5, false)⟩ rfl ?_
      refine wTk 11 ⟨some 80, .fieldAddr 29 (.tmp 3) 2, 0, "ref.go:262", #[⟨10, .guard⟩], some (10, true)⟩ rfl ?_
      refine wTk 12 ⟨some 81, .load 27 (.tmp 80), 27, "ref.go:262", #[⟨11, .data⟩, ⟨10, .guard⟩], some (10, true)⟩ rfl ?_
      refine wTk 13 ⟨some 82, .indexAddr 27 (.tmp 81) (.const (.int .i64 0)), 0, "ref.go:262", #[⟨12, .data⟩, ⟨10, .guard⟩], some (10, true)⟩ rfl ?_
      refine wTk 14 ⟨some 83, .load 52 (.tmp 82), 52, "ref.go:262", #[⟨13, .data⟩, ⟨10, .guard⟩], some (10, true)⟩ rfl ?_
      refine wTk 15 ⟨some 84, .load 36 (.tmp 10), 36, "ref.go:262", #[⟨10, .guard⟩], some (10, true)⟩ rfl ?_
      refine wpAnyH_ready (rs := [16]) (by kernel_rfl) (by simp) (.cons rfl (fun K hK => ?_) .nil)
      go_simp
      go_wp2_with fail
      refine (covers08_any rr x _ (HRk.out.below Hb4.out)).mono ?_
      rintro e u5 ⟨rfl, b5⟩
      have Hc5 : Hid (Below w7.drew.drew.heap.size w7.drew.drew u5) := Hc4.out.trans (b5.mono Hc4.out.size)
      have Hb5 : Hid (Below wb.heap.size wb u5) := Hb4.out.trans (b5.mono Hb4.out.size)
      have Hz5 : Hid (u5.heap[g7]? = w7.heap[g7]?) := (Hc5.out.block g7 Hg7.out.2).trans rfl
      refine hK.out _ _ (HS7.out _ Hb5.out Hz5.out) (fun hHeld => ?_)
      clear hK K
      clear b5
      refine wTk 17 ⟨some 86, .pick (.tmp 79) (.tmp 85) (.const (.bool false)), 4, "ref.go:262", #[⟨10, .data⟩, ⟨16, .data⟩, ⟨5, .guard⟩], some (5, false)⟩ rfl ?_
      refine wTk 18 ⟨some 87, .pick (.tmp 74) (.const (.bool true)) (.tmp 86), 4, "ref.go:262", #[⟨5, .data⟩, ⟨17, .data⟩], none⟩ rfl ?_
      refine wpAnyH_done (by kernel_rfl) ?_ _
      clear hHeld
      cases hcv : covB rr x with
      | true =>
       have Hst : Hid (stayE f x = false) := by
        show _ = _
        unfold stayE
        rw [hib, HFr.out, hcv]
        rfl
       have HNx : Hid (EfM wb u5 ap l c L f (k + 1) true) := ((HMd.out).later Hc5.out).imp (fun acc hI => hI.drop Hlt.out.2 (by rw [Hx.out]; exact Hst.out) (fun h => by cases h))
       go_wp2_with fail
       go_roundw
       case rel => exact ⟨k + 1, true, ap, l, c, Hlt.out.1, rfl, rfl, by simp, by have := hlk; omega, HNx⟩
       case measure => simp [intOf]; have := Hlt.out; omega
      | false =>
       have Hst : Hid (stayE f x = true) := by
        show _ = _
        unfold stayE
        rw [hib, HFr.out, hcv]
        rfl
       obtain ⟨a9, c9, w9, hr9, hM9, -⟩ := ((HMd.out).later Hc5.out).app (k' := k + 1) (p' := true) x HSk.out (by have h5 := K.chk_len HC.out; have := HL.out; have := Hlt.out; omega) (fun acc hI => by
        have h := hI.keep HAs.out Hlt.out.2 (by rw [Hx.out]; exact Hst.out) (fun h => by cases h)
        rw [Hx.out] at h
        exact h)
       have HA9 : Hid ((Builtin.append_ #[22, 22] 22 #[.slice ap l c, .slice (some ⟨u5.heap.size, 0, none⟩) 1 1]).run Tryz.prog (u5.alloc (.cells (K.EC x) 36)) = .ok (.slice a9 (l + 1) c9) w9) := hr9
       have HM9 := hide hM9
       clear hr9 hM9
       have l9 := (HBox.out u5 Hz5.out).2
       go_wp2_with (at_builtin; refine seq_appM rfl (.tmp 88) (.tmp 90) rfl rfl rfl HA9.out ?_)
       clear l9
       go_roundw
       case rel => exact ⟨k + 1, true, a9, l + 1, c9, Hlt.out.1, rfl, rfl, by simp, by omega, HM9⟩
       case measure => simp [intOf]; have := Hlt.out; omega
    ·have hrni : ((f.rn : Int) == 1) = false := by simp; omega
     have HFr : Hid (freeB f.rs x = true) := by
      have h1 : f.rs = [] := List.eq_nil_of_length_eq_zero (by rw [HAl.out.2]; omega)
      show _ = _
      unfold freeB
      rw [h1]
      rfl
     have HS7 : Hid (∀ W, Below wb.heap.size wb W → W.heap[g7]? = w7.heap[g7]? → (ldP (.pointer (some ⟨G, 1, none⟩))).run Tryz.prog W = .ok (PV f.p) W ∧ W.cell? ⟨G, 3, none⟩ = some (.slice f.ro f.rn f.rc) ∧ (K.ld26 (.pointer (some ⟨g7, 0, none⟩))).run Tryz.prog W = .ok (.agg (K.DC x)) W ∧ (K.ld28 (.pointer (some ⟨g7, 0, none⟩))).run Tryz.prog W = .ok (K.EV x) W) := fun W hW hg => ⟨run_ldP (HFw.out W hW).1.past, (HFw.out W hW).1.cs.2, (HBox.out W hg).1, (HBox.out W hg).2⟩
     go_upto_region 17 with fail
     refine wp_region_held_drew (S := fun W => (ldP (.pointer (some ⟨G, 1, none⟩))).run Tryz.prog W = .ok (PV f.p) W ∧ W.cell? ⟨G, 3, none⟩ = some (.slice f.ro f.rn f.rc) ∧ (K.ld26 (.pointer (some ⟨g7, 0, none⟩))).run Tryz.prog W = .ok (.agg (K.DC x)) W ∧ (K.ld28 (.pointer (some ⟨g7, 0, none⟩))).run Tryz.prog W = .ok (K.EV x) W) (by kernel_rfl) (HS7.out _ (HBd.out.trans ((below_drew1 w7.drew.drew).mono HBd.out.size)) rfl) (fun hHeld => ?_)
     refine wTk 0 ⟨some 69, .fieldAddr 29 (.tmp 3) 1, 0, "ref.go:262", #[], none⟩ rfl ?_
     refine wTk 1 ⟨some 70, .load 26 (.tmp 69), 26, "ref.go:262", #[⟨0, .data⟩], none⟩ rfl ?_
     refine wTk 2 ⟨some 71, .fieldAddr 36 (.tmp 10) 0, 0, "ref.go:262", #[], none⟩ rfl ?_
     refine wTk 3 ⟨some 72, .load 34 (.tmp 71), 34, "ref.go:262", #[⟨2, .data⟩], none⟩ rfl ?_
     refine wpAnyH_ready (rs := [4]) (by kernel_rfl) (by simp) (.cons rfl (fun K hK => ?_) .nil)
     go_simp
     go_wp2_with fail
     refine (refHas_any f.p ⟨x.rep, x.num⟩ _ (HFw.out _ (HBd.out.trans ((below_drew1 w7.drew.drew).mono HBd.out.size))).2.p).mono ?_
     rintro e u4 ⟨b, rfl, hb, b4⟩
     have hib := inB_eq hb
     have Hc4 : Hid (Below w7.drew.drew.heap.size w7.drew.drew u4) := (below_drew1 w7.drew.drew).trans b4
     have Hb4 : Hid (Below wb.heap.size wb u4) := HBd.out.trans (Hc4.out.mono HBd.out.size)
     have Hz4 : Hid (u4.heap[g7]? = w7.heap[g7]?) := (Hc4.out.block g7 Hg7.out.2).trans rfl
     refine hK.out _ _ (HS7.out _ Hb4.out Hz4.out) (fun hHeld => ?_)
     clear hK K
     clear b4 hb
     cases b with
     | true =>
      refine wTk 5 ⟨some 74, .move (.tmp 73), 4, "ref.go:262", #[⟨4, .data⟩, ⟨4, .chain⟩], none⟩ rfl ?_
      refine wSk 6 ⟨some 75, .fieldAddr 29 (.tmp 3) 2, 0, "ref.go:262", #[⟨5, .guard⟩], some (5, false)⟩ rfl ?_
      refine wSk 7 ⟨some 76, .load 27 (.tmp 75), 27, "ref.go:262", #[⟨6, .data⟩, ⟨5, .guard⟩], some (5, false)⟩ rfl ?_
      refine wSk 8 ⟨some 77, .call ⟨.builtin .len, #[.tmp 76], #[27]⟩, 3, "ref.go:262", #[⟨7, .data⟩, ⟨5, .guard⟩], some (5, false)⟩ rfl ?_
      refine wSk 9 ⟨some 78, .binOp .eql 3 (.tmp 77) (.const (.int .i64 1)) 3, 4, "ref.go:262", #[⟨8, .data⟩, ⟨5, .guard⟩], some (5, false)⟩ rfl ?_
      refine wSk 10 ⟨some 79, .move (.tmp 78), 4, "ref.go:262", #[⟨9, .data⟩, ⟨5, .chain⟩, ⟨5, .guard⟩], some (5, false)⟩ rfl ?_
      refine wSk 11 ⟨some 80, .fieldAddr 29 (.tmp 3) 2, 0, "ref.go:262", #[⟨10, .guard⟩], some (10, true)⟩ rfl ?_
      refine wSk 12 ⟨some 81, .load 27 (.tmp 80), 27, "ref.go:262", #[⟨11, .data⟩, ⟨10, .guard⟩], some (10, true)⟩ rfl ?_
      refine wSk 13 ⟨some 82, .indexAddr 27 (.tmp 81) (.const (.int .i64 0)), 0, "ref.go:262", #[⟨12, .data⟩, ⟨10, .guard⟩], some (10, true)⟩ rfl ?_
      refine wSk 14 ⟨some 83, .load 52 (.tmp 82), 52, "ref.go:262", #[⟨13, .data⟩, ⟨10, .guard⟩], some (10, true)⟩ rfl ?_
      refine wSk 15 ⟨some 84, .load 36 (.tmp 10), 36, "ref.go:262", #[⟨10, .guard⟩], some (10, true)⟩ rfl ?_
      refine wSk 16 ⟨some 85, .call ⟨.value (.func 18), #[.tmp 83, .tmp 84], #[52, 36]⟩, 4, "ref.go:262", #[⟨14, .data⟩, ⟨15, .data⟩, ⟨10, .chain⟩, ⟨10, .guard⟩], some (10, true)⟩ rfl ?_
      refine wSk 17 ⟨some 86, .pick (.tmp 79) (.tmp 85) (.const (.bool false)), 4, "ref.go:262", #[⟨10, .data⟩, ⟨16, .data⟩, ⟨5, .guard⟩], some (5, false)⟩ rfl ?_
      refine wTk 18 ⟨some 87, .pick (.tmp 74) (.const (.bool true)) (.tmp 86), 4, "ref.go:262", #[⟨5, .data⟩, ⟨17, .data⟩], none⟩ rfl ?_
      refine wpAnyH_done (by kernel_rfl) ?_ _
      clear hHeld
      have Hst : Hid (stayE f x = false) := by
       show _ = _
       unfold stayE
       rw [hib]
       rfl
      have HNx : Hid (EfM wb u4 ap l c L f (k + 1) true) := ((HMd.out).later Hc4.out).imp (fun acc hI => hI.drop Hlt.out.2 (by rw [Hx.out]; exact Hst.out) (fun h => by cases h))
      go_wp2_with fail
      go_roundw
      case rel => exact ⟨k + 1, true, ap, l, c, Hlt.out.1, rfl, rfl, by simp, by have := hlk; omega, HNx⟩
      case measure => simp [intOf]; have := Hlt.out; omega
     | false =>
      refine wTk 5 ⟨some 74, .move (.tmp 73), 4, "ref.go:262", #[⟨4, .data⟩, ⟨4, .chain⟩], none⟩ rfl ?_
      refine wTk 6 ⟨some 75, .fieldAddr 29 (.tmp 3) 2, 0, "ref.go:262", #[⟨5, .guard⟩], some (5, false)⟩ rfl ?_
      refine wTk 7 ⟨some 76, .load 27 (.tmp 75), 27, "ref.go:262", #[⟨6, .data⟩, ⟨5, .guard⟩], some (5, false)⟩ rfl ?_
      refine wTk 8 ⟨some 77, .call ⟨.builtin .len, #[.tmp 76], #[27]⟩, 3, "ref.go:262", #[⟨7, .data⟩, ⟨5, .guard⟩], some (5, false)⟩ rfl ?_
      refine wTk 9 ⟨some 78, .binOp .eql 3 (.tmp 77) (.const (.int .i64 1)) 3, 4, "ref.go:262", #[⟨8, .data⟩, ⟨5, .guard⟩], some (5, false)⟩ rfl ?_
      refine wTk 10 ⟨some 79, .move (.tmp 78), 4, "ref.go:262", #[⟨9, .data⟩, ⟨5, .chain⟩, ⟨5, .guard⟩], some (5, false)⟩ rfl ?_
      refine wSk 11 ⟨some 80, .fieldAddr 29 (.tmp 3) 2, 0, "ref.go:262", #[⟨10, .guard⟩], some (10, true)⟩ rfl ?_
      refine wSk 12 ⟨some 81, .load 27 (.tmp 80), 27, "ref.go:262", #[⟨11, .data⟩, ⟨10, .guard⟩], some (10, true)⟩ rfl ?_
      refine wSk 13 ⟨some 82, .indexAddr 27 (.tmp 81) (.const (.int .i64 0)), 0, "ref.go:262", #[⟨12, .data⟩, ⟨10, .guard⟩], some (10, true)⟩ rfl ?_
      refine wSk 14 ⟨some 83, .load 52 (.tmp 82), 52, "ref.go:262", #[⟨13, .data⟩, ⟨10, .guard⟩], some (10, true)⟩ rfl ?_
      refine wSk 15 ⟨some 84, .load 36 (.tmp 10), 36, "ref.go:262", #[⟨10, .guard⟩], some (10, true)⟩ rfl ?_
      refine wSk 16 ⟨some 85, .call ⟨.value (.func 18), #[.tmp 83, .tmp 84], #[52, 36]⟩, 4, "ref.go:262", #[⟨14, .data⟩, ⟨15, .data⟩, ⟨10, .chain⟩, ⟨10, .guard⟩], some (10, true)⟩ rfl ?_
      refine wTk 17 ⟨some 86, .pick (.tmp 79) (.tmp 85) (.const (.bool false)), 4, "ref.go:262", #[⟨10, .data⟩, ⟨16, .data⟩, ⟨5, .guard⟩], some (5, false)⟩ rfl ?_
      refine wTk 18 ⟨some 87, .pick (.tmp 74) (.const (.bool true)) (.tmp 86), 4, "ref.go:262", #[⟨5, .data⟩, ⟨17, .data⟩], none⟩ rfl ?_
      refine wpAnyH_done (by kernel_rfl) ?_ _
      clear hHeld
      have Hst : Hid (stayE f x = true) := by
       show _ = _
       unfold stayE
       rw [hib, HFr.out]
       rfl
      obtain ⟨a9, c9, w9, hr9, hM9, -⟩ := ((HMd.out).later Hc4.out).app (k' := k + 1) (p' := true) x HSk.out (by have h5 := K.chk_len HC.out; have := HL.out; have := Hlt.out; omega) (fun acc hI => by
       have h := hI.keep HAs.out Hlt.out.2 (by rw [Hx.out]; exact Hst.out) (fun h => by cases h)
       rw [Hx.out] at h
       exact h)
      have HA9 : Hid ((Builtin.append_ #[22, 22] 22 #[.slice ap l c, .slice (some ⟨u4.heap.size, 0, none⟩) 1 1]).run Tryz.prog (u4.alloc (.cells (K.EC x) 36)) = .ok (.slice a9 (l + 1) c9) w9) := hr9
      have HM9 := hide hM9
      clear hr9 hM9
      have l9 := (HBox.out u4 Hz4.out).2
      go_wp2_with (at_builtin; refine seq_appM rfl (.tmp 88) (.tmp 90) rfl rfl rfl HA9.out ?_)
      clear l9
      go_roundw
      case rel => exact ⟨k + 1, true, a9, l + 1, c9, Hlt.out.1, rfl, rfl, by simp, by omega, HM9⟩
      case measure => simp [intOf]; have := Hlt.out; omega
   | false =>
    have hes := fun acc (h : EfI L f k false acc) => (h.lo rfl).1
    have han : f.an = 1 := by
     obtain ⟨acc, -, -, hI⟩ := HM7.out
     have h := (hI.lo rfl).1
     have h2 := congrArg List.length h
     rw [HAl.out.1] at h2
     simpa using h2
    obtain ⟨fad, hfo, A1⟩ := (HF.out.es.below HB3.out).at 0 (by omega)
    obtain ⟨a, Ha⟩ : ∃ a, Hid (f.es.getD 0 K.en0 = a) := ⟨_, rfl⟩
    have hask := (HF.out.es.below HB3.out).sku 0 (by omega)
    rw [Ha.out] at A1 hask
    rw [Nat.zero_mul, K.add_zero] at A1
    have HA1 := hide A1
    have Hfo := hide hfo
    have HaS := hide hask
    have h01 : (0 : Int) < (f.an : Int) := by omega
    have HSf : Hid (∀ W, Below wb.heap.size wb W → W.heap[g7]? = w7.heap[g7]? → W.cell? ⟨G, 0, none⟩ = some (.slice (some fad) f.an f.ac) ∧ (K.ld26 (.pointer (some ⟨g7, 0, none⟩))).run Tryz.prog W = .ok (.agg (K.DC x)) W ∧ (K.ld26 (.pointer (some fad))).run Tryz.prog W = .ok (.agg (K.DC a)) W) := fun W hW hg => ⟨by rw [← Hfo.out]; exact (HFw.out W hW).1.cs.1, (HBox.out W hg).1, K.run_ld26 (HA1.out.on hW)⟩
    have h01n : 0 < f.an := by omega
    have Han := hide han
    clear A1 hfo hask hes han
    go_upto_region 12 with fail
    clear hst hld hg7
    refine wp_region_held_drew (S := fun W => W.cell? ⟨G, 0, none⟩ = some (.slice (some fad) f.an f.ac) ∧ (K.ld26 (.pointer (some ⟨g7, 0, none⟩))).run Tryz.prog W = .ok (.agg (K.DC x)) W ∧ (K.ld26 (.pointer (some fad))).run Tryz.prog W = .ok (.agg (K.DC a)) W) (by kernel_rfl) (HSf.out _ (HBb7.out.trans ((below_drew1 w7).mono HBb7.out.size)) rfl) (fun hHeld => ?_)
    refine wTk 0 ⟨some 38, .move (.tmp 8), 4, "ref.go:255", #[], none⟩ rfl ?_
    refine wTk 1 ⟨some 39, .unOp .not 4 (.tmp 38), 4, "ref.go:255", #[⟨0, .data⟩], none⟩ rfl ?_
    refine wTk 2 ⟨some 40, .move (.tmp 39), 4, "ref.go:255", #[⟨1, .data⟩], none⟩ rfl ?_
    refine wTk 3 ⟨some 41, .fieldAddr 36 (.tmp 10) 0, 0, "ref.go:255", #[⟨2, .guard⟩], some (2, true)⟩ rfl ?_
    refine wTk 4 ⟨some 42, .load 34 (.tmp 41), 34, "ref.go:255", #[⟨3, .data⟩, ⟨2, .guard⟩], some (2, true)⟩ rfl ?_
    refine wTk 5 ⟨some 43, .fieldAddr 29 (.tmp 3) 0, 0, "ref.go:255", #[⟨2, .guard⟩], some (2, true)⟩ rfl ?_
    refine wTk 6 ⟨some 44, .load 22 (.tmp 43), 22, "ref.go:255", #[⟨5, .data⟩, ⟨2, .guard⟩], some (2, true)⟩ rfl ?_
    refine wTk 7 ⟨some 45, .indexAddr 22 (.tmp 44) (.const (.int .i64 0)), 0, "ref.go:255", #[⟨6, .data⟩, ⟨2, .guard⟩], some (2, true)⟩ rfl ?_
    refine wTk 8 ⟨some 46, .fieldAddr 36 (.tmp 45) 0, 0, "ref.go:255", #[⟨7, .data⟩, ⟨2, .guard⟩], some (2, true)⟩ rfl ?_
    refine wTk 9 ⟨some 47, .load 34 (.tmp 46), 34, "ref.go:255", #[⟨8, .data⟩, ⟨2, .guard⟩], some (2, true)⟩ rfl ?_
    refine wTk 10 ⟨some 48, .binOp .eql 34 (.tmp 42) (.tmp 47) 34, 4, "ref.go:255", #[⟨4, .data⟩, ⟨9, .data⟩, ⟨2, .guard⟩], some (2, true)⟩ rfl ?_
    refine wTk 11 ⟨some 49, .pick (.tmp 40) (.tmp 48) (.const (.bool false)), 4, "ref.go:255", #[⟨2, .data⟩, ⟨10, .data⟩], none⟩ rfl ?_
    refine wpAnyH_done (by kernel_rfl) ?_ _
    clear hHeld
    cases hsd : K.sameDot x a with
    | true =>
     have HE : Hid (EfA w w7.drew (.returned (.tuple #[.slice none 0 0, .int .i64 10])) L f) := by
      refine ⟨_, _, _, _, _, rfl, K.ESrc.none _, HBK.out.trans ((HB3.out.trans ((HBb7.out.trans ((below_drew1 w7).mono HBb7.out.size)).mono HB3.out.size)).mono HBK.out.size), .inr (.inr (.inl ⟨HC.out, HEv.out, ⟨a, ?_, x, ?_, hsd⟩, rfl, rfl⟩))⟩
      ·rw [← Ha.out]; exact at_mem (by rw [HAl.out.1]; have := Han.out; omega)
      ·rw [← Hx.out]; exact at_mem Hlt.out.2
     clear hsd
     go_wp2_with fail
     go_ret2
     exact HE.out
    | false =>
     have HSd := hide hsd
     clear hsd
     have HBd : Hid (Below wb.heap.size wb w7.drew) := HBb7.out.trans ((below_drew1 w7).mono HBb7.out.size)
     go_upto_region 14 with fail
     refine wp_region_held_drew (S := fun W => W.cell? ⟨G, 0, none⟩ = some (.slice (some fad) f.an f.ac) ∧ (K.ld26 (.pointer (some ⟨g7, 0, none⟩))).run Tryz.prog W = .ok (.agg (K.DC x)) W ∧ (K.ld26 (.pointer (some fad))).run Tryz.prog W = .ok (.agg (K.DC a)) W) (by kernel_rfl) (HSf.out _ (HBd.out.trans ((below_drew1 w7.drew).mono HBd.out.size)) rfl) (fun hHeld => ?_)
     refine wTk 0 ⟨some 50, .move (.tmp 8), 4, "ref.go:258", #[], none⟩ rfl ?_
     refine wTk 1 ⟨some 51, .unOp .not 4 (.tmp 50), 4, "ref.go:258", #[⟨0, .data⟩], none⟩ rfl ?_
     refine wTk 2 ⟨some 52, .move (.tmp 51), 4, "ref.go:258", #[⟨1, .data⟩], none⟩ rfl ?_
     refine wTk 3 ⟨some 53, .fieldAddr 29 (.tmp 3) 0, 0, "ref.go:258", #[⟨2, .guard⟩], some (2, true)⟩ rfl ?_
     refine wTk 4 ⟨some 54, .load 22 (.tmp 53), 22, "ref.go:258", #[⟨3, .data⟩, ⟨2, .guard⟩], some (2, true)⟩ rfl ?_
     refine wTk 5 ⟨some 55, .indexAddr 22 (.tmp 54) (.const (.int .i64 0)), 0, "ref.go:258", #[⟨4, .data⟩, ⟨2, .guard⟩], some (2, true)⟩ rfl ?_
     refine wTk 6 ⟨some 56, .fieldAddr 36 (.tmp 55) 0, 0, "ref.go:258", #[⟨5, .data⟩, ⟨2, .guard⟩], some (2, true)⟩ rfl ?_
     refine wTk 7 ⟨some 57, .load 34 (.tmp 56), 34, "ref.go:258", #[⟨6, .data⟩, ⟨2, .guard⟩], some (2, true)⟩ rfl ?_
     refine wTk 8 ⟨some 58, .fieldAddr 36 (.tmp 10) 0, 0, "ref.go:258", #[⟨2, .guard⟩], some (2, true)⟩ rfl ?_
     refine wTk 9 ⟨some 59, .load 34 (.tmp 58), 34, "ref.go:258", #[⟨8, .data⟩, ⟨2, .guard⟩], some (2, true)⟩ rfl ?_
     refine wpAnyH_ready (rs := [10]) (by kernel_rfl) (by simp) (.cons rfl (fun K hK => ?_) .nil)
     go_simp
     go_wp2_with fail
     refine (Go.Proofs.YtcnciccljblkfaaGreat.K.refBefore_any a x _).mono ?_
     rintro e u1 ⟨rfl, b1⟩
     have Hc1 : Hid (Below w7.heap.size w7 u1) := (below_drew1 w7).trans (((below_drew1 w7.drew).trans b1).mono (below_drew1 w7).size)
     have Hb1 : Hid (Below wb.heap.size wb u1) := HBb7.out.trans (Hc1.out.mono HBb7.out.size)
     have Hz1 : Hid (u1.heap[g7]? = w7.heap[g7]?) := Hc1.out.block g7 Hg7.out.2
     refine hK.out _ _ (HSf.out _ Hb1.out Hz1.out) (fun hHeld => ?_)
     clear hK K
     clear b1
     refine wTk 11 ⟨some 61, .pick (.tmp 52) (.tmp 60) (.const (.bool false)), 4, "ref.go:258", #[⟨2, .data⟩, ⟨10, .data⟩], none⟩ rfl ?_
     refine wpAnyH_done (by kernel_rfl) ?_ _
     clear hHeld
     have HM1 := hide (HM7.out.later Hc1.out)
     have Hl1 : Hid (l ≤ k) := by
      obtain ⟨acc, rfl, -, hI⟩ := HM7.out
      exact hI.len.2 rfl
     cases hah : K.ahead a x with
     | true =>
      obtain ⟨a8, c8, w8, hr8, hM8, hk8⟩ := HM1.out.app (k' := k) (p' := true) a HaS.out (by have h5 := K.chk_len HC.out; have := HL.out; have := Hlt.out; have := Hl1.out; omega) (fun acc hI => by
       have h := hI.put HAs.out Hlt.out.2 (by rw [Ha.out, Hx.out]; exact hah)
       rw [Ha.out] at h
       exact h)
      have HA8 : Hid ((Builtin.append_ #[22, 22] 22 #[.slice ap l c, .slice (some ⟨u1.heap.size, 0, none⟩) 1 1]).run Tryz.prog (u1.alloc (.cells (K.EC a) 36)) = .ok (.slice a8 (l + 1) c8) w8) := hr8
      have HM8 := hide hM8
      have hg1 : g7 < u1.heap.size := Nat.lt_of_lt_of_le Hg7.out.2 Hc1.out.size
      have Hz8 : Hid (w8.heap[g7]? = w7.heap[g7]?) := (hk8 g7 hg1 Hg7.out.1).trans Hz1.out
      have Hg8 : Hid (g7 < w8.heap.size) := by
       have h := Hz8.out.trans HX7.out
       exact (Array.getElem?_eq_some_iff.1 h).1
      have HBb8 : Hid (Below wb.heap.size wb w8) := hM8.below
      have c0 := (HSf.out u1 Hb1.out Hz1.out).1
      have l8 := K.run_ld28 (HA1.out.on Hb1.out)
      clear hr8 hM8 hk8 hg1 hah
      go_wp2_with (at_builtin; refine seq_appM rfl (.tmp 62) (.tmp 67) rfl rfl rfl HA8.out ?_)
      clear c0 l8
      by_cases hrn : f.rn = 1
      ·have hrni : ((f.rn : Int) == 1) = true := by simp [hrn]
       have hr0 : (0 : Int) < (f.rn : Int) := by omega
       obtain ⟨rd, hro, R0⟩ := (HF.out.rs.below HB3.out).at 0 (by omega)
       have hrok := (HF.out.rs.below HB3.out).okAt 0 (by omega)
       obtain ⟨rr, Hr⟩ : ∃ rr, Hid (f.rs.getD 0 rc0 = rr) := ⟨_, rfl⟩
       rw [Hr.out] at R0 hrok
       rw [Nat.zero_mul, K.add_zero] at R0
       have HR0 := hide R0
       have HRk := hide hrok
       have Hro := hide hro
       have HFr : Hid (freeB f.rs x = !covB rr x) := by
        have h1 : f.rs = [rr] := by
         have h2 : f.rs.length = 1 := by rw [HAl.out.2]; exact hrn
         match hrs : f.rs with
         | [q] => have h3 := Hr.out; rw [hrs] at h3; rw [← h3]; rfl
         | [] => rw [hrs] at h2; simp at h2
         | _ :: _ :: _ => rw [hrs] at h2; simp at h2
        show _ = _
        unfold freeB
        rw [h1]
        simp
       have HS7 : Hid (∀ W, Below wb.heap.size wb W → W.heap[g7]? = w7.heap[g7]? → (ldP (.pointer (some ⟨G, 1, none⟩))).run Tryz.prog W = .ok (PV f.p) W ∧ W.cell? ⟨G, 3, none⟩ = some (.slice (some rd) f.rn f.rc) ∧ (K.ld26 (.pointer (some ⟨g7, 0, none⟩))).run Tryz.prog W = .ok (.agg (K.DC x)) W ∧ (K.ld28 (.pointer (some ⟨g7, 0, none⟩))).run Tryz.prog W = .ok (K.EV x) W ∧ (ldRe (.pointer (some rd))).run Tryz.prog W = .ok (ReV (mkR rr)) W) := fun W hW hg => ⟨run_ldP (HFw.out W hW).1.past, by rw [← Hro.out]; exact (HFw.out W hW).1.cs.2, (HBox.out W hg).1, (HBox.out W hg).2, run_laRe (HR0.out.on hW)⟩
       clear R0 hrok hro
       go_upto_region 17 with fail
       refine wp_region_held_drew (S := fun W => (ldP (.pointer (some ⟨G, 1, none⟩))).run Tryz.prog W = .ok (PV f.p) W ∧ W.cell? ⟨G, 3, none⟩ = some (.slice (some rd) f.rn f.rc) ∧ (K.ld26 (.pointer (some ⟨g7, 0, none⟩))).run Tryz.prog W = .ok (.agg (K.DC x)) W ∧ (K.ld28 (.pointer (some ⟨g7, 0, none⟩))).run Tryz.prog W = .ok (K.EV x) W ∧ (ldRe (.pointer (some rd))).run Tryz.prog W = .ok (ReV (mkR rr)) W) (by kernel_rfl) (HS7.out _ (HBb8.out.trans ((below_drew1 w8).mono HBb8.out.size)) Hz8.out) (fun hHeld => ?_)
       refine wTk 0 ⟨some 69, .fieldAddr 29 (.tmp 3) 1, 0, "ref.go:262", #[], none⟩ rfl ?_
       refine wTk 1 ⟨some 70, .load 26 (.tmp 69), 26, "ref.go:262", #[⟨0, .data⟩], none⟩ rfl ?_
       refine wTk 2 ⟨some 71, .fieldAddr 36 (.tmp 10) 0, 0, "ref.go:262", #[], none⟩ rfl ?_
       refine wTk 3 ⟨some 72, .load 34 (.tmp 71), 34, "ref.go:262", #[⟨2, .data⟩], none⟩ rfl ?_
       refine wpAnyH_ready (rs := [4]) (by kernel_rfl) (by simp) (.cons rfl (fun K hK => ?_) .nil)
       go_simp
       go_wp2_with fail
       refine (refHas_any f.p ⟨x.rep, x.num⟩ _ (HFw.out _ (HBb8.out.trans ((below_drew1 w8).mono HBb8.out.size))).2.p).mono ?_
       rintro e u4 ⟨b, rfl, hb, b4⟩
       have hib := inB_eq hb
       have Hc4 : Hid (Below w8.heap.size w8 u4) := (below_drew1 w8).trans b4
       have Hb4 : Hid (Below wb.heap.size wb u4) := HBb8.out.trans (Hc4.out.mono HBb8.out.size)
       have Hz4 : Hid (u4.heap[g7]? = w7.heap[g7]?) := (Hc4.out.block g7 Hg8.out).trans Hz8.out
       refine hK.out _ _ (HS7.out _ Hb4.out Hz4.out) (fun hHeld => ?_)
       clear hK K
       clear b4 hb
       cases b with
       | true =>
        refine wTk 5 ⟨some 74, .move (.tmp 73), 4, "ref.go:262", #[⟨4, .data⟩, ⟨4, .chain⟩], none⟩ rfl ?_
        refine wSk 6 ⟨some 75, .fieldAddr 29 (.tmp 3) 2, 0, "ref.go:262", #[⟨5, .guard⟩], some (5, false)⟩ rfl ?_
        refine wSk 7 ⟨some 76, .load 27 (.tmp 75), 27, "ref.go:262", #[⟨6, .data⟩, ⟨5, .guard⟩], some (5, false)⟩ rfl ?_
        refine wSk 8 ⟨some 77, .call ⟨.builtin .len, #[.tmp 76], #[27]⟩, 3, "ref.go:262", #[⟨7, .data⟩, ⟨5, .guard⟩], some (5, false)⟩ rfl ?_
        refine wSk 9 ⟨some 78, .binOp .eql 3 (.tmp 77) (.const (.int .i64 1)) 3, 4, "ref.go:262", #[⟨8, .data⟩, ⟨5, .guard⟩], some (5, false)⟩ rfl ?_
        refine wSk 10 ⟨some 79, .move (.tmp 78), 4, "ref.go:262", #[⟨9, .data⟩, ⟨5, .chain⟩, ⟨5, .guard⟩], some (5, false)⟩ rfl ?_
        refine wSk 11 ⟨some 80, .fieldAddr 29 (.tmp 3) 2, 0, "ref.go:262", #[⟨10, .guard⟩], some (10, true)⟩ rfl ?_
        refine wSk 12 ⟨some 81, .load 27 (.tmp 80), 27, "ref.go:262", #[⟨11, .data⟩, ⟨10, .guard⟩], some (10, true)⟩ rfl ?_
        refine wSk 13 ⟨some 82, .indexAddr 27 (.tmp 81) (.const (.int .i64 0)), 0, "ref.go:262", #[⟨12, .data⟩, ⟨10, .guard⟩], some (10, true)⟩ rfl ?_
        refine wSk 14 ⟨some 83, .load 52 (.tmp 82), 52, "ref.go:262", #[⟨13, .data⟩, ⟨10, .guard⟩], some (10, true)⟩ rfl ?_
        refine wSk 15 ⟨some 84, .load 36 (.tmp 10), 36, "ref.go:262", #[⟨10, .guard⟩], some (10, true)⟩ rfl ?_
        refine wSk 16 ⟨some 85, .call ⟨.value (.func 18), #[.tmp 83, .tmp 84], #[52, 36]⟩, 4, "ref.go:262", #[⟨14, .data⟩, ⟨15, .data⟩, ⟨10, .chain⟩, ⟨10, .guard⟩], some (10, true)⟩ rfl ?_
        refine wSk 17 ⟨some 86, .pick (.tmp 79) (.tmp 85) (.const (.bool false)), 4, "ref.go:262", #[⟨10, .data⟩, ⟨16, .data⟩, ⟨5, .guard⟩], some (5, false)⟩ rfl ?_
        refine wTk 18 ⟨some 87, .pick (.tmp 74) (.const (.bool true)) (.tmp 86), 4, "ref.go:262", #[⟨5, .data⟩, ⟨17, .data⟩], none⟩ rfl ?_
        refine wpAnyH_done (by kernel_rfl) ?_ _
        clear hHeld
        have Hst : Hid (stayE f x = false) := by
         show _ = _
         unfold stayE
         rw [hib]
         rfl
        have HNx : Hid (EfM wb u4 a8 (l + 1) c8 L f (k + 1) true) := ((HM8.out).later Hc4.out).imp (fun acc hI => hI.drop Hlt.out.2 (by rw [Hx.out]; exact Hst.out) (fun h => by cases h))
        go_wp2_with fail
        go_roundw
        case rel => exact ⟨k + 1, true, a8, (l + 1), c8, Hlt.out.1, rfl, rfl, by simp, by have := hlk; omega, HNx⟩
        case measure => simp [intOf]; have := Hlt.out; omega
       | false =>
        refine wTk 5 ⟨some 74, .move (.tmp 73), 4, "ref.go:262", #[⟨4, .data⟩, ⟨4, .chain⟩], none⟩ rfl ?_
        refine wTk 6 ⟨some 75, .fieldAddr 29 (.tmp 3) 2, 0, "ref.go:262", #[⟨5, .guard⟩], some (5, false)⟩ rfl ?_
        refine wTk 7 ⟨some 76, .load 27 (.tmp 75), 27, "ref.go:262", #[⟨6, .data⟩, ⟨5, .guard⟩], some (5, false)⟩ rfl ?_
        refine wTk 8 ⟨some 77, .call ⟨.builtin .len, #[.tmp 76], #[27]⟩, 3, "ref.go:262", #[⟨7, .data⟩, ⟨5, .guard⟩], some (5, false)⟩ rfl ?_
        refine wTk 9 ⟨some 78, .binOp .eql 3 (.tmp 77) (.const (.int .i64 1)) 3, 4, "ref.go:262", #[⟨8, .data⟩, ⟨5, .guard⟩], some (5, false)⟩ rfl ?_
        refine wTk 10 ⟨some 79, .move (.tmp 78), 4, "ref.go:262", #[⟨9, .data⟩, ⟨5, .chain⟩, ⟨5, .guard⟩], some (5, false)⟩ rfl ?_
        refine wTk 11 ⟨some 80, .fieldAddr 29 (.tmp 3) 2, 0, "ref.go:262", #[⟨10, .guard⟩], some (10, true)⟩ rfl ?_
        refine wTk 12 ⟨some 81, .load 27 (.tmp 80), 27, "ref.go:262", #[⟨11, .data⟩, ⟨10, .guard⟩], some (10, true)⟩ rfl ?_
        refine wTk 13 ⟨some 82, .indexAddr 27 (.tmp 81) (.const (.int .i64 0)), 0, "ref.go:262", #[⟨12, .data⟩, ⟨10, .guard⟩], some (10, true)⟩ rfl ?_
        refine wTk 14 ⟨some 83, .load 52 (.tmp 82), 52, "ref.go:262", #[⟨13, .data⟩, ⟨10, .guard⟩], some (10, true)⟩ rfl ?_
        refine wTk 15 ⟨some 84, .load 36 (.tmp 10), 36, "ref.go:262", #[⟨10, .guard⟩], some (10, true)⟩ rfl ?_
        refine wpAnyH_ready (rs := [16]) (by kernel_rfl) (by simp) (.cons rfl (fun K hK => ?_) .nil)
        go_simp
        go_wp2_with fail
        refine (covers08_any rr x _ (HRk.out.below Hb4.out)).mono ?_
        rintro e u5 ⟨rfl, b5⟩
        have Hc5 : Hid (Below w8.heap.size w8 u5) := Hc4.out.trans (b5.mono Hc4.out.size)
        have Hb5 : Hid (Below wb.heap.size wb u5) := Hb4.out.trans (b5.mono Hb4.out.size)
        have Hz5 : Hid (u5.heap[g7]? = w7.heap[g7]?) := (Hc5.out.block g7 Hg8.out).trans Hz8.out
        refine hK.out _ _ (HS7.out _ Hb5.out Hz5.out) (fun hHeld => ?_)
        clear hK K
        clear b5
        refine wTk 17 ⟨some 86, .pick (.tmp 79) (.tmp 85) (.const (.bool false)), 4, "ref.go:262", #[⟨10, .data⟩, ⟨16, .data⟩, ⟨5, .guard⟩], some (5, false)⟩ rfl ?_
        refine wTk 18 ⟨some 87, .pick (.tmp 74) (.const (.bool true)) (.tmp 86), 4, "ref.go:262", #[⟨5, .data⟩, ⟨17, .data⟩], none⟩ rfl ?_
        refine wpAnyH_done (by kernel_rfl) ?_ _
        clear hHeld
        cases hcv : covB rr x with
        | true =>
         have Hst : Hid (stayE f x = false) := by
          show _ = _
          unfold stayE
          rw [hib, HFr.out, hcv]
          rfl
         have HNx : Hid (EfM wb u5 a8 (l + 1) c8 L f (k + 1) true) := ((HM8.out).later Hc5.out).imp (fun acc hI => hI.drop Hlt.out.2 (by rw [Hx.out]; exact Hst.out) (fun h => by cases h))
         go_wp2_with fail
         go_roundw
         case rel => exact ⟨k + 1, true, a8, (l + 1), c8, Hlt.out.1, rfl, rfl, by simp, by have := hlk; omega, HNx⟩
         case measure => simp [intOf]; have := Hlt.out; omega
        | false =>
         have Hst : Hid (stayE f x = true) := by
          show _ = _
          unfold stayE
          rw [hib, HFr.out, hcv]
          rfl
         obtain ⟨a9, c9, w9, hr9, hM9, -⟩ := ((HM8.out).later Hc5.out).app (k' := k + 1) (p' := true) x HSk.out (by have h5 := K.chk_len HC.out; have := HL.out; have := Hlt.out; omega) (fun acc hI => by
          have h := hI.keep HAs.out Hlt.out.2 (by rw [Hx.out]; exact Hst.out) (fun h => by cases h)
          rw [Hx.out] at h
          exact h)
         have HA9 : Hid ((Builtin.append_ #[22, 22] 22 #[.slice a8 (l + 1) c8, .slice (some ⟨u5.heap.size, 0, none⟩) 1 1]).run Tryz.prog (u5.alloc (.cells (K.EC x) 36)) = .ok (.slice a9 ((l + 1) + 1) c9) w9) := hr9
         have HM9 := hide hM9
         clear hr9 hM9
         have l9 := (HBox.out u5 Hz5.out).2
         go_wp2_with (at_builtin; refine seq_appM rfl (.tmp 88) (.tmp 90) rfl rfl rfl HA9.out ?_)
         clear l9
         go_roundw
         case rel => exact ⟨k + 1, true, a9, (l + 1) + 1, c9, Hlt.out.1, rfl, rfl, by simp, by have := Hl1.out; omega, HM9⟩
         case measure => simp [intOf]; have := Hlt.out; omega
      ·have hrni : ((f.rn : Int) == 1) = false := by simp; omega
       have HFr : Hid (freeB f.rs x = true) := by
        have h1 : f.rs = [] := List.eq_nil_of_length_eq_zero (by rw [HAl.out.2]; omega)
        show _ = _
        unfold freeB
        rw [h1]
        rfl
       have HS7 : Hid (∀ W, Below wb.heap.size wb W → W.heap[g7]? = w7.heap[g7]? → (ldP (.pointer (some ⟨G, 1, none⟩))).run Tryz.prog W = .ok (PV f.p) W ∧ W.cell? ⟨G, 3, none⟩ = some (.slice f.ro f.rn f.rc) ∧ (K.ld26 (.pointer (some ⟨g7, 0, none⟩))).run Tryz.prog W = .ok (.agg (K.DC x)) W ∧ (K.ld28 (.pointer (some ⟨g7, 0, none⟩))).run Tryz.prog W = .ok (K.EV x) W) := fun W hW hg => ⟨run_ldP (HFw.out W hW).1.past, (HFw.out W hW).1.cs.2, (HBox.out W hg).1, (HBox.out W hg).2⟩
       go_upto_region 17 with fail
       refine wp_region_held_drew (S := fun W => (ldP (.pointer (some ⟨G, 1, none⟩))).run Tryz.prog W = .ok (PV f.p) W ∧ W.cell? ⟨G, 3, none⟩ = some (.slice f.ro f.rn f.rc) ∧ (K.ld26 (.pointer (some ⟨g7, 0, none⟩))).run Tryz.prog W = .ok (.agg (K.DC x)) W ∧ (K.ld28 (.pointer (some ⟨g7, 0, none⟩))).run Tryz.prog W = .ok (K.EV x) W) (by kernel_rfl) (HS7.out _ (HBb8.out.trans ((below_drew1 w8).mono HBb8.out.size)) Hz8.out) (fun hHeld => ?_)
       refine wTk 0 ⟨some 69, .fieldAddr 29 (.tmp 3) 1, 0, "ref.go:262", #[], none⟩ rfl ?_
       refine wTk 1 ⟨some 70, .load 26 (.tmp 69), 26, "ref.go:262", #[⟨0, .data⟩], none⟩ rfl ?_
       refine wTk 2 ⟨some 71, .fieldAddr 36 (.tmp 10) 0, 0, "ref.go:262", #[], none⟩ rfl ?_
       refine wTk 3 ⟨some 72, .load 34 (.tmp 71), 34, "ref.go:262", #[⟨2, .data⟩], none⟩ rfl ?_
       refine wpAnyH_ready (rs := [4]) (by kernel_rfl) (by simp) (.cons rfl (fun K hK => ?_) .nil)
       go_simp
       go_wp2_with fail
       refine (refHas_any f.p ⟨x.rep, x.num⟩ _ (HFw.out _ (HBb8.out.trans ((below_drew1 w8).mono HBb8.out.size))).2.p).mono ?_
       rintro e u4 ⟨b, rfl, hb, b4⟩
       have hib := inB_eq hb
       have Hc4 : Hid (Below w8.heap.size w8 u4) := (below_drew1 w8).trans b4
       have Hb4 : Hid (Below wb.heap.size wb u4) := HBb8.out.trans (Hc4.out.mono HBb8.out.size)
       have Hz4 : Hid (u4.heap[g7]? = w7.heap[g7]?) := (Hc4.out.block g7 Hg8.out).trans Hz8.out
       refine hK.out _ _ (HS7.out _ Hb4.out Hz4.out) (fun hHeld => ?_)
       clear hK K
       clear b4 hb
       cases b with
       | true =>
        refine wTk 5 ⟨some 74, .move (.tmp 73), 4, "ref.go:262", #[⟨4, .data⟩, ⟨4, .chain⟩], none⟩ rfl ?_
        refine wSk 6 ⟨some 75, .fieldAddr 29 (.tmp 3) 2, 0, "ref.go:262", #[⟨5, .guard⟩], some (5, false)⟩ rfl ?_
        refine wSk 7 ⟨some 76, .load 27 (.tmp 75), 27, "ref.go:262", #[⟨6, .data⟩, ⟨5, .guard⟩], some (5, false)⟩ rfl ?_
        refine wSk 8 ⟨some 77, .call ⟨.builtin .len, #[.tmp 76], #[27]⟩, 3, "ref.go:262", #[⟨7, .data⟩, ⟨5, .guard⟩], some (5, false)⟩ rfl ?_
        refine wSk 9 ⟨some 78, .binOp .eql 3 (.tmp 77) (.const (.int .i64 1)) 3, 4, "ref.go:262", #[⟨8, .data⟩, ⟨5, .guard⟩], some (5, false)⟩ rfl ?_
        refine wSk 10 ⟨some 79, .move (.tmp 78), 4, "ref.go:262", #[⟨9, .data⟩, ⟨5, .chain⟩, ⟨5, .guard⟩], some (5, false)⟩ rfl ?_
        refine wSk 11 ⟨some 80, .fieldAddr 29 (.tmp 3) 2, 0, "ref.go:262", #[⟨10, .guard⟩], some (10, true)⟩ rfl ?_
        refine wSk 12 ⟨some 81, .load 27 (.tmp 80), 27, "ref.go:262", #[⟨11, .data⟩, ⟨10, .guard⟩], some (10, true)⟩ rfl ?_
        refine wSk 13 ⟨some 82, .indexAddr 27 (.tmp 81) (.const (.int .i64 0)), 0, "ref.go:262", #[⟨12, .data⟩, ⟨10, .guard⟩], some (10, true)⟩ rfl ?_
        refine wSk 14 ⟨some 83, .load 52 (.tmp 82), 52, "ref.go:262", #[⟨13, .data⟩, ⟨10, .guard⟩], some (10, true)⟩ rfl ?_
        refine wSk 15 ⟨some 84, .load 36 (.tmp 10), 36, "ref.go:262", #[⟨10, .guard⟩], some (10, true)⟩ rfl ?_
        refine wSk 16 ⟨some 85, .call ⟨.value (.func 18), #[.tmp 83, .tmp 84], #[52, 36]⟩, 4, "ref.go:262", #[⟨14, .data⟩, ⟨15, .data⟩, ⟨10, .chain⟩, ⟨10, .guard⟩], some (10, true)⟩ rfl ?_
        refine wSk 17 ⟨some 86, .pick (.tmp 79) (.tmp 85) (.const (.bool false)), 4, "ref.go:262", #[⟨10, .data⟩, ⟨16, .data⟩, ⟨5, .guard⟩], some (5, false)⟩ rfl ?_
        refine wTk 18 ⟨some 87, .pick (.tmp 74) (.const (.bool true)) (.tmp 86), 4, "ref.go:262", #[⟨5, .data⟩, ⟨17, .data⟩], none⟩ rfl ?_
        refine wpAnyH_done (by kernel_rfl) ?_ _
        clear hHeld
        have Hst : Hid (stayE f x = false) := by
         show _ = _
         unfold stayE
         rw [hib]
         rfl
        have HNx : Hid (EfM wb u4 a8 (l + 1) c8 L f (k + 1) true) := ((HM8.out).later Hc4.out).imp (fun acc hI => hI.drop Hlt.out.2 (by rw [Hx.out]; exact Hst.out) (fun h => by cases h))
        go_wp2_with fail
        go_roundw
        case rel => exact ⟨k + 1, true, a8, (l + 1), c8, Hlt.out.1, rfl, rfl, by simp, by have := hlk; omega, HNx⟩
        case measure => simp [intOf]; have := Hlt.out; omega
       | false =>
        refine wTk 5 ⟨some 74, .move (.tmp 73), 4, "ref.go:262", #[⟨4, .data⟩, ⟨4, .chain⟩], none⟩ rfl ?_
        refine wTk 6 ⟨some 75, .fieldAddr 29 (.tmp 3) 2, 0, "ref.go:262", #[⟨5, .guard⟩], some (5, false)⟩ rfl ?_
        refine wTk 7 ⟨some 76, .load 27 (.tmp 75), 27, "ref.go:262", #[⟨6, .data⟩, ⟨5, .guard⟩], some (5, false)⟩ rfl ?_
        refine wTk 8 ⟨some 77, .call ⟨.builtin .len, #[.tmp 76], #[27]⟩, 3, "ref.go:262", #[⟨7, .data⟩, ⟨5, .guard⟩], some (5, false)⟩ rfl ?_
        refine wTk 9 ⟨some 78, .binOp .eql 3 (.tmp 77) (.const (.int .i64 1)) 3, 4, "ref.go:262", #[⟨8, .data⟩, ⟨5, .guard⟩], some (5, false)⟩ rfl ?_
        refine wTk 10 ⟨some 79, .move (.tmp 78), 4, "ref.go:262", #[⟨9, .data⟩, ⟨5, .chain⟩, ⟨5, .guard⟩], some (5, false)⟩ rfl ?_
        refine wSk 11 ⟨some 80, .fieldAddr 29 (.tmp 3) 2, 0, "ref.go:262", #[⟨10, .guard⟩], some (10, true)⟩ rfl ?_
        refine wSk 12 ⟨some 81, .load 27 (.tmp 80), 27, "ref.go:262", #[⟨11, .data⟩, ⟨10, .guard⟩], some (10, true)⟩ rfl ?_
        refine wSk 13 ⟨some 82, .indexAddr 27 (.tmp 81) (.const (.int .i64 0)), 0, "ref.go:262", #[⟨12, .data⟩, ⟨10, .guard⟩], some (10, true)⟩ rfl ?_
        refine wSk 14 ⟨some 83, .load 52 (.tmp 82), 52, "ref.go:262", #[⟨13, .data⟩, ⟨10, .guard⟩], some (10, true)⟩ rfl ?_
        refine wSk 15 ⟨some 84, .load 36 (.tmp 10), 36, "ref.go:262", #[⟨10, .guard⟩], some (10, true)⟩ rfl ?_
        refine wSk 16 ⟨some 85, .call ⟨.value (.func 18), #[.tmp 83, .tmp 84], #[52, 36]⟩, 4, "ref.go:262", #[⟨14, .data⟩, ⟨15, .data⟩, ⟨10, .chain⟩, ⟨10, .guard⟩], some (10, true)⟩ rfl ?_
        refine wTk 17 ⟨some 86, .pick (.tmp 79) (.tmp 85) (.const (.bool false)), 4, "ref.go:262", #[⟨10, .data⟩, ⟨16, .data⟩, ⟨5, .guard⟩], some (5, false)⟩ rfl ?_
        refine wTk 18 ⟨some 87, .pick (.tmp 74) (.const (.bool true)) (.tmp 86), 4, "ref.go:262", #[⟨5, .data⟩, ⟨17, .data⟩], none⟩ rfl ?_
        refine wpAnyH_done (by kernel_rfl) ?_ _
        clear hHeld
        have Hst : Hid (stayE f x = true) := by
         show _ = _
         unfold stayE
         rw [hib, HFr.out]
         rfl
        obtain ⟨a9, c9, w9, hr9, hM9, -⟩ := ((HM8.out).later Hc4.out).app (k' := k + 1) (p' := true) x HSk.out (by have h5 := K.chk_len HC.out; have := HL.out; have := Hlt.out; omega) (fun acc hI => by
         have h := hI.keep HAs.out Hlt.out.2 (by rw [Hx.out]; exact Hst.out) (fun h => by cases h)
         rw [Hx.out] at h
         exact h)
        have HA9 : Hid ((Builtin.append_ #[22, 22] 22 #[.slice a8 (l + 1) c8, .slice (some ⟨u4.heap.size, 0, none⟩) 1 1]).run Tryz.prog (u4.alloc (.cells (K.EC x) 36)) = .ok (.slice a9 ((l + 1) + 1) c9) w9) := hr9
        have HM9 := hide hM9
        clear hr9 hM9
        have l9 := (HBox.out u4 Hz4.out).2
        go_wp2_with (at_builtin; refine seq_appM rfl (.tmp 88) (.tmp 90) rfl rfl rfl HA9.out ?_)
        clear l9
        go_roundw
        case rel => exact ⟨k + 1, true, a9, (l + 1) + 1, c9, Hlt.out.1, rfl, rfl, by simp, by have := Hl1.out; omega, HM9⟩
        case measure => simp [intOf]; have := Hlt.out; omega
     | false =>
      have Hxa : Hid (K.ahead (L.getD k K.en0) (f.es.getD 0 K.en0) = true) := by
       show _ = _
       rw [Hx.out, Ha.out]
       exact no_ahead hah HSd.out
      clear hah
      by_cases hrn : f.rn = 1
      ·have hrni : ((f.rn : Int) == 1) = true := by simp [hrn]
       have hr0 : (0 : Int) < (f.rn : Int) := by omega
       obtain ⟨rd, hro, R0⟩ := (HF.out.rs.below HB3.out).at 0 (by omega)
       have hrok := (HF.out.rs.below HB3.out).okAt 0 (by omega)
       obtain ⟨rr, Hr⟩ : ∃ rr, Hid (f.rs.getD 0 rc0 = rr) := ⟨_, rfl⟩
       rw [Hr.out] at R0 hrok
       rw [Nat.zero_mul, K.add_zero] at R0
       have HR0 := hide R0
       have HRk := hide hrok
       have Hro := hide hro
       have HFr : Hid (freeB f.rs x = !covB rr x) := by
        have h1 : f.rs = [rr] := by
         have h2 : f.rs.length = 1 := by rw [HAl.out.2]; exact hrn
         match hrs : f.rs with
         | [q] => have h3 := Hr.out; rw [hrs] at h3; rw [← h3]; rfl
         | [] => rw [hrs] at h2; simp at h2
         | _ :: _ :: _ => rw [hrs] at h2; simp at h2
        show _ = _
        unfold freeB
        rw [h1]
        simp
       have HS7 : Hid (∀ W, Below wb.heap.size wb W → W.heap[g7]? = w7.heap[g7]? → (ldP (.pointer (some ⟨G, 1, none⟩))).run Tryz.prog W = .ok (PV f.p) W ∧ W.cell? ⟨G, 3, none⟩ = some (.slice (some rd) f.rn f.rc) ∧ (K.ld26 (.pointer (some ⟨g7, 0, none⟩))).run Tryz.prog W = .ok (.agg (K.DC x)) W ∧ (K.ld28 (.pointer (some ⟨g7, 0, none⟩))).run Tryz.prog W = .ok (K.EV x) W ∧ (ldRe (.pointer (some rd))).run Tryz.prog W = .ok (ReV (mkR rr)) W) := fun W hW hg => ⟨run_ldP (HFw.out W hW).1.past, by rw [← Hro.out]; exact (HFw.out W hW).1.cs.2, (HBox.out W hg).1, (HBox.out W hg).2, run_laRe (HR0.out.on hW)⟩
       clear R0 hrok hro
       go_upto_region 17 with fail
       refine wp_region_held_drew (S := fun W => (ldP (.pointer (some ⟨G, 1, none⟩))).run Tryz.prog W = .ok (PV f.p) W ∧ W.cell? ⟨G, 3, none⟩ = some (.slice (some rd) f.rn f.rc) ∧ (K.ld26 (.pointer (some ⟨g7, 0, none⟩))).run Tryz.prog W = .ok (.agg (K.DC x)) W ∧ (K.ld28 (.pointer (some ⟨g7, 0, none⟩))).run Tryz.prog W = .ok (K.EV x) W ∧ (ldRe (.pointer (some rd))).run Tryz.prog W = .ok (ReV (mkR rr)) W) (by kernel_rfl) (HS7.out _ (Hb1.out.trans ((below_drew1 u1).mono Hb1.out.size)) Hz1.out) (fun hHeld => ?_)
       refine wTk 0 ⟨some 69, .fieldAddr 29 (.tmp 3) 1, 0, "ref.go:262", #[], none⟩ rfl ?_
       refine wTk 1 ⟨some 70, .load 26 (.tmp 69), 26, "ref.go:262", #[⟨0, .data⟩], none⟩ rfl ?_
       refine wTk 2 ⟨some 71, .fieldAddr 36 (.tmp 10) 0, 0, "ref.go:262", #[], none⟩ rfl ?_
       refine wTk 3 ⟨some 72, .load 34 (.tmp 71), 34, "ref.go:262", #[⟨2, .data⟩], none⟩ rfl ?_
       refine wpAnyH_ready (rs := [4]) (by kernel_rfl) (by simp) (.cons rfl (fun K hK => ?_) .nil)
       go_simp
       go_wp2_with fail
       refine (refHas_any f.p ⟨x.rep, x.num⟩ _ (HFw.out _ (Hb1.out.trans ((below_drew1 u1).mono Hb1.out.size))).2.p).mono ?_
       rintro e u4 ⟨b, rfl, hb, b4⟩
       have hib := inB_eq hb
       have Hc4 : Hid (Below u1.heap.size u1 u4) := (below_drew1 u1).trans b4
       have Hb4 : Hid (Below wb.heap.size wb u4) := Hb1.out.trans (Hc4.out.mono Hb1.out.size)
       have Hz4 : Hid (u4.heap[g7]? = w7.heap[g7]?) := (Hc4.out.block g7 (Nat.lt_of_lt_of_le Hg7.out.2 Hc1.out.size)).trans Hz1.out
       refine hK.out _ _ (HS7.out _ Hb4.out Hz4.out) (fun hHeld => ?_)
       clear hK K
       clear b4 hb
       cases b with
       | true =>
        refine wTk 5 ⟨some 74, .move (.tmp 73), 4, "ref.go:262", #[⟨4, .data⟩, ⟨4, .chain⟩], none⟩ rfl ?_
        refine wSk 6 ⟨some 75, .fieldAddr 29 (.tmp 3) 2, 0, "ref.go:262", #[⟨5, .guard⟩], some (5, false)⟩ rfl ?_
        refine wSk 7 ⟨some 76, .load 27 (.tmp 75), 27, "ref.go:262", #[⟨6, .data⟩, ⟨5, .guard⟩], some (5, false)⟩ rfl ?_
        refine wSk 8 ⟨some 77, .call ⟨.builtin .len, #[.tmp 76], #[27]⟩, 3, "ref.go:262", #[⟨7, .data⟩, ⟨5, .guard⟩], some (5, false)⟩ rfl ?_
        refine wSk 9 ⟨some 78, .binOp .eql 3 (.tmp 77) (.const (.int .i64 1)) 3, 4, "ref.go:262", #[⟨8, .data⟩, ⟨5, .guard⟩], some (5, false)⟩ rfl ?_
        refine wSk 10 ⟨some 79, .move (.tmp 78), 4, "ref.go:262", #[⟨9, .data⟩, ⟨5, .chain⟩, ⟨5, .guard⟩], some (5, false)⟩ rfl ?_
        refine wSk 11 ⟨some 80, .fieldAddr 29 (.tmp 3) 2, 0, "ref.go:262", #[⟨10, .guard⟩], some (10, true)⟩ rfl ?_
        refine wSk 12 ⟨some 81, .load 27 (.tmp 80), 27, "ref.go:262", #[⟨11, .data⟩, ⟨10, .guard⟩], some (10, true)⟩ rfl ?_
        refine wSk 13 ⟨some 82, .indexAddr 27 (.tmp 81) (.const (.int .i64 0)), 0, "ref.go:262", #[⟨12, .data⟩, ⟨10, .guard⟩], some (10, true)⟩ rfl ?_
        refine wSk 14 ⟨some 83, .load 52 (.tmp 82), 52, "ref.go:262", #[⟨13, .data⟩, ⟨10, .guard⟩], some (10, true)⟩ rfl ?_
        refine wSk 15 ⟨some 84, .load 36 (.tmp 10), 36, "ref.go:262", #[⟨10, .guard⟩], some (10, true)⟩ rfl ?_
        refine wSk 16 ⟨some 85, .call ⟨.value (.func 18), #[.tmp 83, .tmp 84], #[52, 36]⟩, 4, "ref.go:262", #[⟨14, .data⟩, ⟨15, .data⟩, ⟨10, .chain⟩, ⟨10, .guard⟩], some (10, true)⟩ rfl ?_
        refine wSk 17 ⟨some 86, .pick (.tmp 79) (.tmp 85) (.const (.bool false)), 4, "ref.go:262", #[⟨10, .data⟩, ⟨16, .data⟩, ⟨5, .guard⟩], some (5, false)⟩ rfl ?_
        refine wTk 18 ⟨some 87, .pick (.tmp 74) (.const (.bool true)) (.tmp 86), 4, "ref.go:262", #[⟨5, .data⟩, ⟨17, .data⟩], none⟩ rfl ?_
        refine wpAnyH_done (by kernel_rfl) ?_ _
        clear hHeld
        have Hst : Hid (stayE f x = false) := by
         show _ = _
         unfold stayE
         rw [hib]
         rfl
        have HNx : Hid (EfM wb u4 ap l c L f (k + 1) false) := ((HM1.out).later Hc4.out).imp (fun acc hI => hI.drop Hlt.out.2 (by rw [Hx.out]; exact Hst.out) (fun _ => Hxa.out))
        go_wp2_with fail
        go_roundw
        case rel => exact ⟨k + 1, false, ap, l, c, Hlt.out.1, rfl, rfl, by simp, by have := hlk; omega, HNx⟩
        case measure => simp [intOf]; have := Hlt.out; omega
       | false =>
        refine wTk 5 ⟨some 74, .move (.tmp 73), 4, "ref.go:262", #[⟨4, .data⟩, ⟨4, .chain⟩], none⟩ rfl ?_
        refine wTk 6 ⟨some 75, .fieldAddr 29 (.tmp 3) 2, 0, "ref.go:262", #[⟨5, .guard⟩], some (5, false)⟩ rfl ?_
        refine wTk 7 ⟨some 76, .load 27 (.tmp 75), 27, "ref.go:262", #[⟨6, .data⟩, ⟨5, .guard⟩], some (5, false)⟩ rfl ?_
        refine wTk 8 ⟨some 77, .call ⟨.builtin .len, #[.tmp 76], #[27]⟩, 3, "ref.go:262", #[⟨7, .data⟩, ⟨5, .guard⟩], some (5, false)⟩ rfl ?_
        refine wTk 9 ⟨some 78, .binOp .eql 3 (.tmp 77) (.const (.int .i64 1)) 3, 4, "ref.go:262", #[⟨8, .data⟩, ⟨5, .guard⟩], some (5, false)⟩ rfl ?_
        refine wTk 10 ⟨some 79, .move (.tmp 78), 4, "ref.go:262", #[⟨9, .data⟩, ⟨5, .chain⟩, ⟨5, .guard⟩], some (5, false)⟩ rfl ?_
        refine wTk 11 ⟨some 80, .fieldAddr 29 (.tmp 3) 2, 0, "ref.go:262", #[⟨10, .guard⟩], some (10, true)⟩ rfl ?_
        refine wTk 12 ⟨some 81, .load 27 (.tmp 80), 27, "ref.go:262", #[⟨11, .data⟩, ⟨10, .guard⟩], some (10, true)⟩ rfl ?_
        refine wTk 13 ⟨some 82, .indexAddr 27 (.tmp 81) (.const (.int .i64 0)), 0, "ref.go:262", #[⟨12, .data⟩, ⟨10, .guard⟩], some (10, true)⟩ rfl ?_
        refine wTk 14 ⟨some 83, .load 52 (.tmp 82), 52, "ref.go:262", #[⟨13, .data⟩, ⟨10, .guard⟩], some (10, true)⟩ rfl ?_
        refine wTk 15 ⟨some 84, .load 36 (.tmp 10), 36, "ref.go:262", #[⟨10, .guard⟩], some (10, true)⟩ rfl ?_
        refine wpAnyH_ready (rs := [16]) (by kernel_rfl) (by simp) (.cons rfl (fun K hK => ?_) .nil)
        go_simp
        go_wp2_with fail
        refine (covers08_any rr x _ (HRk.out.below Hb4.out)).mono ?_
        rintro e u5 ⟨rfl, b5⟩
        have Hc5 : Hid (Below u1.heap.size u1 u5) := Hc4.out.trans (b5.mono Hc4.out.size)
        have Hb5 : Hid (Below wb.heap.size wb u5) := Hb4.out.trans (b5.mono Hb4.out.size)
        have Hz5 : Hid (u5.heap[g7]? = w7.heap[g7]?) := (Hc5.out.block g7 (Nat.lt_of_lt_of_le Hg7.out.2 Hc1.out.size)).trans Hz1.out
        refine hK.out _ _ (HS7.out _ Hb5.out Hz5.out) (fun hHeld => ?_)
        clear hK K
        clear b5
        refine wTk 17 ⟨some 86, .pick (.tmp 79) (.tmp 85) (.const (.bool false)), 4, "ref.go:262", #[⟨10, .data⟩, ⟨16, .data⟩, ⟨5, .guard⟩], some (5, false)⟩ rfl ?_
        refine wTk 18 ⟨some 87, .pick (.tmp 74) (.const (.bool true)) (.tmp 86), 4, "ref.go:262", #[⟨5, .data⟩, ⟨17, .data⟩], none⟩ rfl ?_
        refine wpAnyH_done (by kernel_rfl) ?_ _
        clear hHeld
        cases hcv : covB rr x with
        | true =>
         have Hst : Hid (stayE f x = false) := by
          show _ = _
          unfold stayE
          rw [hib, HFr.out, hcv]
          rfl
         have HNx : Hid (EfM wb u5 ap l c L f (k + 1) false) := ((HM1.out).later Hc5.out).imp (fun acc hI => hI.drop Hlt.out.2 (by rw [Hx.out]; exact Hst.out) (fun _ => Hxa.out))
         go_wp2_with fail
         go_roundw
         case rel => exact ⟨k + 1, false, ap, l, c, Hlt.out.1, rfl, rfl, by simp, by have := hlk; omega, HNx⟩
         case measure => simp [intOf]; have := Hlt.out; omega
        | false =>
         have Hst : Hid (stayE f x = true) := by
          show _ = _
          unfold stayE
          rw [hib, HFr.out, hcv]
          rfl
         obtain ⟨a9, c9, w9, hr9, hM9, -⟩ := ((HM1.out).later Hc5.out).app (k' := k + 1) (p' := false) x HSk.out (by have h5 := K.chk_len HC.out; have := HL.out; have := Hlt.out; omega) (fun acc hI => by
          have h := hI.keep HAs.out Hlt.out.2 (by rw [Hx.out]; exact Hst.out) (fun _ => Hxa.out)
          rw [Hx.out] at h
          exact h)
         have HA9 : Hid ((Builtin.append_ #[22, 22] 22 #[.slice ap l c, .slice (some ⟨u5.heap.size, 0, none⟩) 1 1]).run Tryz.prog (u5.alloc (.cells (K.EC x) 36)) = .ok (.slice a9 (l + 1) c9) w9) := hr9
         have HM9 := hide hM9
         clear hr9 hM9
         have l9 := (HBox.out u5 Hz5.out).2
         go_wp2_with (at_builtin; refine seq_appM rfl (.tmp 88) (.tmp 90) rfl rfl rfl HA9.out ?_)
         clear l9
         go_roundw
         case rel => exact ⟨k + 1, false, a9, l + 1, c9, Hlt.out.1, rfl, rfl, by simp, by have := Hl1.out; omega, HM9⟩
         case measure => simp [intOf]; have := Hlt.out; omega
      ·have hrni : ((f.rn : Int) == 1) = false := by simp; omega
       have HFr : Hid (freeB f.rs x = true) := by
        have h1 : f.rs = [] := List.eq_nil_of_length_eq_zero (by rw [HAl.out.2]; omega)
        show _ = _
        unfold freeB
        rw [h1]
        rfl
       have HS7 : Hid (∀ W, Below wb.heap.size wb W → W.heap[g7]? = w7.heap[g7]? → (ldP (.pointer (some ⟨G, 1, none⟩))).run Tryz.prog W = .ok (PV f.p) W ∧ W.cell? ⟨G, 3, none⟩ = some (.slice f.ro f.rn f.rc) ∧ (K.ld26 (.pointer (some ⟨g7, 0, none⟩))).run Tryz.prog W = .ok (.agg (K.DC x)) W ∧ (K.ld28 (.pointer (some ⟨g7, 0, none⟩))).run Tryz.prog W = .ok (K.EV x) W) := fun W hW hg => ⟨run_ldP (HFw.out W hW).1.past, (HFw.out W hW).1.cs.2, (HBox.out W hg).1, (HBox.out W hg).2⟩
       go_upto_region 17 with fail
       refine wp_region_held_drew (S := fun W => (ldP (.pointer (some ⟨G, 1, none⟩))).run Tryz.prog W = .ok (PV f.p) W ∧ W.cell? ⟨G, 3, none⟩ = some (.slice f.ro f.rn f.rc) ∧ (K.ld26 (.pointer (some ⟨g7, 0, none⟩))).run Tryz.prog W = .ok (.agg (K.DC x)) W ∧ (K.ld28 (.pointer (some ⟨g7, 0, none⟩))).run Tryz.prog W = .ok (K.EV x) W) (by kernel_rfl) (HS7.out _ (Hb1.out.trans ((below_drew1 u1).mono Hb1.out.size)) Hz1.out) (fun hHeld => ?_)
       refine wTk 0 ⟨some 69, .fieldAddr 29 (.tmp 3) 1, 0, "ref.go:262", #[], none⟩ rfl ?_
       refine wTk 1 ⟨some 70, .load 26 (.tmp 69), 26, "ref.go:262", #[⟨0, .data⟩], none⟩ rfl ?_
       refine wTk 2 ⟨some 71, .fieldAddr 36 (.tmp 10) 0, 0, "ref.go:262", #[], none⟩ rfl ?_
       refine wTk 3 ⟨some 72, .load 34 (.tmp 71), 34, "ref.go:262", #[⟨2, .data⟩], none⟩ rfl ?_
       refine wpAnyH_ready (rs := [4]) (by kernel_rfl) (by simp) (.cons rfl (fun K hK => ?_) .nil)
       go_simp
       go_wp2_with fail
       refine (refHas_any f.p ⟨x.rep, x.num⟩ _ (HFw.out _ (Hb1.out.trans ((below_drew1 u1).mono Hb1.out.size))).2.p).mono ?_
       rintro e u4 ⟨b, rfl, hb, b4⟩
       have hib := inB_eq hb
       have Hc4 : Hid (Below u1.heap.size u1 u4) := (below_drew1 u1).trans b4
       have Hb4 : Hid (Below wb.heap.size wb u4) := Hb1.out.trans (Hc4.out.mono Hb1.out.size)
       have Hz4 : Hid (u4.heap[g7]? = w7.heap[g7]?) := (Hc4.out.block g7 (Nat.lt_of_lt_of_le Hg7.out.2 Hc1.out.size)).trans Hz1.out
       refine hK.out _ _ (HS7.out _ Hb4.out Hz4.out) (fun hHeld => ?_)
       clear hK K
       clear b4 hb
       cases b with
       | true =>
        refine wTk 5 ⟨some 74, .move (.tmp 73), 4, "ref.go:262", #[⟨4, .data⟩, ⟨4, .chain⟩], none⟩ rfl ?_
        refine wSk 6 ⟨some 75, .fieldAddr 29 (.tmp 3) 2, 0, "ref.go:262", #[⟨5, .guard⟩], some (5, false)⟩ rfl ?_
        refine wSk 7 ⟨some 76, .load 27 (.tmp 75), 27, "ref.go:262", #[⟨6, .data⟩, ⟨5, .guard⟩], some (5, false)⟩ rfl ?_
        refine wSk 8 ⟨some 77, .call ⟨.builtin .len, #[.tmp 76], #[27]⟩, 3, "ref.go:262", #[⟨7, .data⟩, ⟨5, .guard⟩], some (5, false)⟩ rfl ?_
        refine wSk 9 ⟨some 78, .binOp .eql 3 (.tmp 77) (.const (.int .i64 1)) 3, 4, "ref.go:262", #[⟨8, .data⟩, ⟨5, .guard⟩], some (5, false)⟩ rfl ?_
        refine wSk 10 ⟨some 79, .move (.tmp 78), 4, "ref.go:262", #[⟨9, .data⟩, ⟨5, .chain⟩, ⟨5, .guard⟩], some (5, false)⟩ rfl ?_
        refine wSk 11 ⟨some 80, .fieldAddr 29 (.tmp 3) 2, 0, "ref.go:262", #[⟨10, .guard⟩], some (10, true)⟩ rfl ?_
        refine wSk 12 ⟨some 81, .load 27 (.tmp 80), 27, "ref.go:262", #[⟨11, .data⟩, ⟨10, .guard⟩], some (10, true)⟩ rfl ?_
        refine wSk 13 ⟨some 82, .indexAddr 27 (.tmp 81) (.const (.int .i64 0)), 0, "ref.go:262", #[⟨12, .data⟩, ⟨10, .guard⟩], some (10, true)⟩ rfl ?_
        refine wSk 14 ⟨some 83, .load 52 (.tmp 82), 52, "ref.go:262", #[⟨13, .data⟩, ⟨10, .guard⟩], some (10, true)⟩ rfl ?_
        refine wSk 15 ⟨some 84, .load 36 (.tmp 10), 36, "ref.go:262", #[⟨10, .guard⟩], some (10, true)⟩ rfl ?_
        refine wSk 16 ⟨some 85, .call ⟨.value (.func 18), #[.tmp 83, .tmp 84], #[52, 36]⟩, 4, "ref.go:262", #[⟨14, .data⟩, ⟨15, .data⟩, ⟨10, .chain⟩, ⟨10, .guard⟩], some (10, true)⟩ rfl ?_
        refine wSk 17 ⟨some 86, .pick (.tmp 79) (.tmp 85) (.const (.bool false)), 4, "ref.go:262", #[⟨10, .data⟩, ⟨16, .data⟩, ⟨5, .guard⟩], some (5, false)⟩ rfl ?_
        refine wTk 18 ⟨some 87, .pick (.tmp 74) (.const (.bool true)) (.tmp 86), 4, "ref.go:262", #[⟨5, .data⟩, ⟨17, .data⟩], none⟩ rfl ?_
        refine wpAnyH_done (by kernel_rfl) ?_ _
        clear hHeld
        have Hst : Hid (stayE f x = false) := by
         show _ = _
         unfold stayE
         rw [hib]
         rfl
        have HNx : Hid (EfM wb u4 ap l c L f (k + 1) false) := ((HM1.out).later Hc4.out).imp (fun acc hI => hI.drop Hlt.out.2 (by rw [Hx.out]; exact Hst.out) (fun _ => Hxa.out))
        go_wp2_with fail
        go_roundw
        case rel => exact ⟨k + 1, false, ap, l, c, Hlt.out.1, rfl, rfl, by simp, by have := hlk; omega, HNx⟩
        case measure => simp [intOf]; have := Hlt.out; omega
       | false =>
        refine wTk 5 ⟨some 74, .move (.tmp 73), 4, "ref.go:262", #[⟨4, .data⟩, ⟨4, .chain⟩], none⟩ rfl ?_
        refine wTk 6 ⟨some 75, .fieldAddr 29 (.tmp 3) 2, 0, "ref.go:262", #[⟨5, .guard⟩], some (5, false)⟩ rfl ?_
        refine wTk 7 ⟨some 76, .load 27 (.tmp 75), 27, "ref.go:262", #[⟨6, .data⟩, ⟨5, .guard⟩], some (5, false)⟩ rfl ?_
        refine wTk 8 ⟨some 77, .call ⟨.builtin .len, #[.tmp 76], #[27]⟩, 3, "ref.go:262", #[⟨7, .data⟩, ⟨5, .guard⟩], some (5, false)⟩ rfl ?_
        refine wTk 9 ⟨some 78, .binOp .eql 3 (.tmp 77) (.const (.int .i64 1)) 3, 4, "ref.go:262", #[⟨8, .data⟩, ⟨5, .guard⟩], some (5, false)⟩ rfl ?_
        refine wTk 10 ⟨some 79, .move (.tmp 78), 4, "ref.go:262", #[⟨9, .data⟩, ⟨5, .chain⟩, ⟨5, .guard⟩], some (5, false)⟩ rfl ?_
        refine wSk 11 ⟨some 80, .fieldAddr 29 (.tmp 3) 2, 0, "ref.go:262", #[⟨10, .guard⟩], some (10, true)⟩ rfl ?_
        refine wSk 12 ⟨some 81, .load 27 (.tmp 80), 27, "ref.go:262", #[⟨11, .data⟩, ⟨10, .guard⟩], some (10, true)⟩ rfl ?_
        refine wSk 13 ⟨some 82, .indexAddr 27 (.tmp 81) (.const (.int .i64 0)), 0, "ref.go:262", #[⟨12, .data⟩, ⟨10, .guard⟩], some (10, true)⟩ rfl ?_
        refine wSk 14 ⟨some 83, .load 52 (.tmp 82), 52, "ref.go:262", #[⟨13, .data⟩, ⟨10, .guard⟩], some (10, true)⟩ rfl ?_
        refine wSk 15 ⟨some 84, .load 36 (.tmp 10), 36, "ref.go:262", #[⟨10, .guard⟩], some (10, true)⟩ rfl ?_
        refine wSk 16 ⟨some 85, .call ⟨.value (.func 18), #[.tmp 83, .tmp 84], #[52, 36]⟩, 4, "ref.go:262", #[⟨14, .data⟩, ⟨15, .data⟩, ⟨10, .chain⟩, ⟨10, .guard⟩], some (10, true)⟩ rfl ?_
        refine wTk 17 ⟨some 86, .pick (.tmp 79) (.tmp 85) (.const (.bool false)), 4, "ref.go:262", #[⟨10, .data⟩, ⟨16, .data⟩, ⟨5, .guard⟩], some (5, false)⟩ rfl ?_
        refine wTk 18 ⟨some 87, .pick (.tmp 74) (.const (.bool true)) (.tmp 86), 4, "ref.go:262", #[⟨5, .data⟩, ⟨17, .data⟩], none⟩ rfl ?_
        refine wpAnyH_done (by kernel_rfl) ?_ _
        clear hHeld
        have Hst : Hid (stayE f x = true) := by
         show _ = _
         unfold stayE
         rw [hib, HFr.out]
         rfl
        obtain ⟨a9, c9, w9, hr9, hM9, -⟩ := ((HM1.out).later Hc4.out).app (k' := k + 1) (p' := false) x HSk.out (by have h5 := K.chk_len HC.out; have := HL.out; have := Hlt.out; omega) (fun acc hI => by
         have h := hI.keep HAs.out Hlt.out.2 (by rw [Hx.out]; exact Hst.out) (fun _ => Hxa.out)
         rw [Hx.out] at h
         exact h)
        have HA9 : Hid ((Builtin.append_ #[22, 22] 22 #[.slice ap l c, .slice (some ⟨u4.heap.size, 0, none⟩) 1 1]).run Tryz.prog (u4.alloc (.cells (K.EC x) 36)) = .ok (.slice a9 (l + 1) c9) w9) := hr9
        have HM9 := hide hM9
        clear hr9 hM9
        have l9 := (HBox.out u4 Hz4.out).2
        go_wp2_with (at_builtin; refine seq_appM rfl (.tmp 88) (.tmp 90) rfl rfl rfl HA9.out ?_)
        clear l9
        go_roundw
        case rel => exact ⟨k + 1, false, a9, l + 1, c9, Hlt.out.1, rfl, rfl, by simp, by have := Hl1.out; omega, HM9⟩
        case measure => simp [intOf]; have := Hlt.out; omega
  ·have hlti : ¬ (k : Int) < (n : Int) := by omega
   obtain rfl : k = n := by omega
   have HBr := hide (HB3.out.trans (HI.out.below.mono HB3.out.size))
   cases p with
   | true =>
    have HE : Hid (EfA w wr (.returned (.tuple #[.slice ap l c, .int .i64 0])) L f) := by
     obtain ⟨acc, h1, O, hI⟩ := HI.out
     rw [← HL.out] at hI
     obtain ⟨h2, h3⟩ := hI.done
     have hsrc := (O.src (fun e he => by
      rcases (h3 e).1 he with ⟨h4, -⟩ | h4
      ·exact HS.out.2.2.2.1 e h4
      ·exact HF.out.es.2.2.2.1 e h4) (by have h5 := K.chk_len HC.out; have := HL.out; omega)).1
     rw [h1] at hsrc
     exact ⟨ap, l, c, acc, 0, rfl, hsrc, HBK.out.trans (HBr.out.mono HBK.out.size), .inr (.inr (.inr ⟨HC.out, HEv.out, h2, rfl, hI.asc, h3⟩))⟩
    clear hlt hk
    go_wp2_with fail
    go_ret2
    exact HE.out
   | false =>
    have han : f.an = 1 := by
     obtain ⟨acc, -, -, hI⟩ := HI.out
     have h2 := congrArg List.length (hI.lo rfl).1
     rw [HAl.out.1] at h2
     simpa using h2
    have h01 : (0 : Int) < (f.an : Int) := by omega
    obtain ⟨fad, hfo, A1⟩ := (HF.out.es.below HBr.out).at 0 (by omega)
    obtain ⟨a, Ha⟩ : ∃ a, Hid (f.es.getD 0 K.en0 = a) := ⟨_, rfl⟩
    have hask := (HF.out.es.below HBr.out).sku 0 (by omega)
    rw [Ha.out] at A1 hask
    rw [Nat.zero_mul, K.add_zero] at A1
    have cs := (HX.out.below HBr.out).cs.1
    rw [hfo] at cs
    have la := K.run_ld28 A1
    have hlb : l < 3518437208883 := by have h5 := K.chk_len HC.out; have := HL.out; omega
    obtain ⟨a', c', w', hr, hM, -⟩ := HI.out.app (k' := k) (p' := true) a hask hlb (fun acc hI => by
     rw [← HL.out] at hI ⊢
     have h := hI.last
     rw [Ha.out] at h
     exact h)
    have HAA : Hid ((Builtin.append_ #[22, 22] 22 #[.slice ap l c, .slice (some ⟨wr.heap.size, 0, none⟩) 1 1]).run Tryz.prog (wr.alloc (.cells (K.EC a) 36)) = .ok (.slice a' (l + 1) c') w') := hr
    have HE : Hid (EfA w w' (.returned (.tuple #[.slice a' (l + 1) c', .int .i64 0])) L f) := by
     obtain ⟨acc, h1, O, hI⟩ := hM
     rw [← HL.out] at hI
     obtain ⟨h2, h3⟩ := hI.done
     have hsrc := (O.src (fun e he => by
      rcases (h3 e).1 he with ⟨h4, -⟩ | h4
      ·exact HS.out.2.2.2.1 e h4
      ·exact HF.out.es.2.2.2.1 e h4) (by omega)).1
     rw [h1] at hsrc
     exact ⟨a', l + 1, c', acc, 0, rfl, hsrc, HBK.out.trans ((HB3.out.trans (O.below.mono HB3.out.size)).mono HBK.out.size), .inr (.inr (.inr ⟨HC.out, HEv.out, h2, rfl, hI.asc, h3⟩))⟩
    clear hr hM A1 hfo hlt hk
    go_wp2_with (at_builtin; refine seq_appM rfl (.tmp 94) (.tmp 99) rfl rfl rfl HAA.out ?_)
    go_ret2
    exact HE.out
end Go.Proofs.YtcnciccljblkfaaGreat

