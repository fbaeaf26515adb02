/- BCv LSame BSm -/
import Derived.Test.YtfpmijfcemopoaaGreatTk
import Derived.Test.YtfpmijfcemopoaaGreatKb18
import Derived.Test.YtfpmijfcemopoaaGreatKb23
import Derived.Test.YtfpmijfcemopoaaGreatKb26
import Derived.Deep.CutRange
import Derived.Test.YtfpmijfcemopoaaGreatKb17
import Derived.Laws.StructEq
import Derived.Test.YtfpmijfcemopoaaGreatKb11
namespace Go.Proofs.YtfpmijfcemopoaaGreat
open Go.RowKit
attribute [local go_sem ↓] ldP_eq stP_eq ldRe_eq stRe_eq ldD_eq stD_eq K.ld28_eq K.st28_eq
attribute [local go_sem] cells_PV PC_size cells_ReV ReC_size K.cells_EV K.EC_size zero_ReC
variable {w w' w2 W W' : World} {g : Nat}
def covB (r : Rc) (e : K.En) : Bool := (decide (r.s.size = 0) || (r.s.toList == e.sku.toList)) && inB r.p.P e
theorem covB_sku {r : Rc} {e : K.En} {b : Bool} (h : (decide (r.s.size = 0) || (r.s.toList == e.sku.toList)) = true) (hb : BIf b (dotIn r.p.P ⟨e.rep, e.num⟩)) : covB r e = b := by
 unfold covB
 rw [h, Bool.true_and]
 have h1 := inB_iff r.p.P e
 have h2 := hb.out
 cases hx : inB r.p.P e <;> cases b
 ·rfl
 ·rw [hx] at h1; exact absurd (h1.2 (h2.1 rfl)) (by simp)
 ·rw [hx] at h1; have := h2.2 (h1.1 rfl); cases this
 ·rfl
theorem covB_not {r : Rc} {e : K.En} (h0 : ¬ r.s.size = 0) (h : (r.s.toList == e.sku.toList) = false) : covB r e = false := by
 unfold covB
 rw [h, decide_eq_false h0]
 rfl
theorem take_snocR (L : List Rc) (k : Nat) (h : k < L.length) : L.take (k + 1) = L.take k ++ [L.getD k rc0] := by
 rw [List.take_succ_eq_append_getElem h]; simp [List.getD, h]
set_option maxRecDepth 100000 in
theorem covers_any (r : Rc) (e : K.En) (w : World) (hR : RcOk w r) : Calls Tryz.prog 24 #[ReV (mkR r), K.EV e] w fun x w' => x = .returned (.bool (covB r e)) ∧ Below w.heap.size w w' := by
 have b1 := below_new w (.cells (ReC (mkR r)) 39)
 have b2 := below_new (w.alloc (.cells (ReC (mkR r)) 39)) (.cells (K.EC e) 49)
 have X2 := K.box_new (w.alloc (.cells (ReC (mkR r)) 39)) 49 e
 rw [World.size_alloc] at X2
 have HXA := hide ((ReBox_new w (mkR r)).below b2)
 have HXB := hide X2
 have HBK := hide (b1.trans (b2.mono b1.size))
 have HS := hide (hR.1.below HBK.out)
 clear b1 b2 X2 hR
 obtain ⟨wk, hwk⟩ : ∃ wk, (w.alloc (.cells (ReC (mkR r)) 39)).alloc (.cells (K.EC e) 49) = wk := ⟨_, rfl⟩
 obtain ⟨G, hG⟩ : ∃ G, w.heap.size = G := ⟨_, rfl⟩
 rw [hwk] at HXA HXB HBK HS
 rw [hG] at HXA HXB
 have c0 := HXA.out.sk
 have c2 : wk.cell? ⟨G + 1, 2, none⟩ = some (.string e.sku) := HXB.out.at.c2
 have l1 := run_ldP HXA.out.past
 have l2 := run_ldD (enc_dot HXB.out)
 have key : Hid (Calls Tryz.prog 37 #[PV r.p, RV ⟨e.rep, e.num⟩] wk fun x w' => GivB wk w' x (dotIn r.p.P ⟨e.rep, e.num⟩)) := pastHas_any r.p ⟨e.rep, e.num⟩ wk HS.out
 by_cases h0 : r.s.size = 0
 ·have e0 := K.empty_yes r.s h0
  have HC : Hid ((decide (r.s.size = 0) || (r.s.toList == e.sku.toList)) = true) := by show _ = _; rw [decide_eq_true h0, Bool.true_or]
  clear h0
  go_enter Tryz.func24, Tryz.ntmps24
  go_wp2_with fail
  clear hwk
  refine key.out.mono ?_
  rintro x w3 ⟨b, rfl, hb, b3⟩
  have HE : Hid (b = covB r e ∧ Below w.heap.size w w3) := ⟨(covB_sku HC.out hb).symm, HBK.out.trans (b3.mono HBK.out.size)⟩
  clear b3 hb l1 l2 c0 c2
  go_wp2_with fail
  go_ret
  exact ⟨by rw [HE.out.1]; rfl, HE.out.2⟩
 ·have e0 := K.empty_no r.s h0
  cases hs : (r.s.toList == e.sku.toList) with
  | true =>
   have HC : Hid ((decide (r.s.size = 0) || (r.s.toList == e.sku.toList)) = true) := by show _ = _; rw [hs, Bool.or_true]
   clear h0
   go_enter Tryz.func24, Tryz.ntmps24
   go_wp2_with fail
   clear hwk
   refine key.out.mono ?_
   rintro x w3 ⟨b, rfl, hb, b3⟩
   have HE : Hid (b = covB r e ∧ Below w.heap.size w w3) := ⟨(covB_sku HC.out hb).symm, HBK.out.trans (b3.mono HBK.out.size)⟩
   clear b3 hb l1 l2 c0 c2
   go_wp2_with fail
   go_ret
   exact ⟨by rw [HE.out.1]; rfl, HE.out.2⟩
  | false =>
   have HE : Hid (false = covB r e) := (covB_not h0 hs).symm
   clear h0 key
   go_enter Tryz.func24, Tryz.ntmps24
   go_wp2_with fail
   go_ret
   exact ⟨by rw [← HE.out]; rfl, HBK.out⟩
set_option maxRecDepth 100000 in
theorem refCovers_any (r : Rc) (e : K.En) (w : World) (hR : RcOk w r) : Calls Tryz.prog 25 #[ReV (mkR r), K.EV e] w fun x w' => x = .returned (.bool (covB r e)) ∧ Below w.heap.size w w' := by
 have b1 := below_new w (.cells (ReC (mkR r)) 39)
 have b2 := below_new (w.alloc (.cells (ReC (mkR r)) 39)) (.cells (K.EC e) 49)
 have X2 := K.box_new (w.alloc (.cells (ReC (mkR r)) 39)) 49 e
 rw [World.size_alloc] at X2
 have HXA := hide ((ReBox_new w (mkR r)).below b2)
 have HXB := hide X2
 have HBK := hide (b1.trans (b2.mono b1.size))
 have HS := hide (hR.1.below HBK.out)
 clear b1 b2 X2 hR
 obtain ⟨wk, hwk⟩ : ∃ wk, (w.alloc (.cells (ReC (mkR r)) 39)).alloc (.cells (K.EC e) 49) = wk := ⟨_, rfl⟩
 obtain ⟨G, hG⟩ : ∃ G, w.heap.size = G := ⟨_, rfl⟩
 rw [hwk] at HXA HXB HBK HS
 rw [hG] at HXA HXB
 have c0 := HXA.out.sk
 have c2 : wk.cell? ⟨G + 1, 2, none⟩ = some (.string e.sku) := HXB.out.at.c2
 have l1 := run_ldP HXA.out.past
 have l2 := run_ldD (enc_dot HXB.out)
 have key : Hid (Calls Tryz.prog 63 #[PV r.p, RV ⟨e.rep, e.num⟩] wk fun x w' => GivB wk w' x (dotIn r.p.P ⟨e.rep, e.num⟩)) := refHas_any r.p ⟨e.rep, e.num⟩ wk HS.out
 by_cases h0 : r.s.size = 0
 ·have e0 := K.empty_yes r.s h0
  have HC : Hid ((decide (r.s.size = 0) || (r.s.toList == e.sku.toList)) = true) := by show _ = _; rw [decide_eq_true h0, Bool.true_or]
  clear h0
  go_enter Tryz.func25, Tryz.ntmps25
  go_wp2_with fail
  clear hwk
  refine key.out.mono ?_
  rintro x w3 ⟨b, rfl, hb, b3⟩
  have HE : Hid (b = covB r e ∧ Below w.heap.size w w3) := ⟨(covB_sku HC.out hb).symm, HBK.out.trans (b3.mono HBK.out.size)⟩
  clear b3 hb l1 l2 c0 c2
  go_wp2_with fail
  go_ret
  exact ⟨by rw [HE.out.1]; rfl, HE.out.2⟩
 ·have e0 := K.empty_no r.s h0
  cases hs : (r.s.toList == e.sku.toList) with
  | true =>
   have HC : Hid ((decide (r.s.size = 0) || (r.s.toList == e.sku.toList)) = true) := by show _ = _; rw [hs, Bool.or_true]
   clear h0
   go_enter Tryz.func25, Tryz.ntmps25
   go_wp2_with fail
   clear hwk
   refine key.out.mono ?_
   rintro x w3 ⟨b, rfl, hb, b3⟩
   have HE : Hid (b = covB r e ∧ Below w.heap.size w w3) := ⟨(covB_sku HC.out hb).symm, HBK.out.trans (b3.mono HBK.out.size)⟩
   clear b3 hb l1 l2 c0 c2
   go_wp2_with fail
   go_ret
   exact ⟨by rw [HE.out.1]; rfl, HE.out.2⟩
  | false =>
   have HE : Hid (false = covB r e) := (covB_not h0 hs).symm
   clear h0 key
   go_enter Tryz.func25, Tryz.ntmps25
   go_wp2_with fail
   go_ret
   exact ⟨by rw [← HE.out]; rfl, HBK.out⟩
set_option maxRecDepth 100000 in
set_option maxHeartbeats 1600000 in
theorem keepBars_any (ao : Option Addr) (n cap : Nat) (L : List Rc) (e : K.En) (w : World) (hS : RcS w ao n cap L) :
  Calls Tryz.prog 22 #[.slice ao n cap, K.EV e] w fun x w' => x = .returned (.int .i64 (L.countP (fun r => covB r e))) ∧ Below w.heap.size w w' := by
 have b1 := below_new w (.cells (K.EC e) 49)
 have x1 := K.box_new w 49 e
 obtain ⟨w1, hw1⟩ : ∃ w1, w.alloc (.cells (K.EC e) 49) = w1 := ⟨_, rfl⟩
 obtain ⟨g1, hg1⟩ : ∃ g1, w.heap.size = g1 := ⟨_, rfl⟩
 rw [hw1] at b1 x1
 rw [hg1] at x1
 have HB := hide b1
 have HX := hide x1
 have HS := hide (hS.below b1)
 have hn := hS.big
 have HL : Hid (L.length = n) := hS.len
 clear b1 x1 hS
 go_enter Tryz.func22, Tryz.ntmps22
 go_wp2_with fail
 clear hw1 hg1
 go_loopw [5, 10] (fun c i wr => ∃ (k m : Nat), k ≤ n ∧ m ≤ k ∧ c = .int .i64 (m : Int) ∧ i = .int .i64 (k : Int) ∧ Hid ((L.take k).countP (fun r => covB r e) = m) ∧ Hid (Below w1.heap.size w1 wr)) (fun _ i _ => n - (intOf i).toNat)
 case atStart => exact ⟨0, 0, Nat.zero_le _, Nat.le_refl _, rfl, rfl, rfl, Below.refl _ _⟩
 case round =>
  obtain ⟨k, m, hk, hm, rfl, rfl, HM, HBr⟩ := hrel
  rename World => wr
  by_cases hlt : k < n
  ·have hlti : (k : Int) < (n : Int) := by omega
   obtain ⟨ad, hao, A0⟩ := (HS.out.below HBr.out).at k hlt
   subst hao
   have hld := run_laRe A0
   have HO := hide ((HS.out.below HBr.out).okAt k hlt)
   have HT := hide (take_snocR L k (by rw [HL.out]; exact hlt))
   obtain ⟨r, Hr⟩ : ∃ r, Hid (L.getD k rc0 = r) := ⟨_, rfl⟩
   rw [Hr.out] at hld HO HT
   obtain ⟨gr, hgr⟩ : ∃ g, wr.heap.size = g := ⟨_, rfl⟩
   obtain ⟨wa, hst, Xa, ba, sa⟩ := madeRe wr (mkR r) gr hgr
   have HXa := hide Xa
   have l1 := run_ldRe HXa.out
   have l2 := K.run_ld28 ((HX.out.below HBr.out).below ba).at
   have HOa := hide (HO.out.below ba)
   have HBa := hide (HBr.out.trans (ba.mono HBr.out.size))
   have Hlt := hide hlt
   clear A0 Xa ba sa hlt
   go_wp2_with fail
   clear hst hgr hld
   refine (covers_any r e _ HOa.out).mono ?_
   rintro x w3 ⟨rfl, b3⟩
   have HB3 := hide (HBa.out.trans (b3.mono HBa.out.size))
   clear b3 l1 l2
   cases hc : covB r e with
   | true =>
    have HN : Hid ((L.take (k + 1)).countP (fun r => covB r e) = m + 1) := by show _ = _; rw [HT.out, List.countP_append, HM.out]; simp [hc]
    clear hc
    go_wp2_with fail
    go_roundw
    case rel => exact ⟨k + 1, m + 1, Hlt.out, by omega, by go_num, by go_num, HN, HB3⟩
    case measure => simp [intOf]; have := Hlt.out; omega
   | false =>
    have HN : Hid ((L.take (k + 1)).countP (fun r => covB r e) = m) := by show _ = _; rw [HT.out, List.countP_append, HM.out]; simp [hc]
    clear hc
    go_wp2_with fail
    go_roundw
    case rel => exact ⟨k + 1, m, Hlt.out, by omega, rfl, by go_num, HN, HB3⟩
    case measure => simp [intOf]; have := Hlt.out; omega
  ·have hlti : ¬ (k : Int) < (n : Int) := by omega
   have HE : Hid ((m : Int) = (L.countP (fun r => covB r e) : Nat)) := by
    show _ = _
    rw [← HM.out, List.take_of_length_le (by have := HL.out; omega)]
   have HBE := hide (HB.out.trans (HBr.out.mono HB.out.size))
   clear hlt
   go_wp2_with fail
   go_ret
   exact ⟨by rw [← HE.out]; rfl, HBE.out⟩
set_option maxRecDepth 100000 in
set_option maxHeartbeats 1600000 in
theorem refBars_any (ao : Option Addr) (n cap : Nat) (L : List Rc) (e : K.En) (w : World) (hS : RcS w ao n cap L) :
  Calls Tryz.prog 23 #[.slice ao n cap, K.EV e] w fun x w' => x = .returned (.int .i64 (L.countP (fun r => covB r e))) ∧ Below w.heap.size w w' := by
 have b1 := below_new w (.cells (K.EC e) 49)
 have x1 := K.box_new w 49 e
 obtain ⟨w1, hw1⟩ : ∃ w1, w.alloc (.cells (K.EC e) 49) = w1 := ⟨_, rfl⟩
 obtain ⟨g1, hg1⟩ : ∃ g1, w.heap.size = g1 := ⟨_, rfl⟩
 rw [hw1] at b1 x1
 rw [hg1] at x1
 have HB := hide b1
 have HX := hide x1
 have HS := hide (hS.below b1)
 have hn := hS.big
 have HL : Hid (L.length = n) := hS.len
 clear b1 x1 hS
 go_enter Tryz.func23, Tryz.ntmps23
 go_wp2_with fail
 clear hw1 hg1
 go_loopw [5, 6] (fun c i wr => ∃ (k m : Nat), k ≤ n ∧ m ≤ k ∧ c = .int .i64 (m : Int) ∧ i = .int .i64 (k : Int) ∧ Hid ((L.take k).countP (fun r => covB r e) = m) ∧ Hid (Below w1.heap.size w1 wr)) (fun _ i _ => n - (intOf i).toNat)
 case atStart => exact ⟨0, 0, Nat.zero_le _, Nat.le_refl _, rfl, rfl, rfl, Below.refl _ _⟩
 case round =>
  obtain ⟨k, m, hk, hm, rfl, rfl, HM, HBr⟩ := hrel
  rename World => wr
  by_cases hlt : k < n
  ·have hlti : (k : Int) < (n : Int) := by omega
   obtain ⟨ad, hao, A0⟩ := (HS.out.below HBr.out).at k hlt
   subst hao
   have HO := hide ((HS.out.below HBr.out).okAt k hlt)
   have HT := hide (take_snocR L k (by rw [HL.out]; exact hlt))
   obtain ⟨r, Hr⟩ : ∃ r, Hid (L.getD k rc0 = r) := ⟨_, rfl⟩
   rw [Hr.out] at HO HT A0
   have HA0 := hide A0
   have HSt : Hid (∀ W, Below wr.heap.size wr W → (ldRe (.pointer (some (ad.add (k * 3))))).run Tryz.prog W = .ok (ReV (mkR r)) W ∧ (K.ld28 (.pointer (some ⟨g1, 0, none⟩))).run Tryz.prog W = .ok (K.EV e) W) := fun W hW =>
    ⟨run_laRe (HA0.out.on hW), K.run_ld28 ((HX.out.below HBr.out).below hW).at⟩
   have Hlt := hide hlt
   clear A0 hlt hk
   go_upto_region 5 with fail
   refine wp_region_held_drew (S := fun W => (ldRe (.pointer (some (ad.add (k * 3))))).run Tryz.prog W = .ok (ReV (mkR r)) W ∧ (K.ld28 (.pointer (some ⟨g1, 0, none⟩))).run Tryz.prog W = .ok (K.EV e) W) (by kernel_rfl) (HSt.out _ (below_drew1 wr)) (fun hHeld => ?_)
   refine wTk 0 ⟨some 13, .move (.tmp 0), 22, "ref.go:134", #[], none⟩ rfl ?_
   refine wTk 1 ⟨some 14, .move (.tmp 6), 3, "ref.go:134", #[], none⟩ rfl ?_
   refine wTk 2 ⟨some 15, .indexAddr 22 (.tmp 13) (.tmp 14), 0, "ref.go:134", #[⟨0, .data⟩, ⟨1, .data⟩], none⟩ rfl ?_
   refine wTk 3 ⟨some 16, .load 39 (.tmp 15), 39, "ref.go:134", #[⟨2, .data⟩], none⟩ rfl ?_
   refine wTk 4 ⟨some 17, .load 49 (.tmp 3), 49, "ref.go:134", #[], none⟩ rfl ?_
   refine wpAnyH_ready (rs := [5]) (by kernel_rfl) (by simp) (.cons rfl (fun K hK => ?_) .nil)
   go_simp
   go_wp2_with fail
   refine (refCovers_any r e _ (HO.out.below (below_drew1 wr))).mono ?_
   rintro x w6 ⟨rfl, b6⟩
   have hB6 : Below wr.heap.size wr w6 := (below_drew1 wr).trans b6
   have HB3 := hide (HBr.out.trans (hB6.mono HBr.out.size))
   refine hK.out _ _ (HSt.out _ hB6) (fun hHeld => ?_)
   clear hK K b6 hB6
   refine wpAnyH_done (by kernel_rfl) ?_ _
   clear hHeld
   cases hc : covB r e with
   | true =>
    have HN : Hid ((L.take (k + 1)).countP (fun r => covB r e) = m + 1) := by show _ = _; rw [HT.out, List.countP_append, HM.out]; simp [hc]
    clear hc
    go_wp2_with fail
    go_roundw
    case rel => exact ⟨k + 1, m + 1, Hlt.out, by omega, by go_num, by go_num, HN, HB3⟩
    case measure => simp [intOf]; have := Hlt.out; omega
   | false =>
    have HN : Hid ((L.take (k + 1)).countP (fun r => covB r e) = m) := by show _ = _; rw [HT.out, List.countP_append, HM.out]; simp [hc]
    clear hc
    go_wp2_with fail
    go_roundw
    case rel => exact ⟨k + 1, m, Hlt.out, by omega, rfl, by go_num, HN, HB3⟩
    case measure => simp [intOf]; have := Hlt.out; omega
  ·have hlti : ¬ (k : Int) < (n : Int) := by omega
   have HE : Hid ((m : Int) = (L.countP (fun r => covB r e) : Nat)) := by
    show _ = _
    rw [← HM.out, List.take_of_length_le (by have := HL.out; omega)]
   have HBE := hide (HB.out.trans (HBr.out.mono HB.out.size))
   clear hlt
   go_wp2_with fail
   go_ret
   exact ⟨by rw [← HE.out]; rfl, HBE.out⟩
end Go.Proofs.YtfpmijfcemopoaaGreat
namespace Go.Proofs.YtfpmijfcemopoaaGreat.K
open Go.RowKit
attribute [local go_sem ↓] ld28_eq st28_eq
attribute [local go_sem] zero_EC cells_EV
def eqE (x y : En) : Bool := x.rep == y.rep && x.num == y.num && x.sku.toList == y.sku.toList && x.qty == y.qty
theorem run_eq26 (a b c d : Int) (w : World) : (Op.equalIn 9999 47 (.agg #[.int .i64 a, .int .i64 b]) (.agg #[.int .i64 c, .int .i64 d])).run Tryz.prog w = .ok (a == c && b == d) w := by
 have u3 := Tryz.underlying3
 have a3 := Tryz.isAgg3
 have z3 := Tryz.sizeOf3
 have hS : Tryz.prog.underlying 47 = some (.struct (Tryz.prog.fieldsOf 47)) := by kernel_rfl
 have hp : Tryz.prog.stoodInHeld 47 = false := by kernel_rfl
 rw [show (9999 : Nat) = 9998 + 1 from rfl, run_equalIn_struct w 9998 47 _ _ hS hp]
 simp only [Program.fieldsOf, Tryz.underlying47]
 go_simp
 by_cases h1 : a = c <;> by_cases h2 : b = d <;> simp [h1, h2]
theorem run_eq28 (x y : En) (w : World) : (Op.equalIn 10000 49 (.agg (EC x)) (.agg (EC y))).run Tryz.prog w = .ok (eqE x y) w := by
 have u3 := Tryz.underlying3
 have a3 := Tryz.isAgg3
 have z3 := Tryz.sizeOf3
 have u9 := Tryz.underlying9
 have a9 := Tryz.isAgg9
 have z9 := Tryz.sizeOf9
 have a26 := Tryz.isAgg47
 have z26 := Tryz.sizeOf47
 have hS : Tryz.prog.underlying 49 = some (.struct (Tryz.prog.fieldsOf 49)) := by kernel_rfl
 have hp : Tryz.prog.stoodInHeld 49 = false := by kernel_rfl
 obtain ⟨r, m, s, q⟩ := x
 obtain ⟨r', m', s', q'⟩ := y
 have h26 := run_eq26 r m r' m'
 show (Op.equalIn 10000 49 (.agg #[.int .i64 r, .int .i64 m, .string s, .int .i64 q]) (.agg #[.int .i64 r', .int .i64 m', .string s', .int .i64 q'])).run Tryz.prog w = .ok (r == r' && m == m' && s.toList == s'.toList && q == q') w
 rw [show (10000 : Nat) = 9999 + 1 from rfl, run_equalIn_struct w 9999 49 _ _ hS hp]
 simp only [Program.fieldsOf, Tryz.underlying49]
 have h9 : ∀ w, (Op.equalIn 9999 9 (.string s) (.string s')).run Tryz.prog w = .ok (s.toList == s'.toList) w := fun w => run_equalIn_string w 9998 9 s s' Tryz.underlying9
 have h3 : ∀ w, (Op.equalIn 9999 3 (.int .i64 q) (.int .i64 q')).run Tryz.prog w = .ok (q == q') w := fun w => run_equalIn_int w 9998 3 .i64 .i64 q q' Tryz.underlying3
 obtain ⟨D, hD⟩ : ∃ D, 9999 = D := ⟨9999, rfl⟩
 rw [hD] at h26 h9 h3 ⊢
 go_simp
 by_cases e1 : r = r'
 ·by_cases e2 : m = m'
  ·by_cases e3 : s.toList = s'.toList
   ·by_cases e4 : q = q'
    ·simp [e1, e2, e3, e4]
    ·simp [e1, e2, e3, e4]
   ·simp [e1, e2, e3]
  ·simp [e1, e2]
 ·simp [e1]
theorem eqE_self (x : En) : eqE x x = true := by simp [eqE]
attribute [local go_sem ↓] run_eq28
end Go.Proofs.YtfpmijfcemopoaaGreat.K
namespace Go.Proofs.YtfpmijfcemopoaaGreat
open Go.RowKit
attribute [local go_sem ↓] K.ld28_eq K.st28_eq K.run_eq28 ldP_eq stP_eq ldRe_eq stRe_eq
attribute [local go_sem] K.zero_EC K.cells_EV cells_PV PC_size
theorem list_ext {s u : ByteArray} (h : s.toList = u.toList) : s = u := by
 rw [ByteArray.toList_eq, ByteArray.toList_eq] at h
 exact ByteArray.ext (Array.ext' h)
theorem eqE_iff (x y : K.En) : K.eqE x y = true ↔ x = y := by
 obtain ⟨a, b, s, q⟩ := x
 obtain ⟨a', b', s', q'⟩ := y
 simp only [K.eqE, Bool.and_eq_true, beq_iff_eq, K.En.mk.injEq]
 constructor
 ·rintro ⟨⟨⟨h1, h2⟩, h3⟩, h4⟩
  exact ⟨h1, h2, list_ext h3, h4⟩
 ·rintro ⟨h1, h2, h3, h4⟩
  exact ⟨⟨⟨h1, h2⟩, by rw [h3]⟩, h4⟩
theorem below_drewB {n : Nat} {w W : World} (h : Below n w W) : Below n w W.drew := ⟨h.os, h.tape, h.output, h.size, h.block⟩
set_option maxRecDepth 100000 in
set_option maxHeartbeats 1600000 in
theorem sameEntries_any (ao bo : Option Addr) (n m ca cb : Nat) (L M : List K.En) (w : World) (hL : K.ESrc w ao n ca L) (hM : K.ESrc w bo m cb M) : Calls Tryz.prog 21 #[.slice ao n ca, .slice bo m cb] w fun e w' => GivesB w w' e (L = M) := by
 have HL := hide hL
 have HM := hide hM
 have hn := hL.2.2.2.2
 have hm := hM.2.2.2.2
 have HLl : Hid (L.length = n ∧ M.length = m) := ⟨hL.1, hM.1⟩
 clear hL hM
 by_cases hnm : n = m
 ·subst hnm
  go_enter Tryz.func21, Tryz.ntmps21
  go_wp2_with fail
  go_loopw [5] (fun i wr => ∃ k : Nat, k ≤ n ∧ i = .int .i64 k ∧ Hid (L.take k = M.take k ∧ Below w.heap.size w wr)) (fun i _ => n - (intOf i).toNat)
  case atStart => exact ⟨0, Nat.zero_le _, rfl, rfl, Below.refl _ _⟩
  case round =>
   obtain ⟨k, hk, rfl, HK⟩ := hrel
   rename World => wr
   by_cases hlt : k < n
   ·obtain ⟨ad, rfl, A0⟩ := (HL.out.below HK.out.2).at k hlt
    obtain ⟨bd, rfl, B0⟩ := (HM.out.below HK.out.2).at k hlt
    obtain ⟨x, Hx⟩ : ∃ x, Hid (L.getD k K.en0 = x) := ⟨_, rfl⟩
    obtain ⟨y, Hy⟩ : ∃ y, Hid (M.getD k K.en0 = y) := ⟨_, rfl⟩
    rw [Hx.out] at A0
    rw [Hy.out] at B0
    have HA := hide A0
    have HB := hide B0
    clear A0 B0
    have HTk : Hid (L.take (k + 1) = L.take k ++ [x] ∧ M.take (k + 1) = M.take k ++ [y]) := ⟨by rw [K.take_snoc L k (by have := HLl.out; omega), Hx.out], by rw [K.take_snoc M k (by have := HLl.out; omega), Hy.out]⟩
    have Hlt := hide hlt
    go_upto_region 6 with fail
    refine wp_region_held_drew (S := fun v => (K.ld28 (.pointer (some (ad.add (k * 4))))).run Tryz.prog v = .ok (K.EV x) v ∧ (K.ld28 (.pointer (some (bd.add (k * 4))))).run Tryz.prog v = .ok (K.EV y) v) (by kernel_rfl) (⟨K.run_ld28 (HA.out.on (below_drew1 wr)), K.run_ld28 (HB.out.on (below_drew1 wr))⟩) (fun hHeld => ?_)
    refine wTk 0 ⟨some 17, .move (.tmp 0), 23, "lists.go:379", #[], none⟩ rfl ?_
    refine wTk 1 ⟨some 18, .move (.tmp 5), 3, "lists.go:379", #[], none⟩ rfl ?_
    refine wTk 2 ⟨some 19, .indexAddr 23 (.tmp 17) (.tmp 18), 0, "lists.go:379", #[⟨0, .data⟩, ⟨1, .data⟩], none⟩ rfl ?_
    refine wTk 3 ⟨some 20, .load 49 (.tmp 19), 49, "lists.go:379", #[⟨2, .data⟩], none⟩ rfl ?_
    refine wTk 4 ⟨some 21, .move (.tmp 1), 23, "lists.go:379", #[], none⟩ rfl ?_
    refine wTk 5 ⟨some 22, .move (.tmp 5), 3, "lists.go:379", #[], none⟩ rfl ?_
    refine wTk 6 ⟨some 23, .indexAddr 23 (.tmp 21) (.tmp 22), 0, "lists.go:379", #[⟨4, .data⟩, ⟨5, .data⟩], none⟩ rfl ?_
    refine wTk 7 ⟨some 24, .load 49 (.tmp 23), 49, "lists.go:379", #[⟨6, .data⟩], none⟩ rfl ?_
    cases hxy : K.eqE x y with
    | false =>
     refine wTk 8 ⟨some 25, .binOp .neq 49 (.tmp 20) (.tmp 24) 49, 4, "lists.go:379", #[⟨3, .data⟩, ⟨7, .data⟩], none⟩ rfl ?_
     refine wpAnyH_done (by kernel_rfl) ?_ _
     clear hHeld
     have HF : Hid (GivesB w wr.drew (.returned (.bool false)) (L = M)) := by
      refine ⟨false, rfl, ⟨(fun h => by cases h), fun h => ?_⟩, below_drewB HK.out.2⟩
      have : x = y := by rw [← Hx.out, ← Hy.out, h]
      rw [(eqE_iff x y).2 this] at hxy
      cases hxy
     clear hxy
     go_wp2_with fail
     go_ret
     exact HF.out
    | true =>
     refine wTk 8 ⟨some 25, .binOp .neq 49 (.tmp 20) (.tmp 24) 49, 4, "lists.go:379", #[⟨3, .data⟩, ⟨7, .data⟩], none⟩ rfl ?_
     refine wpAnyH_done (by kernel_rfl) ?_ _
     clear hHeld
     have HE : Hid (L.take (k + 1) = M.take (k + 1)) := by show _ = _; rw [HTk.out.1, HTk.out.2, HK.out.1, (eqE_iff x y).1 hxy]
     clear hxy
     go_wp2_with fail
     go_roundw
     case rel => exact ⟨k + 1, by omega, by simp, HE.out, below_drewB HK.out.2⟩
     case measure => simp [intOf]; omega
   ·obtain rfl : k = n := by omega
    have HF : Hid (GivesB w wr (.returned (.bool true)) (L = M)) := by
     refine ⟨true, rfl, ⟨fun _ => ?_, fun _ => rfl⟩, HK.out.2⟩
     have h := HK.out.1
     rw [List.take_of_length_le (by have := HLl.out; omega), List.take_of_length_le (by have := HLl.out; omega)] at h
     exact h
    go_wp2_with fail
    go_ret
    exact HF.out
 ·have hne : ((n : Int) != (m : Int)) = true := by simp; omega
  have HF : Hid (GivesB w w (.returned (.bool false)) (L = M)) := ⟨false, rfl, ⟨(fun h => by cases h), fun h => by rw [h] at HLl; have := HLl.out; omega⟩, Below.refl _ _⟩
  go_enter Tryz.func21, Tryz.ntmps21
  go_wp2_with fail
  go_ret
  exact HF.out
abbrev Rp := ByteArray × Pst
def plR (L : List Rc) : List Rp := L.map fun r => (r.s, r.p.P)
theorem plR_len (L : List Rc) : (plR L).length = L.length := by simp [plR]
theorem plR_snoc (L : List Rc) (r : Rc) : plR (L ++ [r]) = plR L ++ [(r.s, r.p.P)] := by simp [plR]
theorem plR_take (L : List Rc) (k : Nat) (h : k < L.length) : plR (L.take (k + 1)) = plR (L.take k) ++ [((L.getD k rc0).s, (L.getD k rc0).p.P)] := by
 rw [take_snocR L k h, plR_snoc]
theorem ReAt.flat {w : World} {b o : Nat} {r : Rc} (A : ReAt w ⟨b, o, none⟩ (mkR r)) : w.cell? ⟨b, o, none⟩ = some (.string r.s) ∧ PAt w ⟨b, o + 1, none⟩ r.p := by
 obtain ⟨h0, h1, h2⟩ := A
 rw [Addr.add_lit] at h1 h2
 refine ⟨h0, h1, ?_⟩
 rw [Addr.add_lit]
 exact h2
theorem RcS.spot {w : World} {ad : Addr} {n c : Nat} {L : List Rc} (h : RcS w (some ad) n c L) (hn : 0 < n) : ∃ b o, ad = ⟨b, o, none⟩ := by
 obtain ⟨ad0, e0, A00⟩ := h.at 0 hn
 obtain rfl := Option.some.inj e0
 have hsp := World.cell?_spot A00.c0
 rw [Nat.zero_mul, add_zero] at hsp
 obtain ⟨b, o, sp⟩ := ad
 have hsp : sp = none := hsp
 subst hsp
 exact ⟨b, o, rfl⟩
set_option maxRecDepth 100000 in
set_option maxHeartbeats 1600000 in
theorem sameRecords_any (ao bo : Option Addr) (n m ca cb : Nat) (L M : List Rc) (w : World) (hL : RcS w ao n ca L) (hM : RcS w bo m cb M) : Calls Tryz.prog 14 #[.slice ao n ca, .slice bo m cb] w fun e w' => GivesB w w' e (plR L = plR M) := by
 have HL := hide hL
 have HM := hide hM
 have hn := hL.big
 have hm := hM.big
 have HLl : Hid (L.length = n ∧ M.length = m) := ⟨hL.len, hM.len⟩
 clear hL hM
 by_cases hnm : n = m
 ·subst hnm
  go_enter Tryz.func14, Tryz.ntmps14
  go_wp2_with fail
  go_loopw [5] (fun i wr => ∃ k : Nat, k ≤ n ∧ i = .int .i64 k ∧ Hid (plR (L.take k) = plR (M.take k) ∧ Below w.heap.size w wr)) (fun i _ => n - (intOf i).toNat)
  case atStart => exact ⟨0, Nat.zero_le _, rfl, rfl, Below.refl _ _⟩
  case round =>
   obtain ⟨k, hk, rfl, HK⟩ := hrel
   rename World => wr
   by_cases hlt : k < n
   ·obtain ⟨ad, rfl, A0⟩ := (HL.out.below HK.out.2).at k hlt
    obtain ⟨bd, rfl, B0⟩ := (HM.out.below HK.out.2).at k hlt
    obtain ⟨b1, o1, rfl⟩ := HL.out.spot (by omega)
    obtain ⟨b2, o2, rfl⟩ := HM.out.spot (by omega)
    have HO1 := (HL.out.below HK.out.2).okAt k hlt
    have HO2 := (HM.out.below HK.out.2).okAt k hlt
    have ht1 := plR_take L k (by have := HLl.out; omega)
    have ht2 := plR_take M k (by have := HLl.out; omega)
    obtain ⟨x, Hx⟩ : ∃ x, Hid (L.getD k rc0 = x) := ⟨_, rfl⟩
    obtain ⟨y, Hy⟩ : ∃ y, Hid (M.getD k rc0 = y) := ⟨_, rfl⟩
    rw [Hx.out] at A0 HO1 ht1
    rw [Hy.out] at B0 HO2 ht2
    rw [Addr.add_lit] at A0 B0
    have HA := hide A0
    have HB := hide B0
    have HTk : Hid (plR (L.take (k + 1)) = plR (L.take k) ++ [(x.s, x.p.P)] ∧ plR (M.take (k + 1)) = plR (M.take k) ++ [(y.s, y.p.P)]) := ⟨ht1, ht2⟩
    have HO : Hid (PSrc wr x.p ∧ PSrc wr y.p) := ⟨HO1.1, HO2.1⟩
    clear A0 B0 HO1 HO2 ht1 ht2
    have HNo : Hid ((x.s, x.p.P) ≠ (y.s, y.p.P) → ¬ plR L = plR M) := fun hne h => by
     have h1 := congrArg (fun z : List Rp => z.take (k + 1)) h
     simp only [plR, ← List.map_take] at h1
     have h2 := HTk.out
     unfold plR at h2
     rw [h2.1, h2.2] at h1
     have h3 := HK.out.1
     unfold plR at h3
     rw [h3] at h1
     have := List.append_cancel_left h1
     exact hne (List.cons.inj this).1
    have Hlt := hide hlt
    go_upto_region 6 with fail
    refine wp_region_held_drew (S := fun v => (v.cell? ⟨b1, o1 + k * 3, none⟩ = some (.string x.s) ∧ v.cell? ⟨b2, o2 + k * 3, none⟩ = some (.string y.s)) ∧ (ldP (.pointer (some ⟨b1, o1 + k * 3 + 1, none⟩))).run Tryz.prog v = .ok (PV x.p) v ∧ (ldP (.pointer (some ⟨b2, o2 + k * 3 + 1, none⟩))).run Tryz.prog v = .ok (PV y.p) v) (by kernel_rfl) (⟨⟨(HA.out.on (below_drew1 wr)).flat.1, (HB.out.on (below_drew1 wr)).flat.1⟩, run_ldP (HA.out.on (below_drew1 wr)).flat.2, run_ldP (HB.out.on (below_drew1 wr)).flat.2⟩) (fun hHeld => ?_)
    refine wTk 0 ⟨some 17, .move (.tmp 0), 22, "lists.go:414", #[], none⟩ rfl ?_
    refine wTk 1 ⟨some 18, .move (.tmp 5), 3, "lists.go:414", #[], none⟩ rfl ?_
    refine wTk 2 ⟨some 19, .indexAddr 22 (.tmp 17) (.tmp 18), 0, "lists.go:414", #[⟨0, .data⟩, ⟨1, .data⟩], none⟩ rfl ?_
    refine wTk 3 ⟨some 20, .fieldAddr 39 (.tmp 19) 0, 0, "lists.go:414", #[⟨2, .data⟩], none⟩ rfl ?_
    refine wTk 4 ⟨some 21, .load 9 (.tmp 20), 9, "lists.go:414", #[⟨3, .data⟩], none⟩ rfl ?_
    refine wTk 5 ⟨some 22, .move (.tmp 1), 22, "lists.go:414", #[], none⟩ rfl ?_
    refine wTk 6 ⟨some 23, .move (.tmp 5), 3, "lists.go:414", #[], none⟩ rfl ?_
    refine wTk 7 ⟨some 24, .indexAddr 22 (.tmp 22) (.tmp 23), 0, "lists.go:414", #[⟨5, .data⟩, ⟨6, .data⟩], none⟩ rfl ?_
    refine wTk 8 ⟨some 25, .fieldAddr 39 (.tmp 24) 0, 0, "lists.go:414", #[⟨7, .data⟩], none⟩ rfl ?_
    refine wTk 9 ⟨some 26, .load 9 (.tmp 25), 9, "lists.go:414", #[⟨8, .data⟩], none⟩ rfl ?_
    by_cases hs : x.s = y.s
    ·have hsb : (x.s.toList == y.s.toList) = true := by rw [hs]; simp
     have HS := hide hs
     clear hs
     refine wTk 10 ⟨some 27, .binOp .neq 9 (.tmp 21) (.tmp 26) 9, 4, "lists.go:414", #[⟨4, .data⟩, ⟨9, .data⟩], none⟩ rfl ?_
     refine wTk 11 ⟨some 28, .move (.tmp 27), 4, "lists.go:414", #[⟨10, .data⟩], none⟩ rfl ?_
     refine wTk 12 ⟨some 29, .move (.tmp 0), 22, "lists.go:414", #[⟨11, .guard⟩], some (11, false)⟩ rfl ?_
     refine wTk 13 ⟨some 30, .move (.tmp 5), 3, "lists.go:414", #[⟨11, .guard⟩], some (11, false)⟩ rfl ?_
     refine wTk 14 ⟨some 31, .indexAddr 22 (.tmp 29) (.tmp 30), 0, "lists.go:414", #[⟨12, .data⟩, ⟨13, .data⟩, ⟨11, .guard⟩], some (11, false)⟩ rfl ?_
     refine wTk 15 ⟨some 32, .fieldAddr 39 (.tmp 31) 1, 0, "lists.go:414", #[⟨14, .data⟩, ⟨11, .guard⟩], some (11, false)⟩ rfl ?_
     refine wTk 16 ⟨some 33, .load 27 (.tmp 32), 27, "lists.go:414", #[⟨15, .data⟩, ⟨11, .guard⟩], some (11, false)⟩ rfl ?_
     refine wTk 17 ⟨some 34, .move (.tmp 1), 22, "lists.go:414", #[⟨11, .guard⟩], some (11, false)⟩ rfl ?_
     refine wTk 18 ⟨some 35, .move (.tmp 5), 3, "lists.go:414", #[⟨11, .guard⟩], some (11, false)⟩ rfl ?_
     refine wTk 19 ⟨some 36, .indexAddr 22 (.tmp 34) (.tmp 35), 0, "lists.go:414", #[⟨17, .data⟩, ⟨18, .data⟩, ⟨11, .guard⟩], some (11, false)⟩ rfl ?_
     refine wTk 20 ⟨some 37, .fieldAddr 39 (.tmp 36) 1, 0, "lists.go:414", #[⟨19, .data⟩, ⟨11, .guard⟩], some (11, false)⟩ rfl ?_
     refine wTk 21 ⟨some 38, .load 27 (.tmp 37), 27, "lists.go:414", #[⟨20, .data⟩, ⟨11, .guard⟩], some (11, false)⟩ rfl ?_
     refine wpAnyH_ready (rs := [22]) (by kernel_rfl) (by simp) (.cons rfl (fun K hK => ?_) .nil)
     go_simp
     go_wp2_with fail
     refine (samePast_any x.p y.p _ (HO.out.1.below (below_drew1 wr)) (HO.out.2.below (below_drew1 wr))).mono ?_
     rintro e w7 ⟨z, rfl, hz, b7⟩
     have hB7 : Below wr.heap.size wr w7 := (below_drew1 wr).trans b7
     have HB7 := hide (HK.out.2.trans (hB7.mono HK.out.2.size))
     refine hK.out _ _ (⟨⟨(HA.out.on (hB7)).flat.1, (HB.out.on (hB7)).flat.1⟩, run_ldP (HA.out.on (hB7)).flat.2, run_ldP (HB.out.on (hB7)).flat.2⟩) (fun hHeld => ?_)
     clear hK K b7 hB7
     cases z with
     | false =>
      have HN := hide (HNo.out (fun h => by have := hz.2 (Prod.mk.inj h).2; cases this))
      clear hz
      refine wTk 23 ⟨some 40, .unOp .not 4 (.tmp 39), 4, "lists.go:414", #[⟨22, .data⟩, ⟨11, .guard⟩], some (11, false)⟩ rfl ?_
      refine wTk 24 ⟨some 41, .pick (.tmp 28) (.const (.bool true)) (.tmp 40), 4, "lists.go:414", #[⟨11, .data⟩, ⟨23, .data⟩], none⟩ rfl ?_
      refine wpAnyH_done (by kernel_rfl) ?_ _
      clear hHeld
      go_wp2_with fail
      go_ret
      exact ⟨false, rfl, ⟨(fun h => by cases h), fun h => absurd h HN.out⟩, HB7.out⟩
     | true =>
      have HE : Hid (plR (L.take (k + 1)) = plR (M.take (k + 1))) := by show _ = _; rw [HTk.out.1, HTk.out.2, HK.out.1, HS.out, hz.1 rfl]
      clear hz
      refine wTk 23 ⟨some 40, .unOp .not 4 (.tmp 39), 4, "lists.go:414", #[⟨22, .data⟩, ⟨11, .guard⟩], some (11, false)⟩ rfl ?_
      refine wTk 24 ⟨some 41, .pick (.tmp 28) (.const (.bool true)) (.tmp 40), 4, "lists.go:414", #[⟨11, .data⟩, ⟨23, .data⟩], none⟩ rfl ?_
      refine wpAnyH_done (by kernel_rfl) ?_ _
      clear hHeld
      go_wp2_with fail
      go_roundw
      case rel => exact ⟨k + 1, by omega, by simp, HE.out, HB7.out⟩
      case measure => simp [intOf]; omega
    ·have hsb : (x.s.toList == y.s.toList) = false := by rw [beq_eq_false_iff_ne]; exact fun h => hs (list_ext h)
     have HN := hide (HNo.out (fun h => hs (Prod.mk.inj h).1))
     refine wTk 10 ⟨some 27, .binOp .neq 9 (.tmp 21) (.tmp 26) 9, 4, "lists.go:414", #[⟨4, .data⟩, ⟨9, .data⟩], none⟩ rfl ?_
     refine wTk 11 ⟨some 28, .move (.tmp 27), 4, "lists.go:414", #[⟨10, .data⟩], none⟩ rfl ?_
     refine wSk 12 ⟨some 29, .move (.tmp 0), 22, "lists.go:414", #[⟨11, .guard⟩], some (11, false)⟩ rfl ?_
     refine wSk 13 ⟨some 30, .move (.tmp 5), 3, "lists.go:414", #[⟨11, .guard⟩], some (11, false)⟩ rfl ?_
     refine wSk 14 ⟨some 31, .indexAddr 22 (.tmp 29) (.tmp 30), 0, "lists.go:414", #[⟨12, .data⟩, ⟨13, .data⟩, ⟨11, .guard⟩], some (11, false)⟩ rfl ?_
     refine wSk 15 ⟨some 32, .fieldAddr 39 (.tmp 31) 1, 0, "lists.go:414", #[⟨14, .data⟩, ⟨11, .guard⟩], some (11, false)⟩ rfl ?_
     refine wSk 16 ⟨some 33, .load 27 (.tmp 32), 27, "lists.go:414", #[⟨15, .data⟩, ⟨11, .guard⟩], some (11, false)⟩ rfl ?_
     refine wSk 17 ⟨some 34, .move (.tmp 1), 22, "lists.go:414", #[⟨11, .guard⟩], some (11, false)⟩ rfl ?_
     refine wSk 18 ⟨some 35, .move (.tmp 5), 3, "lists.go:414", #[⟨11, .guard⟩], some (11, false)⟩ rfl ?_
     refine wSk 19 ⟨some 36, .indexAddr 22 (.tmp 34) (.tmp 35), 0, "lists.go:414", #[⟨17, .data⟩, ⟨18, .data⟩, ⟨11, .guard⟩], some (11, false)⟩ rfl ?_
     refine wSk 20 ⟨some 37, .fieldAddr 39 (.tmp 36) 1, 0, "lists.go:414", #[⟨19, .data⟩, ⟨11, .guard⟩], some (11, false)⟩ rfl ?_
     refine wSk 21 ⟨some 38, .load 27 (.tmp 37), 27, "lists.go:414", #[⟨20, .data⟩, ⟨11, .guard⟩], some (11, false)⟩ rfl ?_
     refine wSk 22 ⟨some 39, .call ⟨.value (.func 49), #[.tmp 33, .tmp 38], #[27, 27]⟩, 4, "lists.go:414", #[⟨16, .data⟩, ⟨21, .data⟩, ⟨11, .chain⟩, ⟨11, .guard⟩], some (11, false)⟩ rfl ?_
     refine wSk 23 ⟨some 40, .unOp .not 4 (.tmp 39), 4, "lists.go:414", #[⟨22, .data⟩, ⟨11, .guard⟩], some (11, false)⟩ rfl ?_
     refine wTk 24 ⟨some 41, .pick (.tmp 28) (.const (.bool true)) (.tmp 40), 4, "lists.go:414", #[⟨11, .data⟩, ⟨23, .data⟩], none⟩ rfl ?_
     refine wpAnyH_done (by kernel_rfl) ?_ _
     clear hHeld
     clear hs
     go_wp2_with fail
     go_ret
     exact ⟨false, rfl, ⟨(fun h => by cases h), fun h => absurd h HN.out⟩, below_drewB HK.out.2⟩
   ·obtain rfl : k = n := by omega
    have HF : Hid (GivesB w wr (.returned (.bool true)) (plR L = plR M)) := by
     refine ⟨true, rfl, ⟨fun _ => ?_, fun _ => rfl⟩, HK.out.2⟩
     have h := HK.out.1
     rw [List.take_of_length_le (by have := HLl.out; omega), List.take_of_length_le (by have := HLl.out; omega)] at h
     exact h
    go_wp2_with fail
    go_ret
    exact HF.out
 ·have hne : ((n : Int) != (m : Int)) = true := by simp; omega
  have HF : Hid (GivesB w w (.returned (.bool false)) (plR L = plR M)) := ⟨false, rfl, ⟨(fun h => by cases h), fun h => by have h1 := congrArg List.length h; rw [plR_len, plR_len] at h1; have := HLl.out; omega⟩, Below.refl _ _⟩
  go_enter Tryz.func14, Tryz.ntmps14
  go_wp2_with fail
  go_ret
  exact HF.out
end Go.Proofs.YtfpmijfcemopoaaGreat
