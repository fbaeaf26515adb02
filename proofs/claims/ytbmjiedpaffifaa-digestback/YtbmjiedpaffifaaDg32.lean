/- QRm -/
import Derived.Test.YtbmjiedpaffifaaDg17
import Derived.Test.YtbmjiedpaffifaaDg31
namespace Go.Proofs.Ytbmjiedpaffifaa
open Go.RowKit
attribute [local go_sem ↓] ldP_eq stP_eq ldJ_eq stJ_eq
attribute [local go_sem] zeros_JA cells_JAv zero_PC cells_PV fold_PC PC_size fold_PC1

theorem comb_meet {A B a b c : List Rn} (ha : NormOf A a) (hb : NormOf B b) (h : CombOf 1 a b c) : MeetOf A B c := ⟨h.1, fun n => by rw [h.2 n, ha.2 n, hb.2 n]; simp⟩
theorem comb_minus {A B a b c : List Rn} (ha : NormOf A a) (hb : NormOf B b) (h : CombOf 2 a b c) : MinusOf A B c := ⟨h.1, fun n => by rw [h.2 n, ha.2 n, hb.2 n]; simp⟩
set_option maxRecDepth 100000 in
set_option maxHeartbeats 1000000 in
theorem refMeet_any (a b : Pv) (w : World) (hA : PSrc w a) (hB : PSrc w b) :
    Calls Try.prog 11 #[PV a, PV b] w fun e w' => GivesP w w' e (fun P => ∃ C : Nat → List Rn, (∀ r, r < 16 → MeetOf (runsAt a.P r) (runsAt b.P r) (C r)) ∧ CanonOf C P) := by
  have b1 := below_new w (.cells (PC a) 25)
  have b2 := below_new (w.alloc (.cells (PC a) 25)) (.cells (PC b) 25)
  have b3 := below_new ((w.alloc (.cells (PC a) 25)).alloc (.cells (PC b) 25)) (.cells (PC pv0) 25)
  have p2 := pbox_new (w.alloc (.cells (PC a) 25)) b
  have p3 := pbox_new ((w.alloc (.cells (PC a) 25)).alloc (.cells (PC b) 25)) pv0
  simp only [World.size_alloc] at p2 p3
  have HX1 := hide (((pbox_new w a).below b2).below b3)
  have HX2 := hide (p2.below b3)
  have HX3 := hide p3
  have HBK := hide (b1.trans ((b2.trans (b3.mono b2.size)).mono b1.size))
  have HAS := hide (hA.below HBK.out)
  have HBS := hide (hB.below HBK.out)
  clear hA hB b1 b2 b3 p2 p3
  obtain ⟨wk, hwk⟩ : ∃ wk, ((w.alloc (.cells (PC a) 25)).alloc (.cells (PC b) 25)).alloc (.cells (PC pv0) 25) = wk := ⟨_, rfl⟩
  have HWZ : Hid (wk.heap.size = w.heap.size + 1 + 1 + 1) := by show _ = _; rw [← hwk]; simp
  rw [hwk] at HX1 HX2 HX3 HBK HAS HBS
  have HCK : Hid (Below wk.heap.size wk wk) := Below.refl _ _
  have HSW : Hid (∀ W' : World, Below wk.heap.size wk W' → (ldP (.pointer (some ⟨w.heap.size, 0, none⟩))).run Try.prog W' = .ok (PV a) W' ∧ (ldP (.pointer (some ⟨w.heap.size + 1, 0, none⟩))).run Try.prog W' = .ok (PV b) W') := fun W' h => ⟨run_ldP (HX1.out.below h).at, run_ldP (HX2.out.below h).at⟩
  have HSR : Hid (∀ (W' : World) (p : Pv), Below wk.heap.size wk W' → (ldP (.pointer (some ⟨w.heap.size, 0, none⟩))).run Try.prog (W'.setRow (w.heap.size + 1 + 1) (PC p)) = .ok (PV a) (W'.setRow (w.heap.size + 1 + 1) (PC p)) ∧ (ldP (.pointer (some ⟨w.heap.size + 1, 0, none⟩))).run Try.prog (W'.setRow (w.heap.size + 1 + 1) (PC p)) = .ok (PV b) (W'.setRow (w.heap.size + 1 + 1) (PC p))) := fun W' p h => ⟨run_ldP (show PBox _ _ _ from (setRow_other _ _ _ _ (by omega)).trans (HX1.out.below h)).at, run_ldP (show PBox _ _ _ from (setRow_other _ _ _ _ (by omega)).trans (HX2.out.below h)).at⟩
  go_enter Try.func11, Try.ntmps11
  go_wp2_with fail
  clear hwk
  refine wp_region_held_drew (S := fun W => (ldP (.pointer (some ⟨w.heap.size, 0, none⟩))).run Try.prog W = .ok (PV a) W ∧ (ldP (.pointer (some ⟨w.heap.size + 1, 0, none⟩))).run Try.prog W = .ok (PV b) W) (by kernel_rfl) (HSW.out _ (below_drew1 _)) (fun hHeld => ?_)
  refine wpAnyH_take (i := 0) (oi := { dst := some 5, op := Op.load 25 (Operand.tmp 2), type := 25, pos := "ref.go:167", after := #[], guard := none }) (v := ?_) rfl (by kernel_rfl) (by kernel_rfl) (by kernel_rfl) (fun _ _ _ h => h) (Or.inl ⟨by rfl, ?_⟩) (by assumption) ?_
  rotate_left
  · (intro w hSw; (try dsimp only at hSw); go_simp); first | done | with_reducible rfl
  simp only [Act.put, List.setIfInBounds_toArray, List.set_cons_zero, List.set_cons_succ]
  refine wpAnyH_take (i := 2) (oi := { dst := some 7, op := Op.load 25 (Operand.tmp 3), type := 25, pos := "ref.go:167", after := #[], guard := none }) (v := ?_) rfl (by kernel_rfl) (by kernel_rfl) (by kernel_rfl) (fun _ _ _ h => h) (Or.inl ⟨by rfl, ?_⟩) (by assumption) ?_
  rotate_left
  · (intro w hSw; (try dsimp only at hSw); go_simp); first | done | with_reducible rfl
  simp only [Act.put, List.setIfInBounds_toArray, List.set_cons_zero, List.set_cons_succ]
  refine wpAnyH_ready (rs := [1]) (by kernel_rfl) (by simp) ?_
  refine AllReadyH.cons rfl (fun K hK => ?_) ?_
  rotate_left
  · exact AllReadyH.nil
  go_simp
  go_wp2_with fail
  refine (one_any a _ (by exact HAS.out.below (HCK.out.trans ((below_drew1 wk).mono HCK.out.size)))).mono ?_
  rintro e w2 ⟨Ta, Na, rfl, hT, hb⟩
  have HBw2 := hide ((below_drew1 wk).trans (hb.mono (below_drew1 wk).size))
  have HCw2 := hide (HCK.out.trans (HBw2.out.mono HCK.out.size))
  have HTa := hide hT
  clear hT hb
  refine hK.out _ _ (HSW.out _ HCw2.out) (fun hHeld => ?_)
  clear hK K
  refine wpAnyH_ready (rs := [3]) (by kernel_rfl) (by simp) ?_
  refine AllReadyH.cons rfl (fun K hK => ?_) ?_
  rotate_left
  · exact AllReadyH.nil
  go_simp
  go_wp2_with fail
  refine (one_any b _ (by exact HBS.out.below HCw2.out)).mono ?_
  rintro e w3 ⟨Tb, Nb, rfl, hT, hb⟩
  have HBw3 := hide hb
  have HCw3 := hide (HCw2.out.trans (HBw3.out.mono HCw2.out.size))
  have HTb := hide hT
  clear hT hb
  refine hK.out _ _ (HSW.out _ HCw3.out) (fun hHeld => ?_)
  clear hK K
  have HFa : Hid (∀ r, r < 16 → V.Src w3 (Ta r).ao (Ta r).n (Ta r).cap (tn (Na r)) ∧ NormOf (runsAt a.P r) (Na r)) := fun r hr => ⟨(HTa.out r hr).1.below HBw3.out, (HTa.out r hr).2.2⟩
  have HFb : Hid (∀ r, r < 16 → V.Src w3 (Tb r).ao (Tb r).n (Tb r).cap (tn (Nb r)) ∧ NormOf (runsAt b.P r) (Nb r)) := fun r hr => ⟨(HTb.out r hr).1, (HTb.out r hr).2.2⟩
  refine wpAnyH_ready (rs := [4]) (by kernel_rfl) (by simp) ?_
  refine AllReadyH.cons rfl (fun K hK => ?_) ?_
  rotate_left
  · exact AllReadyH.nil
  go_simp
  go_wp2_with fail
  refine (combined_any Ta Tb Na Nb 1 _ (fun r hr => ⟨(HFa.out r hr).1, (HFa.out r hr).2.1⟩) (fun r hr => ⟨(HFb.out r hr).1, (HFb.out r hr).2.1⟩) (Or.inl rfl)).mono ?_
  rintro e w5 ⟨T, N, rfl, hT, hb⟩
  have HBw5 := hide hb
  have HCw5 := hide (HCw3.out.trans (HBw5.out.mono HCw3.out.size))
  have HT := hide hT
  clear hT hb
  refine hK.out _ _ (HSW.out _ HCw5.out) (fun hHeld => ?_)
  clear hK K
  refine wpAnyH_ready (rs := [5]) (by kernel_rfl) (by simp) ?_
  refine AllReadyH.cons rfl (fun K hK => ?_) ?_
  rotate_left
  · exact AllReadyH.nil
  go_simp
  go_wp2_with fail
  refine (refForm_any T N _ (fun r hr => ⟨(HT.out r hr).1, (HT.out r hr).2.2.1⟩)).mono ?_
  rintro e w6 ⟨p, rfl, S6, n6, b6, c6⟩
  have HBw6 := hide b6
  have HCw6 := hide (HCw5.out.trans (HBw6.out.mono HCw5.out.size))
  have hsz := HCw5.out.size
  have hwz := HWZ.out
  obtain ⟨e1, e2, e3, e4, e5⟩ := past_end (w := w) (HX3.out.below HCw6.out) S6 (n6.mono (by show _ ≤ w5.heap.size; omega)) (HBK.out.trans (HCw6.out.mono HBK.out.size)) (by omega)
  have HRes := hide e2
  have HFin : Hid (GivesP w _ (.returned (PV p)) (fun P => ∃ C : Nat → List Rn, (∀ r, r < 16 → MeetOf (runsAt a.P r) (runsAt b.P r) (C r)) ∧ CanonOf C P)) := ⟨p, rfl, e3, e4, e5, N, fun r hr => comb_meet (HFa.out r hr).2 (HFb.out r hr).2 (HT.out r hr).2.2, N, fun r hr => ⟨(HT.out r hr).2.2.1, fun _ => Iff.rfl⟩, c6⟩
  have HSL := hide (HSW.out _ HCw6.out)
  clear S6 n6 b6 c6 e2 e3 e4 e5
  refine hK.out _ _ HSL.out (fun hHeld => ?_)
  clear hK K
  refine wpAnyH_ready (rs := [6]) (by kernel_rfl) (by simp) ?_
  refine AllReadyH.cons rfl (fun K hK => ?_) ?_
  rotate_left
  · exact AllReadyH.nil
  go_simp
  refine hK.out _ _ (HSR.out _ _ HCw6.out) (fun hHeld => ?_)
  clear hK K
  refine wpAnyH_done (by kernel_rfl) ?_ _
  clear hHeld hsz hwz
  go_wp2_with fail
  exact bodyPost_ret (v := PV p) (resP Try.results11 rfl HRes.out) rfl HFin.out
set_option maxRecDepth 100000 in
set_option maxHeartbeats 1000000 in
theorem refMinus_any (a b : Pv) (w : World) (hA : PSrc w a) (hB : PSrc w b) :
    Calls Try.prog 13 #[PV a, PV b] w fun e w' => GivesP w w' e (fun P => ∃ C : Nat → List Rn, (∀ r, r < 16 → MinusOf (runsAt a.P r) (runsAt b.P r) (C r)) ∧ CanonOf C P) := by
  have b1 := below_new w (.cells (PC a) 25)
  have b2 := below_new (w.alloc (.cells (PC a) 25)) (.cells (PC b) 25)
  have b3 := below_new ((w.alloc (.cells (PC a) 25)).alloc (.cells (PC b) 25)) (.cells (PC pv0) 25)
  have p2 := pbox_new (w.alloc (.cells (PC a) 25)) b
  have p3 := pbox_new ((w.alloc (.cells (PC a) 25)).alloc (.cells (PC b) 25)) pv0
  simp only [World.size_alloc] at p2 p3
  have HX1 := hide (((pbox_new w a).below b2).below b3)
  have HX2 := hide (p2.below b3)
  have HX3 := hide p3
  have HBK := hide (b1.trans ((b2.trans (b3.mono b2.size)).mono b1.size))
  have HAS := hide (hA.below HBK.out)
  have HBS := hide (hB.below HBK.out)
  clear hA hB b1 b2 b3 p2 p3
  obtain ⟨wk, hwk⟩ : ∃ wk, ((w.alloc (.cells (PC a) 25)).alloc (.cells (PC b) 25)).alloc (.cells (PC pv0) 25) = wk := ⟨_, rfl⟩
  have HWZ : Hid (wk.heap.size = w.heap.size + 1 + 1 + 1) := by show _ = _; rw [← hwk]; simp
  rw [hwk] at HX1 HX2 HX3 HBK HAS HBS
  have HCK : Hid (Below wk.heap.size wk wk) := Below.refl _ _
  have HSW : Hid (∀ W' : World, Below wk.heap.size wk W' → (ldP (.pointer (some ⟨w.heap.size, 0, none⟩))).run Try.prog W' = .ok (PV a) W' ∧ (ldP (.pointer (some ⟨w.heap.size + 1, 0, none⟩))).run Try.prog W' = .ok (PV b) W') := fun W' h => ⟨run_ldP (HX1.out.below h).at, run_ldP (HX2.out.below h).at⟩
  have HSR : Hid (∀ (W' : World) (p : Pv), Below wk.heap.size wk W' → (ldP (.pointer (some ⟨w.heap.size, 0, none⟩))).run Try.prog (W'.setRow (w.heap.size + 1 + 1) (PC p)) = .ok (PV a) (W'.setRow (w.heap.size + 1 + 1) (PC p)) ∧ (ldP (.pointer (some ⟨w.heap.size + 1, 0, none⟩))).run Try.prog (W'.setRow (w.heap.size + 1 + 1) (PC p)) = .ok (PV b) (W'.setRow (w.heap.size + 1 + 1) (PC p))) := fun W' p h => ⟨run_ldP (show PBox _ _ _ from (setRow_other _ _ _ _ (by omega)).trans (HX1.out.below h)).at, run_ldP (show PBox _ _ _ from (setRow_other _ _ _ _ (by omega)).trans (HX2.out.below h)).at⟩
  go_enter Try.func13, Try.ntmps13
  go_wp2_with fail
  clear hwk
  refine wp_region_held_drew (S := fun W => (ldP (.pointer (some ⟨w.heap.size, 0, none⟩))).run Try.prog W = .ok (PV a) W ∧ (ldP (.pointer (some ⟨w.heap.size + 1, 0, none⟩))).run Try.prog W = .ok (PV b) W) (by kernel_rfl) (HSW.out _ (below_drew1 _)) (fun hHeld => ?_)
  refine wpAnyH_take (i := 0) (oi := { dst := some 5, op := Op.load 25 (Operand.tmp 2), type := 25, pos := "ref.go:168", after := #[], guard := none }) (v := ?_) rfl (by kernel_rfl) (by kernel_rfl) (by kernel_rfl) (fun _ _ _ h => h) (Or.inl ⟨by rfl, ?_⟩) (by assumption) ?_
  rotate_left
  · (intro w hSw; (try dsimp only at hSw); go_simp); first | done | with_reducible rfl
  simp only [Act.put, List.setIfInBounds_toArray, List.set_cons_zero, List.set_cons_succ]
  refine wpAnyH_take (i := 2) (oi := { dst := some 7, op := Op.load 25 (Operand.tmp 3), type := 25, pos := "ref.go:168", after := #[], guard := none }) (v := ?_) rfl (by kernel_rfl) (by kernel_rfl) (by kernel_rfl) (fun _ _ _ h => h) (Or.inl ⟨by rfl, ?_⟩) (by assumption) ?_
  rotate_left
  · (intro w hSw; (try dsimp only at hSw); go_simp); first | done | with_reducible rfl
  simp only [Act.put, List.setIfInBounds_toArray, List.set_cons_zero, List.set_cons_succ]
  refine wpAnyH_ready (rs := [1]) (by kernel_rfl) (by simp) ?_
  refine AllReadyH.cons rfl (fun K hK => ?_) ?_
  rotate_left
  · exact AllReadyH.nil
  go_simp
  go_wp2_with fail
  refine (one_any a _ (by exact HAS.out.below (HCK.out.trans ((below_drew1 wk).mono HCK.out.size)))).mono ?_
  rintro e w2 ⟨Ta, Na, rfl, hT, hb⟩
  have HBw2 := hide ((below_drew1 wk).trans (hb.mono (below_drew1 wk).size))
  have HCw2 := hide (HCK.out.trans (HBw2.out.mono HCK.out.size))
  have HTa := hide hT
  clear hT hb
  refine hK.out _ _ (HSW.out _ HCw2.out) (fun hHeld => ?_)
  clear hK K
  refine wpAnyH_ready (rs := [3]) (by kernel_rfl) (by simp) ?_
  refine AllReadyH.cons rfl (fun K hK => ?_) ?_
  rotate_left
  · exact AllReadyH.nil
  go_simp
  go_wp2_with fail
  refine (one_any b _ (by exact HBS.out.below HCw2.out)).mono ?_
  rintro e w3 ⟨Tb, Nb, rfl, hT, hb⟩
  have HBw3 := hide hb
  have HCw3 := hide (HCw2.out.trans (HBw3.out.mono HCw2.out.size))
  have HTb := hide hT
  clear hT hb
  refine hK.out _ _ (HSW.out _ HCw3.out) (fun hHeld => ?_)
  clear hK K
  have HFa : Hid (∀ r, r < 16 → V.Src w3 (Ta r).ao (Ta r).n (Ta r).cap (tn (Na r)) ∧ NormOf (runsAt a.P r) (Na r)) := fun r hr => ⟨(HTa.out r hr).1.below HBw3.out, (HTa.out r hr).2.2⟩
  have HFb : Hid (∀ r, r < 16 → V.Src w3 (Tb r).ao (Tb r).n (Tb r).cap (tn (Nb r)) ∧ NormOf (runsAt b.P r) (Nb r)) := fun r hr => ⟨(HTb.out r hr).1, (HTb.out r hr).2.2⟩
  refine wpAnyH_ready (rs := [4]) (by kernel_rfl) (by simp) ?_
  refine AllReadyH.cons rfl (fun K hK => ?_) ?_
  rotate_left
  · exact AllReadyH.nil
  go_simp
  go_wp2_with fail
  refine (combined_any Ta Tb Na Nb 2 _ (fun r hr => ⟨(HFa.out r hr).1, (HFa.out r hr).2.1⟩) (fun r hr => ⟨(HFb.out r hr).1, (HFb.out r hr).2.1⟩) (Or.inr rfl)).mono ?_
  rintro e w5 ⟨T, N, rfl, hT, hb⟩
  have HBw5 := hide hb
  have HCw5 := hide (HCw3.out.trans (HBw5.out.mono HCw3.out.size))
  have HT := hide hT
  clear hT hb
  refine hK.out _ _ (HSW.out _ HCw5.out) (fun hHeld => ?_)
  clear hK K
  refine wpAnyH_ready (rs := [5]) (by kernel_rfl) (by simp) ?_
  refine AllReadyH.cons rfl (fun K hK => ?_) ?_
  rotate_left
  · exact AllReadyH.nil
  go_simp
  go_wp2_with fail
  refine (refForm_any T N _ (fun r hr => ⟨(HT.out r hr).1, (HT.out r hr).2.2.1⟩)).mono ?_
  rintro e w6 ⟨p, rfl, S6, n6, b6, c6⟩
  have HBw6 := hide b6
  have HCw6 := hide (HCw5.out.trans (HBw6.out.mono HCw5.out.size))
  have hsz := HCw5.out.size
  have hwz := HWZ.out
  obtain ⟨e1, e2, e3, e4, e5⟩ := past_end (w := w) (HX3.out.below HCw6.out) S6 (n6.mono (by show _ ≤ w5.heap.size; omega)) (HBK.out.trans (HCw6.out.mono HBK.out.size)) (by omega)
  have HRes := hide e2
  have HFin : Hid (GivesP w _ (.returned (PV p)) (fun P => ∃ C : Nat → List Rn, (∀ r, r < 16 → MinusOf (runsAt a.P r) (runsAt b.P r) (C r)) ∧ CanonOf C P)) := ⟨p, rfl, e3, e4, e5, N, fun r hr => comb_minus (HFa.out r hr).2 (HFb.out r hr).2 (HT.out r hr).2.2, N, fun r hr => ⟨(HT.out r hr).2.2.1, fun _ => Iff.rfl⟩, c6⟩
  have HSL := hide (HSW.out _ HCw6.out)
  clear S6 n6 b6 c6 e2 e3 e4 e5
  refine hK.out _ _ HSL.out (fun hHeld => ?_)
  clear hK K
  refine wpAnyH_ready (rs := [6]) (by kernel_rfl) (by simp) ?_
  refine AllReadyH.cons rfl (fun K hK => ?_) ?_
  rotate_left
  · exact AllReadyH.nil
  go_simp
  refine hK.out _ _ (HSR.out _ _ HCw6.out) (fun hHeld => ?_)
  clear hK K
  refine wpAnyH_done (by kernel_rfl) ?_ _
  clear hHeld hsz hwz
  go_wp2_with fail
  exact bodyPost_ret (v := PV p) (resP Try.results13 rfl HRes.out) rfl HFin.out
end Go.Proofs.Ytbmjiedpaffifaa
