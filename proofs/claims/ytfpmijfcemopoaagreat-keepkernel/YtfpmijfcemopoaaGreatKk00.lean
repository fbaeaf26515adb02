/- barrowlaw07.has, dotIn. -/
import Derived.Test.YtfpmijfcemopoaaGreatKm01
import Derived.Deep.CutRange
namespace Go.Proofs.YtfpmijfcemopoaaGreat.K
open Go.RowKit
attribute [local go_sem ↓] ld28_eq st28_eq ld26_eq run_eq28 run_eqD
attribute [local go_sem] cells_EV EC_size
theorem Box.on {w w' : World} {g : Nat} {T : TypeId} {e : En} (h : Box w g T e) (hb : Below w.heap.size w w') : Box w' g T e := (hb.block g (Array.getElem?_eq_some_iff.1 h).1).trans h
set_option maxRecDepth 100000 in
set_option maxHeartbeats 1600000 in
theorem hasE_any (bo : Option Addr) (m cap : Nat) (B : List En) (y : En) (w : World) (hS : ESrc w bo m cap B) :
    Calls Tryz.prog 34 #[.slice bo m cap, EV y] w fun x w' => x = .returned (.bool (B.any (fun e => eqE e y))) ∧ Below w.heap.size w w' := by
  have b1 := below_new w (.cells (EC y) 49)
  have HX := hide (box_new w 49 y)
  have HS := hide (hS.below b1)
  have HB := hide b1
  have hmb := hS.2.2.2.2
  have HL : Hid (B.length = m) := hS.1
  clear hS b1
  obtain ⟨wk, hwk⟩ : ∃ wk, w.alloc (.cells (EC y) 49) = wk := ⟨_, rfl⟩
  obtain ⟨G, hG⟩ : ∃ G, w.heap.size = G := ⟨_, rfl⟩
  rw [hwk] at HX HS HB
  rw [hG] at HX
  go_enter Tryz.func34, Tryz.ntmps34
  go_wp2_with fail
  clear hwk hG
  go_loopw [5] (fun i wr => ∃ k : Nat, k ≤ m ∧ i = .int .i64 (k : Int) ∧ Hid (Below wk.heap.size wk wr ∧ (B.take k).any (fun e => eqE e y) = false)) (fun i _ => m - (intOf i).toNat)
  case atStart => exact ⟨0, Nat.zero_le _, rfl, Below.refl _ _, rfl⟩
  case round =>
    obtain ⟨k, hk, rfl, HI⟩ := hrel
    rename World => wr
    by_cases hlt : k < m
    · have hlti : (k : Int) < (m : Int) := by omega
      obtain ⟨ad, hao, A0⟩ := (HS.out.below HI.out.1).at k hlt
      subst hao
      obtain ⟨e, He⟩ : ∃ e, Hid (B.getD k en0 = e) := ⟨_, rfl⟩
      rw [He.out] at A0
      have HA0 := hide A0
      have Hlt := hide hlt
      have HT := hide (take_snoc B k (by rw [HL.out]; exact hlt))
      rw [He.out] at HT
      have HXr := hide (HX.out.on HI.out.1)
      have HSt : Hid (∀ W, Below wr.heap.size wr W → (ld28 (.pointer (some (ad.add (k * 4))))).run Tryz.prog W = .ok (EV e) W ∧ (ld28 (.pointer (some ⟨G, 0, none⟩))).run Tryz.prog W = .ok (EV y) W) := fun W hW => ⟨run_ld28 (HA0.out.on hW), run_ld28 (HXr.out.on hW).at⟩
      clear A0 hlt hk
      go_upto_region 4 with fail
      refine wp_region_held_drew (S := fun W => (ld28 (.pointer (some (ad.add (k * 4))))).run Tryz.prog W = .ok (EV e) W ∧ (ld28 (.pointer (some ⟨G, 0, none⟩))).run Tryz.prog W = .ok (EV y) W) (by kernel_rfl) (HSt.out _ (below_drew1 wr)) (fun hHeld => ?_)
      refine wpAnyH_take (i := 0) (oi := { dst := some 12, op := Op.move (Operand.tmp 0), type := 23, pos := "law.go:116", after := #[], guard := none }) (v := ?_) rfl (by kernel_rfl) (by kernel_rfl) (by kernel_rfl) (fun _ _ _ h => h) (Or.inl ⟨by rfl, ?_⟩) (by assumption) ?_
      rotate_left
      · (intro w hSw; (try dsimp only at hSw); go_simp); first | done | with_reducible rfl
      simp only [Act.put, List.setIfInBounds_toArray, List.set_cons_zero, List.set_cons_succ]
      refine wpAnyH_take (i := 1) (oi := { dst := some 13, op := Op.move (Operand.tmp 5), type := 3, pos := "law.go:116", after := #[], guard := none }) (v := ?_) rfl (by kernel_rfl) (by kernel_rfl) (by kernel_rfl) (fun _ _ _ h => h) (Or.inl ⟨by rfl, ?_⟩) (by assumption) ?_
      rotate_left
      · (intro w hSw; (try dsimp only at hSw); go_simp); first | done | with_reducible rfl
      simp only [Act.put, List.setIfInBounds_toArray, List.set_cons_zero, List.set_cons_succ]
      refine wpAnyH_take (i := 2) (oi := { dst := some 14, op := Op.indexAddr 23 (Operand.tmp 12) (Operand.tmp 13), type := 0, pos := "law.go:116", after := #[{ on := 0, ground := Ground.data }, { on := 1, ground := Ground.data }], guard := none }) (v := ?_) rfl (by kernel_rfl) (by kernel_rfl) (by kernel_rfl) (fun _ _ _ h => h) (Or.inl ⟨by rfl, ?_⟩) (by assumption) ?_
      rotate_left
      · (intro w hSw; (try dsimp only at hSw); go_simp); first | done | with_reducible rfl
      simp only [Act.put, List.setIfInBounds_toArray, List.set_cons_zero, List.set_cons_succ]
      refine wpAnyH_take (i := 3) (oi := { dst := some 15, op := Op.load 49 (Operand.tmp 14), type := 49, pos := "law.go:116", after := #[{ on := 2, ground := Ground.data }], guard := none }) (v := ?_) rfl (by kernel_rfl) (by kernel_rfl) (by kernel_rfl) (fun _ _ _ h => h) (Or.inl ⟨by rfl, ?_⟩) (by assumption) ?_
      rotate_left
      · (intro w hSw; (try dsimp only at hSw); go_simp); first | done | with_reducible rfl
      simp only [Act.put, List.setIfInBounds_toArray, List.set_cons_zero, List.set_cons_succ]
      refine wpAnyH_take (i := 4) (oi := { dst := some 16, op := Op.load 49 (Operand.tmp 3), type := 49, pos := "law.go:116", after := #[], guard := none }) (v := ?_) rfl (by kernel_rfl) (by kernel_rfl) (by kernel_rfl) (fun _ _ _ h => h) (Or.inl ⟨by rfl, ?_⟩) (by assumption) ?_
      rotate_left
      · (intro w hSw; (try dsimp only at hSw); go_simp); first | done | with_reducible rfl
      simp only [Act.put, List.setIfInBounds_toArray, List.set_cons_zero, List.set_cons_succ]
      refine wpAnyH_take (i := 5) (oi := { dst := some 17, op := Op.binOp BinOp.eql 49 (Operand.tmp 15) (Operand.tmp 16) 49, type := 4, pos := "law.go:116", after := #[{ on := 3, ground := Ground.data }, { on := 4, ground := Ground.data }], guard := none }) (v := ?_) rfl (by kernel_rfl) (by kernel_rfl) (by kernel_rfl) (fun _ _ _ h => h) (Or.inl ⟨by rfl, ?_⟩) (by assumption) ?_
      rotate_left
      · (intro w hSw; (try dsimp only at hSw); go_simp); first | done | with_reducible rfl
      simp only [Act.put, List.setIfInBounds_toArray, List.set_cons_zero, List.set_cons_succ]
      refine wpAnyH_done (by kernel_rfl) ?_ _
      clear hHeld
      have HBd := hide (HI.out.1.trans ((below_drew1 wr).mono HI.out.1.size))
      cases hq : eqE e y with
      | true =>
        have HE : Hid (Ending.returned (.bool true) = .returned (.bool (B.any (fun e => eqE e y))) ∧ Below w.heap.size w wr.drew) := by
          refine ⟨?_, HB.out.trans (HBd.out.mono HB.out.size)⟩
          have hkl : k < B.length := by rw [HL.out]; exact Hlt.out
          have et : B.getD k en0 = B[k] := by simp [List.getD, List.getElem?_eq_getElem hkl]
          have : B.any (fun e => eqE e y) = true := by
            rw [List.any_eq_true]
            exact ⟨e, by rw [← He.out, et]; exact List.getElem_mem hkl, hq⟩
          rw [this]
        clear hq
        go_wp2_with fail
        go_ret
        exact HE.out
      | false =>
        have HN : Hid ((B.take (k + 1)).any (fun e => eqE e y) = false) := by
          show _ = _
          rw [HT.out, List.any_append, HI.out.2]
          simp [hq]
        clear hq
        go_wp2_with fail
        go_roundw
        case rel => exact ⟨k + 1, Hlt.out, by simp, HBd.out, HN.out⟩
        case measure => simp [intOf]; have := Hlt.out; omega
    · have hlti : ¬ (k : Int) < (m : Int) := by omega
      have HE : Hid (Ending.returned (.bool false) = .returned (.bool (B.any (fun e => eqE e y))) ∧ Below w.heap.size w wr) := by
        refine ⟨?_, HB.out.trans (HI.out.1.mono HB.out.size)⟩
        have h := HI.out.2
        rw [List.take_of_length_le (by have := HL.out; omega)] at h
        rw [h]
      go_wp2_with fail
      go_ret
      exact HE.out
set_option maxRecDepth 100000 in
set_option maxHeartbeats 1600000 in
theorem dotInE_any (bo : Option Addr) (m cap : Nat) (B : List En) (y : En) (w : World) (hS : ESrc w bo m cap B) :
    Calls Tryz.prog 36 #[.slice bo m cap, .agg (DC y)] w fun x w' => x = .returned (.bool (B.any (fun e => sameDot e y))) ∧ Below w.heap.size w w' := by
  have b1 := below_new w (.cells (DC y) 47)
  have HX := hide (DBox_new w y)
  have HS := hide (hS.below b1)
  have HB := hide b1
  have hmb := hS.2.2.2.2
  have HL : Hid (B.length = m) := hS.1
  clear hS b1
  obtain ⟨wk, hwk⟩ : ∃ wk, w.alloc (.cells (DC y) 47) = wk := ⟨_, rfl⟩
  obtain ⟨G, hG⟩ : ∃ G, w.heap.size = G := ⟨_, rfl⟩
  rw [hwk] at HX HS HB
  rw [hG] at HX
  go_enter Tryz.func36, Tryz.ntmps36
  go_wp2_with fail
  clear hwk hG
  go_loopw [5] (fun i wr => ∃ k : Nat, k ≤ m ∧ i = .int .i64 (k : Int) ∧ Hid (Below wk.heap.size wk wr ∧ (B.take k).any (fun e => sameDot e y) = false)) (fun i _ => m - (intOf i).toNat)
  case atStart => exact ⟨0, Nat.zero_le _, rfl, Below.refl _ _, rfl⟩
  case round =>
    obtain ⟨k, hk, rfl, HI⟩ := hrel
    rename World => wr
    by_cases hlt : k < m
    · have hlti : (k : Int) < (m : Int) := by omega
      obtain ⟨ad, hao, A0⟩ := (HS.out.below HI.out.1).at k hlt
      subst hao
      obtain ⟨e, He⟩ : ∃ e, Hid (B.getD k en0 = e) := ⟨_, rfl⟩
      rw [He.out] at A0
      have HA0 := hide A0
      have Hlt := hide hlt
      have HT := hide (take_snoc B k (by rw [HL.out]; exact hlt))
      rw [He.out] at HT
      have HXr := hide (HX.out.below HI.out.1)
      have HSt : Hid (∀ W, Below wr.heap.size wr W → (ld26 (.pointer (some (ad.add (k * 4))))).run Tryz.prog W = .ok (.agg (DC e)) W ∧ (ld26 (.pointer (some ⟨G, 0, none⟩))).run Tryz.prog W = .ok (.agg (DC y)) W) := fun W hW => ⟨run_ld26 (HA0.out.on hW), run_ldb (HXr.out.below hW)⟩
      clear A0 hlt hk
      go_upto_region 4 with fail
      refine wp_region_held_drew (S := fun W => (ld26 (.pointer (some (ad.add (k * 4))))).run Tryz.prog W = .ok (.agg (DC e)) W ∧ (ld26 (.pointer (some ⟨G, 0, none⟩))).run Tryz.prog W = .ok (.agg (DC y)) W) (by kernel_rfl) (HSt.out _ (below_drew1 wr)) (fun hHeld => ?_)
      refine wpAnyH_take (i := 0) (oi := { dst := some 12, op := Op.move (Operand.tmp 0), type := 23, pos := "law.go:126", after := #[], guard := none }) (v := ?_) rfl (by kernel_rfl) (by kernel_rfl) (by kernel_rfl) (fun _ _ _ h => h) (Or.inl ⟨by rfl, ?_⟩) (by assumption) ?_
      rotate_left
      · (intro w hSw; (try dsimp only at hSw); go_simp); first | done | with_reducible rfl
      simp only [Act.put, List.setIfInBounds_toArray, List.set_cons_zero, List.set_cons_succ]
      refine wpAnyH_take (i := 1) (oi := { dst := some 13, op := Op.move (Operand.tmp 5), type := 3, pos := "law.go:126", after := #[], guard := none }) (v := ?_) rfl (by kernel_rfl) (by kernel_rfl) (by kernel_rfl) (fun _ _ _ h => h) (Or.inl ⟨by rfl, ?_⟩) (by assumption) ?_
      rotate_left
      · (intro w hSw; (try dsimp only at hSw); go_simp); first | done | with_reducible rfl
      simp only [Act.put, List.setIfInBounds_toArray, List.set_cons_zero, List.set_cons_succ]
      refine wpAnyH_take (i := 2) (oi := { dst := some 14, op := Op.indexAddr 23 (Operand.tmp 12) (Operand.tmp 13), type := 0, pos := "law.go:126", after := #[{ on := 0, ground := Ground.data }, { on := 1, ground := Ground.data }], guard := none }) (v := ?_) rfl (by kernel_rfl) (by kernel_rfl) (by kernel_rfl) (fun _ _ _ h => h) (Or.inl ⟨by rfl, ?_⟩) (by assumption) ?_
      rotate_left
      · (intro w hSw; (try dsimp only at hSw); go_simp); first | done | with_reducible rfl
      simp only [Act.put, List.setIfInBounds_toArray, List.set_cons_zero, List.set_cons_succ]
      refine wpAnyH_take (i := 3) (oi := { dst := some 15, op := Op.fieldAddr 49 (Operand.tmp 14) 0, type := 0, pos := "law.go:126", after := #[{ on := 2, ground := Ground.data }], guard := none }) (v := ?_) rfl (by kernel_rfl) (by kernel_rfl) (by kernel_rfl) (fun _ _ _ h => h) (Or.inl ⟨by rfl, ?_⟩) (by assumption) ?_
      rotate_left
      · (intro w hSw; (try dsimp only at hSw); go_simp); first | done | with_reducible rfl
      simp only [Act.put, List.setIfInBounds_toArray, List.set_cons_zero, List.set_cons_succ]
      refine wpAnyH_take (i := 4) (oi := { dst := some 16, op := Op.load 47 (Operand.tmp 15), type := 47, pos := "law.go:126", after := #[{ on := 3, ground := Ground.data }], guard := none }) (v := ?_) rfl (by kernel_rfl) (by kernel_rfl) (by kernel_rfl) (fun _ _ _ h => h) (Or.inl ⟨by rfl, ?_⟩) (by assumption) ?_
      rotate_left
      · (intro w hSw; (try dsimp only at hSw); go_simp); first | done | with_reducible rfl
      simp only [Act.put, List.setIfInBounds_toArray, List.set_cons_zero, List.set_cons_succ]
      refine wpAnyH_take (i := 5) (oi := { dst := some 17, op := Op.load 47 (Operand.tmp 3), type := 47, pos := "law.go:126", after := #[], guard := none }) (v := ?_) rfl (by kernel_rfl) (by kernel_rfl) (by kernel_rfl) (fun _ _ _ h => h) (Or.inl ⟨by rfl, ?_⟩) (by assumption) ?_
      rotate_left
      · (intro w hSw; (try dsimp only at hSw); go_simp); first | done | with_reducible rfl
      simp only [Act.put, List.setIfInBounds_toArray, List.set_cons_zero, List.set_cons_succ]
      refine wpAnyH_take (i := 6) (oi := { dst := some 18, op := Op.binOp BinOp.eql 47 (Operand.tmp 16) (Operand.tmp 17) 47, type := 4, pos := "law.go:126", after := #[{ on := 4, ground := Ground.data }, { on := 5, ground := Ground.data }], guard := none }) (v := ?_) rfl (by kernel_rfl) (by kernel_rfl) (by kernel_rfl) (fun _ _ _ h => h) (Or.inl ⟨by rfl, ?_⟩) (by assumption) ?_
      rotate_left
      · (intro w hSw; (try dsimp only at hSw); go_simp); first | done | with_reducible rfl
      simp only [Act.put, List.setIfInBounds_toArray, List.set_cons_zero, List.set_cons_succ]
      refine wpAnyH_done (by kernel_rfl) ?_ _
      clear hHeld
      have HBd := hide (HI.out.1.trans ((below_drew1 wr).mono HI.out.1.size))
      cases hq : sameDot e y with
      | true =>
        have HE : Hid (Ending.returned (.bool true) = .returned (.bool (B.any (fun e => sameDot e y))) ∧ Below w.heap.size w wr.drew) := by
          refine ⟨?_, HB.out.trans (HBd.out.mono HB.out.size)⟩
          have hkl : k < B.length := by rw [HL.out]; exact Hlt.out
          have et : B.getD k en0 = B[k] := by simp [List.getD, List.getElem?_eq_getElem hkl]
          have : B.any (fun e => sameDot e y) = true := by
            rw [List.any_eq_true]
            exact ⟨e, by rw [← He.out, et]; exact List.getElem_mem hkl, hq⟩
          rw [this]
        clear hq
        go_wp2_with fail
        go_ret
        exact HE.out
      | false =>
        have HN : Hid ((B.take (k + 1)).any (fun e => sameDot e y) = false) := by
          show _ = _
          rw [HT.out, List.any_append, HI.out.2]
          simp [hq]
        clear hq
        go_wp2_with fail
        go_roundw
        case rel => exact ⟨k + 1, Hlt.out, by simp, HBd.out, HN.out⟩
        case measure => simp [intOf]; have := Hlt.out; omega
    · have hlti : ¬ (k : Int) < (m : Int) := by omega
      have HE : Hid (Ending.returned (.bool false) = .returned (.bool (B.any (fun e => sameDot e y))) ∧ Below w.heap.size w wr) := by
        refine ⟨?_, HB.out.trans (HI.out.1.mono HB.out.size)⟩
        have h := HI.out.2
        rw [List.take_of_length_le (by have := HL.out; omega)] at h
        rw [h]
      go_wp2_with fail
      go_ret
      exact HE.out
end Go.Proofs.YtfpmijfcemopoaaGreat.K
