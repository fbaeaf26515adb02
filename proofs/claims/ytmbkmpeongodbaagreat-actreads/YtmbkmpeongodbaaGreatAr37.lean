/- EFa -/
import Derived.Test.YtmbkmpeongodbaaGreatAr24
import Derived.Test.YtmbkmpeongodbaaGreatAr29
import Derived.Test.YtmbkmpeongodbaaGreatAr11
import Derived.Deep.CutRange
namespace Go.Proofs.YtmbkmpeongodbaaGreat
open Go.RowKit
attribute [local go_sem ↓] ldP_eq stP_eq ldRe_eq stRe_eq ldD_eq stD_eq K.ld28_eq K.st28_eq K.run_eq28
attribute [local go_sem] cells_PV PC_size cells_ReV ReC_size K.cells_EV K.EC_size zero_ReC K.zero_EC
theorem list_ext {s u : ByteArray} (h : s.toList = u.toList) : s = u := by
  rw [ByteArray.toList_eq, ByteArray.toList_eq] at h
  exact ByteArray.ext (Array.ext' h)
theorem eqE_iff (x y : K.En) : K.eqE x y = true ↔ x = y := by
  obtain ⟨a, b, s, q⟩ := x
  obtain ⟨a', b', s', q'⟩ := y
  simp only [K.eqE, Bool.and_eq_true, beq_iff_eq, K.En.mk.injEq]
  constructor
  · rintro ⟨⟨⟨h1, h2⟩, h3⟩, h4⟩
    exact ⟨h1, h2, list_ext h3, h4⟩
  · rintro ⟨h1, h2, h3, h4⟩
    exact ⟨⟨⟨h1, h2⟩, by rw [h3]⟩, h4⟩
theorem below_drewB {n : Nat} {w W : World} (h : Below n w W) : Below n w W.drew := ⟨h.os, h.tape, h.output, h.size, h.block⟩
set_option maxRecDepth 100000 in
set_option maxHeartbeats 1600000 in
theorem entries08_any (ao bo : Option Addr) (n m ca cb : Nat) (L M : List K.En) (w : World) (hL : K.ESrc w ao n ca L) (hM : K.ESrc w bo m cb M) : Calls Tryz.prog 35 #[.slice ao n ca, .slice bo m cb] w fun e w' => GivesB w w' e (L = M) := by
  have HL := hide hL
  have HM := hide hM
  have hn := hL.2.2.2.2
  have hm := hM.2.2.2.2
  have HLl : Hid (L.length = n ∧ M.length = m) := ⟨hL.1, hM.1⟩
  clear hL hM
  by_cases hnm : n = m
  · subst hnm
    go_enter Tryz.func35, Tryz.ntmps35
    go_wp2_with fail
    go_loopw [5] (fun i wr => ∃ k : Nat, k ≤ n ∧ i = .int .i64 k ∧ Hid (L.take k = M.take k ∧ Below w.heap.size w wr)) (fun i _ => n - (intOf i).toNat)
    case atStart => exact ⟨0, Nat.zero_le _, rfl, rfl, Below.refl _ _⟩
    case round =>
      obtain ⟨k, hk, rfl, HK⟩ := hrel
      rename World => wr
      by_cases hlt : k < n
      · obtain ⟨ad, rfl, A0⟩ := (HL.out.below HK.out.2).at k hlt
        obtain ⟨bd, rfl, B0⟩ := (HM.out.below HK.out.2).at k hlt
        obtain ⟨x, Hx⟩ : ∃ x, Hid (L.getD k K.en0 = x) := ⟨_, rfl⟩
        obtain ⟨y, Hy⟩ : ∃ y, Hid (M.getD k K.en0 = y) := ⟨_, rfl⟩
        rw [Hx.out] at A0
        rw [Hy.out] at B0
        have HA := hide A0
        have HB := hide B0
        clear A0 B0
        have HTk : Hid (L.take (k + 1) = L.take k ++ [x] ∧ M.take (k + 1) = M.take k ++ [y]) := ⟨by rw [K.take_snoc L k (by have := HLl.out; omega), Hx.out], by rw [K.take_snoc M k (by have := HLl.out; omega), Hy.out]⟩
        have Hlt := hide hlt
        go_upto_region 6 with fail
        refine wp_region_held_drew (S := fun v => (K.ld28 (.pointer (some (ad.add (k * 4))))).run Tryz.prog v = .ok (K.EV x) v ∧ (K.ld28 (.pointer (some (bd.add (k * 4))))).run Tryz.prog v = .ok (K.EV y) v) (by kernel_rfl) (⟨K.run_ld28 (HA.out.on (below_drew1 wr)), K.run_ld28 (HB.out.on (below_drew1 wr))⟩) (fun hHeld => ?_)
        refine wpAnyH_take (i := 0) (oi := { dst := some 17, op := Op.move (Operand.tmp 0), type := 22, pos := "law.go:33", after := #[], guard := none }) (v := ?_) rfl (by kernel_rfl) (by kernel_rfl) (by kernel_rfl) (fun _ _ _ h => h) (Or.inl ⟨by rfl, ?_⟩) (by assumption) ?_
        rotate_left
        · (intro w hSw; (try dsimp only at hSw); go_simp); first | done | with_reducible rfl
        simp only [Act.put, List.setIfInBounds_toArray, List.set_cons_zero, List.set_cons_succ]
        refine wpAnyH_take (i := 1) (oi := { dst := some 18, op := Op.move (Operand.tmp 5), type := 3, pos := "law.go:33", after := #[], guard := none }) (v := ?_) rfl (by kernel_rfl) (by kernel_rfl) (by kernel_rfl) (fun _ _ _ h => h) (Or.inl ⟨by rfl, ?_⟩) (by assumption) ?_
        rotate_left
        · (intro w hSw; (try dsimp only at hSw); go_simp); first | done | with_reducible rfl
        simp only [Act.put, List.setIfInBounds_toArray, List.set_cons_zero, List.set_cons_succ]
        refine wpAnyH_take (i := 2) (oi := { dst := some 19, op := Op.indexAddr 22 (Operand.tmp 17) (Operand.tmp 18), type := 0, pos := "law.go:33", after := #[{ on := 0, ground := Ground.data }, { on := 1, ground := Ground.data }], guard := none }) (v := ?_) rfl (by kernel_rfl) (by kernel_rfl) (by kernel_rfl) (fun _ _ _ h => h) (Or.inl ⟨by rfl, ?_⟩) (by assumption) ?_
        rotate_left
        · (intro w hSw; (try dsimp only at hSw); go_simp); first | done | with_reducible rfl
        simp only [Act.put, List.setIfInBounds_toArray, List.set_cons_zero, List.set_cons_succ]
        refine wpAnyH_take (i := 3) (oi := { dst := some 20, op := Op.load 46 (Operand.tmp 19), type := 46, pos := "law.go:33", after := #[{ on := 2, ground := Ground.data }], guard := none }) (v := ?_) rfl (by kernel_rfl) (by kernel_rfl) (by kernel_rfl) (fun _ _ _ h => h) (Or.inl ⟨by rfl, ?_⟩) (by assumption) ?_
        rotate_left
        · (intro w hSw; (try dsimp only at hSw); go_simp); first | done | with_reducible rfl
        simp only [Act.put, List.setIfInBounds_toArray, List.set_cons_zero, List.set_cons_succ]
        refine wpAnyH_take (i := 4) (oi := { dst := some 21, op := Op.move (Operand.tmp 1), type := 22, pos := "law.go:33", after := #[], guard := none }) (v := ?_) rfl (by kernel_rfl) (by kernel_rfl) (by kernel_rfl) (fun _ _ _ h => h) (Or.inl ⟨by rfl, ?_⟩) (by assumption) ?_
        rotate_left
        · (intro w hSw; (try dsimp only at hSw); go_simp); first | done | with_reducible rfl
        simp only [Act.put, List.setIfInBounds_toArray, List.set_cons_zero, List.set_cons_succ]
        refine wpAnyH_take (i := 5) (oi := { dst := some 22, op := Op.move (Operand.tmp 5), type := 3, pos := "law.go:33", after := #[], guard := none }) (v := ?_) rfl (by kernel_rfl) (by kernel_rfl) (by kernel_rfl) (fun _ _ _ h => h) (Or.inl ⟨by rfl, ?_⟩) (by assumption) ?_
        rotate_left
        · (intro w hSw; (try dsimp only at hSw); go_simp); first | done | with_reducible rfl
        simp only [Act.put, List.setIfInBounds_toArray, List.set_cons_zero, List.set_cons_succ]
        refine wpAnyH_take (i := 6) (oi := { dst := some 23, op := Op.indexAddr 22 (Operand.tmp 21) (Operand.tmp 22), type := 0, pos := "law.go:33", after := #[{ on := 4, ground := Ground.data }, { on := 5, ground := Ground.data }], guard := none }) (v := ?_) rfl (by kernel_rfl) (by kernel_rfl) (by kernel_rfl) (fun _ _ _ h => h) (Or.inl ⟨by rfl, ?_⟩) (by assumption) ?_
        rotate_left
        · (intro w hSw; (try dsimp only at hSw); go_simp); first | done | with_reducible rfl
        simp only [Act.put, List.setIfInBounds_toArray, List.set_cons_zero, List.set_cons_succ]
        refine wpAnyH_take (i := 7) (oi := { dst := some 24, op := Op.load 46 (Operand.tmp 23), type := 46, pos := "law.go:33", after := #[{ on := 6, ground := Ground.data }], guard := none }) (v := ?_) rfl (by kernel_rfl) (by kernel_rfl) (by kernel_rfl) (fun _ _ _ h => h) (Or.inl ⟨by rfl, ?_⟩) (by assumption) ?_
        rotate_left
        · (intro w hSw; (try dsimp only at hSw); go_simp); first | done | with_reducible rfl
        simp only [Act.put, List.setIfInBounds_toArray, List.set_cons_zero, List.set_cons_succ]
        cases hxy : K.eqE x y with
        | false =>
          refine wpAnyH_take (i := 8) (oi := { dst := some 25, op := Op.binOp BinOp.neq 46 (Operand.tmp 20) (Operand.tmp 24) 46, type := 4, pos := "law.go:33", after := #[{ on := 3, ground := Ground.data }, { on := 7, ground := Ground.data }], guard := none }) (v := ?_) rfl (by kernel_rfl) (by kernel_rfl) (by kernel_rfl) (fun _ _ _ h => h) (Or.inl ⟨by rfl, ?_⟩) (by assumption) ?_
          rotate_left
          · (intro w hSw; (try dsimp only at hSw); go_simp); first | done | with_reducible rfl
          simp only [Act.put, List.setIfInBounds_toArray, List.set_cons_zero, List.set_cons_succ]
          refine wpAnyH_done (by kernel_rfl) ?_ _
          clear hHeld
          have HF : Hid (GivesB w wr.drew (.returned (.bool false)) (L = M)) := by
            refine ⟨false, rfl, ⟨(fun h => by cases h), fun h => ?_⟩, below_drewB HK.out.2⟩
            have : x = y := by rw [← Hx.out, ← Hy.out, h]
            rw [(eqE_iff x y).2 this] at hxy
            cases hxy
          clear hxy
          go_wp2_with fail
          go_ret
          exact HF.out
        | true =>
          refine wpAnyH_take (i := 8) (oi := { dst := some 25, op := Op.binOp BinOp.neq 46 (Operand.tmp 20) (Operand.tmp 24) 46, type := 4, pos := "law.go:33", after := #[{ on := 3, ground := Ground.data }, { on := 7, ground := Ground.data }], guard := none }) (v := ?_) rfl (by kernel_rfl) (by kernel_rfl) (by kernel_rfl) (fun _ _ _ h => h) (Or.inl ⟨by rfl, ?_⟩) (by assumption) ?_
          rotate_left
          · (intro w hSw; (try dsimp only at hSw); go_simp); first | done | with_reducible rfl
          simp only [Act.put, List.setIfInBounds_toArray, List.set_cons_zero, List.set_cons_succ]
          refine wpAnyH_done (by kernel_rfl) ?_ _
          clear hHeld
          have HE : Hid (L.take (k + 1) = M.take (k + 1)) := by show _ = _; rw [HTk.out.1, HTk.out.2, HK.out.1, (eqE_iff x y).1 hxy]
          clear hxy
          go_wp2_with fail
          go_roundw
          case rel => exact ⟨k + 1, by omega, by simp, HE.out, below_drewB HK.out.2⟩
          case measure => simp [intOf]; omega
      · obtain rfl : k = n := by omega
        have HF : Hid (GivesB w wr (.returned (.bool true)) (L = M)) := by
          refine ⟨true, rfl, ⟨fun _ => ?_, fun _ => rfl⟩, HK.out.2⟩
          have h := HK.out.1
          rw [List.take_of_length_le (by have := HLl.out; omega), List.take_of_length_le (by have := HLl.out; omega)] at h
          exact h
        go_wp2_with fail
        go_ret
        exact HF.out
  · have hne : ((n : Int) != (m : Int)) = true := by simp; omega
    have HF : Hid (GivesB w w (.returned (.bool false)) (L = M)) := ⟨false, rfl, ⟨(fun h => by cases h), fun h => by rw [h] at HLl; have := HLl.out; omega⟩, Below.refl _ _⟩
    go_enter Tryz.func35, Tryz.ntmps35
    go_wp2_with fail
    go_ret
    exact HF.out
end Go.Proofs.YtmbkmpeongodbaaGreat
