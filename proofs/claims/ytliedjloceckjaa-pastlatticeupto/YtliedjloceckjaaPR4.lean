/- PastLattice: the steps of a region that draws its order. -/
import Derived.Test.YtliedjloceckjaaPLh
namespace Go.Proofs.Ytliedjloceckjaa
open Go.RowKit
attribute [local go_sem ↓] ldP_eq stP_eq
attribute [local go_sem] zero_PC cells_PV fold_PC PC_size fold_PC1 fold_PC2 fold_PC3
def Ph4 (a b _ : Pv) (_ : World) (_ : World) : Nat → Value → World → Prop
  | 0, x, _ => x = PV a
  | 1, x, _ => x = PV b
  | 2, x, W => ∃ g, x = .slice (some ⟨g, 0, none⟩) 2 2 ∧ PRow W (some ⟨g, 0, none⟩) 2 [a, b]
  | 4, x, _ => x = PV a
  | 5, x, _ => x = PV b
  | 7, x, _ => x = PV a
  | 8, x, _ => x = PV b
  | _, _, _ => True
theorem Ph4_mono (a b c : Pv) (w : World) (W0 : World) : Mono (Ph4 a b c w W0) := fun i x W W' h hb => match i with
  | 0 => h
  | 1 => h
  | 2 => by obtain ⟨g, e, R⟩ := h; exact ⟨g, e, R.below hb⟩
  | 4 => h
  | 5 => h
  | 7 => h
  | 8 => h
  | 3 => trivial
  | 6 => trivial
  | 9 => trivial
  | 10 => trivial
  | 11 => trivial
  | 12 => trivial
  | 13 => trivial
  | 14 => trivial
  | 15 => trivial
  | _ + 16 => trivial
theorem Ph4_inv (a b c : Pv) (w : World) (W0 : World) : ∀ j x U U', j ∉ [2] → Ph4 a b c w W0 j x U → Ph4 a b c w W0 j x U' := fun j x U U' hj h => match j with
  | 0 => h
  | 1 => h
  | 2 => absurd (by decide) hj
  | 4 => h
  | 5 => h
  | 7 => h
  | 8 => h
  | 3 => trivial
  | 6 => trivial
  | 9 => trivial
  | 10 => trivial
  | 11 => trivial
  | 12 => trivial
  | 13 => trivial
  | 14 => trivial
  | 15 => trivial
  | _ + 16 => trivial
set_option maxRecDepth 100000 in
set_option maxHeartbeats 4000000 in
theorem st4 {a b c : Pv} {dv : Value} {rp ms : Int} {w y1 : World} {ga gb gc : Nat} (HA : Hid (PSrc y1 a)) (HB : Hid (PSrc y1 b)) (HXga : Hid (PBox y1 ga a)) (HXgb : Hid (PBox y1 gb b)) (HW : Hid (wt [a, b, c] ≤ 4000000000000)) {Q : Exit → Act → World → Prop} :
    ∀ (l : Array Bool) (x : Act) (W : World), (∃ v4x0 v4x1 v4x2 v4x3 v4x4 v4x5 v4x6 v4x7 v4x8 v4x9 v4x10 v4x11 v4x12, x = { tmps := #[CaseV a b c dv rp ms, ptr w.heap.size, .bool false, ptr ga, ptr gb, ptr gc, v4x10, v4x11, v4x12, undef, .bool true, .bool false, .pointer (some ⟨w.heap.size, 0, none⟩), PV a, .pointer (some ⟨w.heap.size, 2, none⟩), PV b, .pointer (some ⟨w.heap.size, 4, none⟩), PV c, v4x0, v4x1, v4x2, v4x3, v4x4, v4x5, v4x6, v4x7, v4x8, v4x9, undef, undef, undef, undef, undef, undef, undef, undef, undef, undef, undef, undef, undef, undef, undef, undef, undef, undef, undef, undef, undef, undef, undef, undef, undef, undef, undef, undef, undef, undef, undef, undef, undef, undef, undef, undef, undef, undef, undef, undef, undef, undef, undef, undef, undef, undef, undef, undef, undef, undef, undef, undef, undef, undef, undef, undef, undef, undef, undef, undef, undef, undef, undef, undef, undef, undef, undef, undef, undef, undef, undef, undef, undef, undef, undef, undef, undef, undef, undef, undef, undef, undef, undef, undef, undef, undef, undef, undef, undef, undef, undef, undef, undef, undef, undef, undef, undef, undef, undef, undef, undef, undef, undef, undef, undef, undef, undef, undef, undef, undef, undef, undef, undef, undef, undef, undef, undef, undef, undef, undef, undef, undef, undef, undef, undef, undef, undef, undef, undef, undef, undef, undef, undef, undef, undef, undef, undef, undef, undef, undef, undef, undef, undef, undef, undef, undef, undef, undef, undef, undef, undef, undef, undef, undef, undef, undef, undef, undef], defers := [] } ∧ BI 16 13 y1 (Ph4 a b c w y1) [2] [(3, IsP (mOr (mP a.P) (mP b.P))), (6, IsP (mAnd (mP a.P) (mP b.P))), (9, IsP (mNot (mP a.P) (mP b.P)))] [(10, 13, 3), (11, 14, 6), (12, 15, 9)] l W [v4x0, v4x1, v4x2, v4x3, v4x4, v4x5, v4x6, v4x7, v4x8, v4x9, v4x10, v4x11, v4x12, undef, undef, undef]) → ∀ i, i ∈ Region.ready .any #[{ dst := some 18, op := Op.load 25 (Operand.tmp 3), type := 25, pos := "law.go:188", after := #[], guard := none }, { dst := some 19, op := Op.load 25 (Operand.tmp 4), type := 25, pos := "law.go:188", after := #[], guard := none }, { dst := some 20, op := Op.buildSlice 43 2 #[(0, Operand.tmp 18), (1, Operand.tmp 19)], type := 43, pos := "law.go:188", after := #[{ on := 0, ground := Ground.data }, { on := 1, ground := Ground.data }], guard := none }, { dst := some 21, op := Op.call { callee := Callee.value (Operand.func 5), args := #[Operand.tmp 20], argTypes := #[43] }, type := 25, pos := "law.go:188", after := #[{ on := 2, ground := Ground.data }], guard := none }, { dst := some 22, op := Op.load 25 (Operand.tmp 3), type := 25, pos := "law.go:188", after := #[], guard := none }, { dst := some 23, op := Op.load 25 (Operand.tmp 4), type := 25, pos := "law.go:188", after := #[], guard := none }, { dst := some 24, op := Op.call { callee := Callee.value (Operand.func 6), args := #[Operand.tmp 22, Operand.tmp 23], argTypes := #[25, 25] }, type := 25, pos := "law.go:188", after := #[{ on := 4, ground := Ground.data }, { on := 5, ground := Ground.data }, { on := 3, ground := Ground.chain }], guard := none }, { dst := some 25, op := Op.load 25 (Operand.tmp 3), type := 25, pos := "law.go:188", after := #[], guard := none }, { dst := some 26, op := Op.load 25 (Operand.tmp 4), type := 25, pos := "law.go:188", after := #[], guard := none }, { dst := some 27, op := Op.call { callee := Callee.value (Operand.func 7), args := #[Operand.tmp 25, Operand.tmp 26], argTypes := #[25, 25] }, type := 25, pos := "law.go:188", after := #[{ on := 7, ground := Ground.data }, { on := 8, ground := Ground.data }, { on := 6, ground := Ground.chain }], guard := none }, { dst := some 6, op := Op.alloc 25, type := 0, pos := "law.go:188", after := #[], guard := none }, { dst := some 7, op := Op.alloc 25, type := 0, pos := "law.go:188", after := #[], guard := none }, { dst := some 8, op := Op.alloc 25, type := 0, pos := "law.go:188", after := #[], guard := none }, { dst := none, op := Op.store 25 (Operand.tmp 6) (Operand.tmp 21), type := 0, pos := "law.go:188", after := #[{ on := 10, ground := Ground.data }, { on := 3, ground := Ground.data }, { on := 9, ground := Ground.chain }, { on := 0, ground := Ground.phase }, { on := 1, ground := Ground.phase }, { on := 2, ground := Ground.phase }, { on := 3, ground := Ground.phase }, { on := 4, ground := Ground.textOnly Departure.lateStores }, { on := 5, ground := Ground.textOnly Departure.lateStores }, { on := 6, ground := Ground.textOnly Departure.lateStoresUnsure }, { on := 7, ground := Ground.textOnly Departure.lateStores }, { on := 8, ground := Ground.textOnly Departure.lateStores }, { on := 9, ground := Ground.textOnly Departure.lateStoresUnsure }, { on := 10, ground := Ground.phase }, { on := 11, ground := Ground.phase }, { on := 12, ground := Ground.phase }], guard := none }, { dst := none, op := Op.store 25 (Operand.tmp 7) (Operand.tmp 24), type := 0, pos := "law.go:188", after := #[{ on := 11, ground := Ground.data }, { on := 6, ground := Ground.data }, { on := 13, ground := Ground.chain }, { on := 0, ground := Ground.phase }, { on := 1, ground := Ground.phase }, { on := 2, ground := Ground.phase }, { on := 3, ground := Ground.phase }, { on := 4, ground := Ground.phase }, { on := 5, ground := Ground.phase }, { on := 6, ground := Ground.phase }, { on := 7, ground := Ground.textOnly Departure.lateStores }, { on := 8, ground := Ground.textOnly Departure.lateStores }, { on := 9, ground := Ground.textOnly Departure.lateStoresUnsure }, { on := 10, ground := Ground.phase }, { on := 11, ground := Ground.phase }, { on := 12, ground := Ground.phase }, { on := 13, ground := Ground.phase }], guard := none }, { dst := none, op := Op.store 25 (Operand.tmp 8) (Operand.tmp 27), type := 0, pos := "law.go:188", after := #[{ on := 12, ground := Ground.data }, { on := 9, ground := Ground.data }, { on := 14, ground := Ground.chain }, { on := 0, ground := Ground.phase }, { on := 1, ground := Ground.phase }, { on := 2, ground := Ground.phase }, { on := 3, ground := Ground.phase }, { on := 4, ground := Ground.phase }, { on := 5, ground := Ground.phase }, { on := 6, ground := Ground.phase }, { on := 7, ground := Ground.phase }, { on := 8, ground := Ground.phase }, { on := 9, ground := Ground.phase }, { on := 10, ground := Ground.phase }, { on := 11, ground := Ground.phase }, { on := 12, ground := Ground.phase }, { on := 13, ground := Ground.phase }, { on := 14, ground := Ground.phase }], guard := none }] l → wpOp Try.prog #[{ dst := some 18, op := Op.load 25 (Operand.tmp 3), type := 25, pos := "law.go:188", after := #[], guard := none }, { dst := some 19, op := Op.load 25 (Operand.tmp 4), type := 25, pos := "law.go:188", after := #[], guard := none }, { dst := some 20, op := Op.buildSlice 43 2 #[(0, Operand.tmp 18), (1, Operand.tmp 19)], type := 43, pos := "law.go:188", after := #[{ on := 0, ground := Ground.data }, { on := 1, ground := Ground.data }], guard := none }, { dst := some 21, op := Op.call { callee := Callee.value (Operand.func 5), args := #[Operand.tmp 20], argTypes := #[43] }, type := 25, pos := "law.go:188", after := #[{ on := 2, ground := Ground.data }], guard := none }, { dst := some 22, op := Op.load 25 (Operand.tmp 3), type := 25, pos := "law.go:188", after := #[], guard := none }, { dst := some 23, op := Op.load 25 (Operand.tmp 4), type := 25, pos := "law.go:188", after := #[], guard := none }, { dst := some 24, op := Op.call { callee := Callee.value (Operand.func 6), args := #[Operand.tmp 22, Operand.tmp 23], argTypes := #[25, 25] }, type := 25, pos := "law.go:188", after := #[{ on := 4, ground := Ground.data }, { on := 5, ground := Ground.data }, { on := 3, ground := Ground.chain }], guard := none }, { dst := some 25, op := Op.load 25 (Operand.tmp 3), type := 25, pos := "law.go:188", after := #[], guard := none }, { dst := some 26, op := Op.load 25 (Operand.tmp 4), type := 25, pos := "law.go:188", after := #[], guard := none }, { dst := some 27, op := Op.call { callee := Callee.value (Operand.func 7), args := #[Operand.tmp 25, Operand.tmp 26], argTypes := #[25, 25] }, type := 25, pos := "law.go:188", after := #[{ on := 7, ground := Ground.data }, { on := 8, ground := Ground.data }, { on := 6, ground := Ground.chain }], guard := none }, { dst := some 6, op := Op.alloc 25, type := 0, pos := "law.go:188", after := #[], guard := none }, { dst := some 7, op := Op.alloc 25, type := 0, pos := "law.go:188", after := #[], guard := none }, { dst := some 8, op := Op.alloc 25, type := 0, pos := "law.go:188", after := #[], guard := none }, { dst := none, op := Op.store 25 (Operand.tmp 6) (Operand.tmp 21), type := 0, pos := "law.go:188", after := #[{ on := 10, ground := Ground.data }, { on := 3, ground := Ground.data }, { on := 9, ground := Ground.chain }, { on := 0, ground := Ground.phase }, { on := 1, ground := Ground.phase }, { on := 2, ground := Ground.phase }, { on := 3, ground := Ground.phase }, { on := 4, ground := Ground.textOnly Departure.lateStores }, { on := 5, ground := Ground.textOnly Departure.lateStores }, { on := 6, ground := Ground.textOnly Departure.lateStoresUnsure }, { on := 7, ground := Ground.textOnly Departure.lateStores }, { on := 8, ground := Ground.textOnly Departure.lateStores }, { on := 9, ground := Ground.textOnly Departure.lateStoresUnsure }, { on := 10, ground := Ground.phase }, { on := 11, ground := Ground.phase }, { on := 12, ground := Ground.phase }], guard := none }, { dst := none, op := Op.store 25 (Operand.tmp 7) (Operand.tmp 24), type := 0, pos := "law.go:188", after := #[{ on := 11, ground := Ground.data }, { on := 6, ground := Ground.data }, { on := 13, ground := Ground.chain }, { on := 0, ground := Ground.phase }, { on := 1, ground := Ground.phase }, { on := 2, ground := Ground.phase }, { on := 3, ground := Ground.phase }, { on := 4, ground := Ground.phase }, { on := 5, ground := Ground.phase }, { on := 6, ground := Ground.phase }, { on := 7, ground := Ground.textOnly Departure.lateStores }, { on := 8, ground := Ground.textOnly Departure.lateStores }, { on := 9, ground := Ground.textOnly Departure.lateStoresUnsure }, { on := 10, ground := Ground.phase }, { on := 11, ground := Ground.phase }, { on := 12, ground := Ground.phase }, { on := 13, ground := Ground.phase }], guard := none }, { dst := none, op := Op.store 25 (Operand.tmp 8) (Operand.tmp 27), type := 0, pos := "law.go:188", after := #[{ on := 12, ground := Ground.data }, { on := 9, ground := Ground.data }, { on := 14, ground := Ground.chain }, { on := 0, ground := Ground.phase }, { on := 1, ground := Ground.phase }, { on := 2, ground := Ground.phase }, { on := 3, ground := Ground.phase }, { on := 4, ground := Ground.phase }, { on := 5, ground := Ground.phase }, { on := 6, ground := Ground.phase }, { on := 7, ground := Ground.phase }, { on := 8, ground := Ground.phase }, { on := 9, ground := Ground.phase }, { on := 10, ground := Ground.phase }, { on := 11, ground := Ground.phase }, { on := 12, ground := Ground.phase }, { on := 13, ground := Ground.phase }, { on := 14, ground := Ground.phase }], guard := none }] Q i (fun a' w' => ∃ v4x0 v4x1 v4x2 v4x3 v4x4 v4x5 v4x6 v4x7 v4x8 v4x9 v4x10 v4x11 v4x12, a' = { tmps := #[CaseV a b c dv rp ms, ptr w.heap.size, .bool false, ptr ga, ptr gb, ptr gc, v4x10, v4x11, v4x12, undef, .bool true, .bool false, .pointer (some ⟨w.heap.size, 0, none⟩), PV a, .pointer (some ⟨w.heap.size, 2, none⟩), PV b, .pointer (some ⟨w.heap.size, 4, none⟩), PV c, v4x0, v4x1, v4x2, v4x3, v4x4, v4x5, v4x6, v4x7, v4x8, v4x9, undef, undef, undef, undef, undef, undef, undef, undef, undef, undef, undef, undef, undef, undef, undef, undef, undef, undef, undef, undef, undef, undef, undef, undef, undef, undef, undef, undef, undef, undef, undef, undef, undef, undef, undef, undef, undef, undef, undef, undef, undef, undef, undef, undef, undef, undef, undef, undef, undef, undef, undef, undef, undef, undef, undef, undef, undef, undef, undef, undef, undef, undef, undef, undef, undef, undef, undef, undef, undef, undef, undef, undef, undef, undef, undef, undef, undef, undef, undef, undef, undef, undef, undef, undef, undef, undef, undef, undef, undef, undef, undef, undef, undef, undef, undef, undef, undef, undef, undef, undef, undef, undef, undef, undef, undef, undef, undef, undef, undef, undef, undef, undef, undef, undef, undef, undef, undef, undef, undef, undef, undef, undef, undef, undef, undef, undef, undef, undef, undef, undef, undef, undef, undef, undef, undef, undef, undef, undef, undef, undef, undef, undef, undef, undef, undef, undef, undef, undef, undef, undef, undef, undef, undef, undef, undef, undef, undef, undef], defers := [] } ∧ BI 16 13 y1 (Ph4 a b c w y1) [2] [(3, IsP (mOr (mP a.P) (mP b.P))), (6, IsP (mAnd (mP a.P) (mP b.P))), (9, IsP (mNot (mP a.P) (mP b.P)))] [(10, 13, 3), (11, 14, 6), (12, 15, 9)] (l.setIfInBounds i true) w' [v4x0, v4x1, v4x2, v4x3, v4x4, v4x5, v4x6, v4x7, v4x8, v4x9, v4x10, v4x11, v4x12, undef, undef, undef]) x W := by
  rintro l x W ⟨v4x0, v4x1, v4x2, v4x3, v4x4, v4x5, v4x6, v4x7, v4x8, v4x9, v4x10, v4x11, v4x12, rfl, T⟩ i hi
  obtain ⟨hi1, hi2, hi3⟩ := ready_mem hi
  have hi4 := no_true hi2
  have hc : i = 0 ∨ i = 1 ∨ i = 2 ∨ i = 3 ∨ i = 4 ∨ i = 5 ∨ i = 6 ∨ i = 7 ∨ i = 8 ∨ i = 9 ∨ i = 10 ∨ i = 11 ∨ i = 12 ∨ i = 13 ∨ i = 14 ∨ i = 15 := by have h : i < 16 := hi1; omega
  have HT := hide T
  clear T
  rcases hc with rfl | rfl | rfl | rfl | rfl | rfl | rfl | rfl | rfl | rfl | rfl | rfl | rfl | rfl | rfl | rfl
  · have HL := hide hi4
    clear hi hi1 hi2 hi3 hi4
    have l1 := run_ldP (HXga.out.below HT.out.b).at
    refine wpOp_step (o := { dst := some 18, op := Op.load 25 (Operand.tmp 3), type := 25, pos := "law.go:188", after := #[], guard := none }) rfl (fun K hK => ?_)
    go_simp
    exact hK _ _ ⟨PV a, v4x1, v4x2, v4x3, v4x4, v4x5, v4x6, v4x7, v4x8, v4x9, v4x10, v4x11, v4x12, rfl, HT.out.plain (Ph4_mono a b c w y1) (Below.refl _ _) 0 (by decide) HL.out _ rfl (by simp) (by simp) (by decide)⟩
  · have HL := hide hi4
    clear hi hi1 hi2 hi3 hi4
    have l1 := run_ldP (HXgb.out.below HT.out.b).at
    refine wpOp_step (o := { dst := some 19, op := Op.load 25 (Operand.tmp 4), type := 25, pos := "law.go:188", after := #[], guard := none }) rfl (fun K hK => ?_)
    go_simp
    exact hK _ _ ⟨v4x0, PV b, v4x2, v4x3, v4x4, v4x5, v4x6, v4x7, v4x8, v4x9, v4x10, v4x11, v4x12, rfl, HT.out.plain (Ph4_mono a b c w y1) (Below.refl _ _) 1 (by decide) HL.out _ rfl (by simp) (by simp) (by decide)⟩
  · have d0 := hi3 _ rfl { on := 0, ground := Ground.data } (by simp) rfl
    have d1 := hi3 _ rfl { on := 1, ground := Ground.data } (by simp) rfl
    have e0 : v4x0 = PV a := HT.out.h 0 (by decide) d0 (fun hm => absurd hm (by decide))
    subst e0
    have e1 : v4x1 = PV b := HT.out.h 1 (by decide) d1 (fun hm => absurd hm (by decide))
    subst e1
    have HL := hide hi4
    clear hi hi1 hi2 hi3 hi4 d0 d1
    refine wpOp_step (o := { dst := some 20, op := Op.buildSlice 43 2 #[(0, Operand.tmp 18), (1, Operand.tmp 19)], type := 43, pos := "law.go:188", after := #[{ on := 0, ground := Ground.data }, { on := 1, ground := Ground.data }], guard := none }) rfl (fun K hK => ?_)
    go_simp
    exact hK _ _ ⟨_, _, .slice (some ⟨W.heap.size, 0, none⟩) 2 2, v4x3, v4x4, v4x5, v4x6, v4x7, v4x8, v4x9, v4x10, v4x11, v4x12, rfl, HT.out.plain (Ph4_mono a b c w y1) (below_new _ _) 2 (by decide) HL.out _ ⟨_, rfl, prow_two W a b (HA.out.below HT.out.b) (HB.out.below HT.out.b)⟩ (by simp) (by simp) (by decide)⟩
  · have d2 := hi3 _ rfl { on := 2, ground := Ground.data } (by simp) rfl
    have nst : l.getD 13 false = false := by
      cases e : l.getD 13 false with
      | false => rfl
      | true => have := (HT.out.c (10, 13, 3) (by simp) e).2.1; rw [hi4] at this; cases this
    obtain ⟨g2, e2, R2⟩ : ∃ g, v4x2 = .slice (some ⟨g, 0, none⟩) 2 2 ∧ PRow W (some ⟨g, 0, none⟩) 2 [a, b] := HT.out.h 2 (by decide) d2 (fun _ => nst)
    subst e2
    have HR2 := hide R2
    clear R2
    have HL := hide hi4
    clear hi hi1 hi2 hi3 hi4 d2 nst
    refine wpOp_step (o := { dst := some 21, op := Op.call { callee := Callee.value (Operand.func 5), args := #[Operand.tmp 20], argTypes := #[43] }, type := 25, pos := "law.go:188", after := #[{ on := 2, ground := Ground.data }], guard := none }) rfl (fun K hK => ?_)
    go_simp
    go_wp2_with fail
    refine (pastJoin_any _ 2 2 [a, b] _ HR2.out (by have h := HW.out; simp only [wt] at h ⊢; omega) (by omega)).mono ?_
    rintro e w' ⟨pp, rfl, pS, pN, pb, pq⟩
    exact hK _ _ ⟨v4x0, v4x1, _, PV pp, v4x4, v4x5, v4x6, v4x7, v4x8, v4x9, v4x10, v4x11, v4x12, rfl, HT.out.call (Ph4_mono a b c w y1) pb 3 (IsP (mOr (mP a.P) (mP b.P))) (by decide) HL.out (by simp) (by simp) pp pS pN (isP_join2 pq) (fun _ _ => trivial) (by simp) (by decide)⟩
  · have HL := hide hi4
    clear hi hi1 hi2 hi3 hi4
    have l1 := run_ldP (HXga.out.below HT.out.b).at
    refine wpOp_step (o := { dst := some 22, op := Op.load 25 (Operand.tmp 3), type := 25, pos := "law.go:188", after := #[], guard := none }) rfl (fun K hK => ?_)
    go_simp
    exact hK _ _ ⟨v4x0, v4x1, v4x2, v4x3, PV a, v4x5, v4x6, v4x7, v4x8, v4x9, v4x10, v4x11, v4x12, rfl, HT.out.plain (Ph4_mono a b c w y1) (Below.refl _ _) 4 (by decide) HL.out _ rfl (by simp) (by simp) (by decide)⟩
  · have HL := hide hi4
    clear hi hi1 hi2 hi3 hi4
    have l1 := run_ldP (HXgb.out.below HT.out.b).at
    refine wpOp_step (o := { dst := some 23, op := Op.load 25 (Operand.tmp 4), type := 25, pos := "law.go:188", after := #[], guard := none }) rfl (fun K hK => ?_)
    go_simp
    exact hK _ _ ⟨v4x0, v4x1, v4x2, v4x3, v4x4, PV b, v4x6, v4x7, v4x8, v4x9, v4x10, v4x11, v4x12, rfl, HT.out.plain (Ph4_mono a b c w y1) (Below.refl _ _) 5 (by decide) HL.out _ rfl (by simp) (by simp) (by decide)⟩
  · have d4 := hi3 _ rfl { on := 4, ground := Ground.data } (by simp) rfl
    have d5 := hi3 _ rfl { on := 5, ground := Ground.data } (by simp) rfl
    have e4 : v4x4 = PV a := HT.out.h 4 (by decide) d4 (fun hm => absurd hm (by decide))
    subst e4
    have e5 : v4x5 = PV b := HT.out.h 5 (by decide) d5 (fun hm => absurd hm (by decide))
    subst e5
    have HL := hide hi4
    clear hi hi1 hi2 hi3 hi4 d4 d5
    refine wpOp_step (o := { dst := some 24, op := Op.call { callee := Callee.value (Operand.func 6), args := #[Operand.tmp 22, Operand.tmp 23], argTypes := #[25, 25] }, type := 25, pos := "law.go:188", after := #[{ on := 4, ground := Ground.data }, { on := 5, ground := Ground.data }, { on := 3, ground := Ground.chain }], guard := none }) rfl (fun K hK => ?_)
    go_simp
    go_wp2_with fail
    refine (pastMeet_any a b _ (HA.out.below HT.out.b) (HB.out.below HT.out.b)).mono ?_
    rintro e w' ⟨pp, rfl, pS, pN, pb, pq⟩
    exact hK _ _ ⟨v4x0, v4x1, v4x2, v4x3, _, _, PV pp, v4x7, v4x8, v4x9, v4x10, v4x11, v4x12, rfl, HT.out.call (Ph4_mono a b c w y1) pb 6 (IsP (mAnd (mP a.P) (mP b.P))) (by decide) HL.out (by simp) (by simp) pp pS pN (isP_meet pq) (fun _ _ => trivial) (by simp) (by decide)⟩
  · have HL := hide hi4
    clear hi hi1 hi2 hi3 hi4
    have l1 := run_ldP (HXga.out.below HT.out.b).at
    refine wpOp_step (o := { dst := some 25, op := Op.load 25 (Operand.tmp 3), type := 25, pos := "law.go:188", after := #[], guard := none }) rfl (fun K hK => ?_)
    go_simp
    exact hK _ _ ⟨v4x0, v4x1, v4x2, v4x3, v4x4, v4x5, v4x6, PV a, v4x8, v4x9, v4x10, v4x11, v4x12, rfl, HT.out.plain (Ph4_mono a b c w y1) (Below.refl _ _) 7 (by decide) HL.out _ rfl (by simp) (by simp) (by decide)⟩
  · have HL := hide hi4
    clear hi hi1 hi2 hi3 hi4
    have l1 := run_ldP (HXgb.out.below HT.out.b).at
    refine wpOp_step (o := { dst := some 26, op := Op.load 25 (Operand.tmp 4), type := 25, pos := "law.go:188", after := #[], guard := none }) rfl (fun K hK => ?_)
    go_simp
    exact hK _ _ ⟨v4x0, v4x1, v4x2, v4x3, v4x4, v4x5, v4x6, v4x7, PV b, v4x9, v4x10, v4x11, v4x12, rfl, HT.out.plain (Ph4_mono a b c w y1) (Below.refl _ _) 8 (by decide) HL.out _ rfl (by simp) (by simp) (by decide)⟩
  · have d7 := hi3 _ rfl { on := 7, ground := Ground.data } (by simp) rfl
    have d8 := hi3 _ rfl { on := 8, ground := Ground.data } (by simp) rfl
    have e7 : v4x7 = PV a := HT.out.h 7 (by decide) d7 (fun hm => absurd hm (by decide))
    subst e7
    have e8 : v4x8 = PV b := HT.out.h 8 (by decide) d8 (fun hm => absurd hm (by decide))
    subst e8
    have HL := hide hi4
    clear hi hi1 hi2 hi3 hi4 d7 d8
    refine wpOp_step (o := { dst := some 27, op := Op.call { callee := Callee.value (Operand.func 7), args := #[Operand.tmp 25, Operand.tmp 26], argTypes := #[25, 25] }, type := 25, pos := "law.go:188", after := #[{ on := 7, ground := Ground.data }, { on := 8, ground := Ground.data }, { on := 6, ground := Ground.chain }], guard := none }) rfl (fun K hK => ?_)
    go_simp
    go_wp2_with fail
    refine (pastMinus_any a b _ (HA.out.below HT.out.b) (HB.out.below HT.out.b)).mono ?_
    rintro e w' ⟨pp, rfl, pS, pN, pb, pq⟩
    exact hK _ _ ⟨v4x0, v4x1, v4x2, v4x3, v4x4, v4x5, v4x6, _, _, PV pp, v4x10, v4x11, v4x12, rfl, HT.out.call (Ph4_mono a b c w y1) pb 9 (IsP (mNot (mP a.P) (mP b.P))) (by decide) HL.out (by simp) (by simp) pp pS pN (isP_minus pq) (fun _ _ => trivial) (by simp) (by decide)⟩
  · have HL := hide hi4
    clear hi hi1 hi2 hi3 hi4
    refine wpOp_step (o := { dst := some 6, op := Op.alloc 25, type := 0, pos := "law.go:188", after := #[], guard := none }) rfl (fun K hK => ?_)
    go_simp
    exact hK _ _ ⟨v4x0, v4x1, v4x2, v4x3, v4x4, v4x5, v4x6, v4x7, v4x8, v4x9, ptr W.heap.size, v4x11, v4x12, rfl, HT.out.make (Ph4_mono a b c w y1) 10 13 3 (by decide) HL.out (by simp) (by simp) (by simp) (by simp) (fun _ _ => trivial) (by decide)⟩
  · have HL := hide hi4
    clear hi hi1 hi2 hi3 hi4
    refine wpOp_step (o := { dst := some 7, op := Op.alloc 25, type := 0, pos := "law.go:188", after := #[], guard := none }) rfl (fun K hK => ?_)
    go_simp
    exact hK _ _ ⟨v4x0, v4x1, v4x2, v4x3, v4x4, v4x5, v4x6, v4x7, v4x8, v4x9, v4x10, ptr W.heap.size, v4x12, rfl, HT.out.make (Ph4_mono a b c w y1) 11 14 6 (by decide) HL.out (by simp) (by simp) (by simp) (by simp) (fun _ _ => trivial) (by decide)⟩
  · have HL := hide hi4
    clear hi hi1 hi2 hi3 hi4
    refine wpOp_step (o := { dst := some 8, op := Op.alloc 25, type := 0, pos := "law.go:188", after := #[], guard := none }) rfl (fun K hK => ?_)
    go_simp
    exact hK _ _ ⟨v4x0, v4x1, v4x2, v4x3, v4x4, v4x5, v4x6, v4x7, v4x8, v4x9, v4x10, v4x11, ptr W.heap.size, rfl, HT.out.make (Ph4_mono a b c w y1) 12 15 9 (by decide) HL.out (by simp) (by simp) (by simp) (by simp) (fun _ _ => trivial) (by decide)⟩
  · have da := hi3 _ rfl { on := 10, ground := Ground.data } (by simp) rfl
    have dc := hi3 _ rfl { on := 3, ground := Ground.data } (by simp) rfl
    obtain ⟨pc, ec, -, -, -⟩ := HT.out.r (3, IsP (mOr (mP a.P) (mP b.P))) (by simp) dc
    obtain ⟨g, eg, PB, T2⟩ := HT.out.fill 10 13 3 pc (by decide) hi4 (by simp) (by simp) (by simp) da dc (Or.inl rfl) ec (by simp) (by simp) (Ph4_inv a b c w y1) (fun _ _ => trivial) undef
    have fg : v4x10 = ptr g := eg
    have fc : v4x3 = PV pc := ec
    subst fg fc
    have s1 := run_stP (p' := pc) PB
    have HT2 := hide T2
    clear T2 PB eg ec da dc HT hi hi1 hi2 hi3 hi4
    refine wpOp_step (o := { dst := none, op := Op.store 25 (Operand.tmp 6) (Operand.tmp 21), type := 0, pos := "law.go:188", after := #[{ on := 10, ground := Ground.data }, { on := 3, ground := Ground.data }, { on := 9, ground := Ground.chain }, { on := 0, ground := Ground.phase }, { on := 1, ground := Ground.phase }, { on := 2, ground := Ground.phase }, { on := 3, ground := Ground.phase }, { on := 4, ground := Ground.textOnly Departure.lateStores }, { on := 5, ground := Ground.textOnly Departure.lateStores }, { on := 6, ground := Ground.textOnly Departure.lateStoresUnsure }, { on := 7, ground := Ground.textOnly Departure.lateStores }, { on := 8, ground := Ground.textOnly Departure.lateStores }, { on := 9, ground := Ground.textOnly Departure.lateStoresUnsure }, { on := 10, ground := Ground.phase }, { on := 11, ground := Ground.phase }, { on := 12, ground := Ground.phase }], guard := none }) rfl (fun K hK => ?_)
    go_simp
    exact hK _ _ ⟨v4x0, v4x1, v4x2, _, v4x4, v4x5, v4x6, v4x7, v4x8, v4x9, _, v4x11, v4x12, rfl, HT2.out⟩
  · have da := hi3 _ rfl { on := 11, ground := Ground.data } (by simp) rfl
    have dc := hi3 _ rfl { on := 6, ground := Ground.data } (by simp) rfl
    have dt := hi3 _ rfl { on := 13, ground := Ground.chain } (by simp) rfl
    obtain ⟨pc, ec, -, -, -⟩ := HT.out.r (6, IsP (mAnd (mP a.P) (mP b.P))) (by simp) dc
    obtain ⟨g, eg, PB, T2⟩ := HT.out.fill 11 14 6 pc (by decide) hi4 (by simp) (by simp) (by simp) da dc (Or.inr dt) ec (by simp) (by simp) (Ph4_inv a b c w y1) (fun _ _ => trivial) undef
    have fg : v4x11 = ptr g := eg
    have fc : v4x6 = PV pc := ec
    subst fg fc
    have s1 := run_stP (p' := pc) PB
    have HT2 := hide T2
    clear T2 PB eg ec da dc dt HT hi hi1 hi2 hi3 hi4
    refine wpOp_step (o := { dst := none, op := Op.store 25 (Operand.tmp 7) (Operand.tmp 24), type := 0, pos := "law.go:188", after := #[{ on := 11, ground := Ground.data }, { on := 6, ground := Ground.data }, { on := 13, ground := Ground.chain }, { on := 0, ground := Ground.phase }, { on := 1, ground := Ground.phase }, { on := 2, ground := Ground.phase }, { on := 3, ground := Ground.phase }, { on := 4, ground := Ground.phase }, { on := 5, ground := Ground.phase }, { on := 6, ground := Ground.phase }, { on := 7, ground := Ground.textOnly Departure.lateStores }, { on := 8, ground := Ground.textOnly Departure.lateStores }, { on := 9, ground := Ground.textOnly Departure.lateStoresUnsure }, { on := 10, ground := Ground.phase }, { on := 11, ground := Ground.phase }, { on := 12, ground := Ground.phase }, { on := 13, ground := Ground.phase }], guard := none }) rfl (fun K hK => ?_)
    go_simp
    exact hK _ _ ⟨v4x0, v4x1, v4x2, v4x3, v4x4, v4x5, _, v4x7, v4x8, v4x9, v4x10, _, v4x12, rfl, HT2.out⟩
  · have da := hi3 _ rfl { on := 12, ground := Ground.data } (by simp) rfl
    have dc := hi3 _ rfl { on := 9, ground := Ground.data } (by simp) rfl
    have dt := hi3 _ rfl { on := 13, ground := Ground.phase } (by simp) rfl
    obtain ⟨pc, ec, -, -, -⟩ := HT.out.r (9, IsP (mNot (mP a.P) (mP b.P))) (by simp) dc
    obtain ⟨g, eg, PB, T2⟩ := HT.out.fill 12 15 9 pc (by decide) hi4 (by simp) (by simp) (by simp) da dc (Or.inr dt) ec (by simp) (by simp) (Ph4_inv a b c w y1) (fun _ _ => trivial) undef
    have fg : v4x12 = ptr g := eg
    have fc : v4x9 = PV pc := ec
    subst fg fc
    have s1 := run_stP (p' := pc) PB
    have HT2 := hide T2
    clear T2 PB eg ec da dc dt HT hi hi1 hi2 hi3 hi4
    refine wpOp_step (o := { dst := none, op := Op.store 25 (Operand.tmp 8) (Operand.tmp 27), type := 0, pos := "law.go:188", after := #[{ on := 12, ground := Ground.data }, { on := 9, ground := Ground.data }, { on := 14, ground := Ground.chain }, { on := 0, ground := Ground.phase }, { on := 1, ground := Ground.phase }, { on := 2, ground := Ground.phase }, { on := 3, ground := Ground.phase }, { on := 4, ground := Ground.phase }, { on := 5, ground := Ground.phase }, { on := 6, ground := Ground.phase }, { on := 7, ground := Ground.phase }, { on := 8, ground := Ground.phase }, { on := 9, ground := Ground.phase }, { on := 10, ground := Ground.phase }, { on := 11, ground := Ground.phase }, { on := 12, ground := Ground.phase }, { on := 13, ground := Ground.phase }, { on := 14, ground := Ground.phase }], guard := none }) rfl (fun K hK => ?_)
    go_simp
    exact hK _ _ ⟨v4x0, v4x1, v4x2, v4x3, v4x4, v4x5, v4x6, v4x7, v4x8, _, v4x10, v4x11, _, rfl, HT2.out⟩
end Go.Proofs.Ytliedjloceckjaa
