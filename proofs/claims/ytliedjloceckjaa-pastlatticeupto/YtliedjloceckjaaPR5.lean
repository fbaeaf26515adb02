/- PastLattice: the steps of a region that draws its order. -/
import Derived.Test.YtliedjloceckjaaPLh
namespace Go.Proofs.Ytliedjloceckjaa
open Go.RowKit
attribute [local go_sem ↓] ldP_eq stP_eq
attribute [local go_sem] zero_PC cells_PV fold_PC PC_size fold_PC1 fold_PC2 fold_PC3
def Ph5 (a b _ pj pm _ : Pv) (_ : World) (_ : World) : Nat → Value → World → Prop
  | 0, x, _ => x = PV pj
  | 1, x, _ => x = PV b
  | 2, x, _ => x = PV a
  | 3, x, W => ∃ g, x = .slice (some ⟨g, 0, none⟩) 2 2 ∧ PRow W (some ⟨g, 0, none⟩) 2 [b, a]
  | 5, x, _ => x = .bool true
  | 6, x, _ => x = .bool false
  | 7, x, _ => x = .bool false
  | 8, x, _ => x = PV pm
  | 9, x, _ => x = PV b
  | 10, x, _ => x = PV a
  | 12, x, _ => x = .bool true
  | 13, x, _ => x = .bool false
  | 14, x, _ => x = .bool false
  | 15, x, _ => x = .bool false
  | 16, x, _ => x = PV a
  | 17, x, _ => x = PV a
  | 18, x, W => ∃ g, x = .slice (some ⟨g, 0, none⟩) 2 2 ∧ PRow W (some ⟨g, 0, none⟩) 2 [a, a]
  | 20, x, _ => x = PV a
  | 22, x, _ => x = .bool true
  | 23, x, _ => x = .bool false
  | 24, x, _ => x = .bool false
  | _, _, _ => True
theorem Ph5_mono (a b c pj pm pd : Pv) (w : World) (W0 : World) : Mono (Ph5 a b c pj pm pd w W0) := fun i x W W' h hb => match i with
  | 0 => h
  | 1 => h
  | 2 => h
  | 3 => by obtain ⟨g, e, R⟩ := h; exact ⟨g, e, R.below hb⟩
  | 5 => h
  | 6 => h
  | 7 => h
  | 8 => h
  | 9 => h
  | 10 => h
  | 12 => h
  | 13 => h
  | 14 => h
  | 15 => h
  | 16 => h
  | 17 => h
  | 18 => by obtain ⟨g, e, R⟩ := h; exact ⟨g, e, R.below hb⟩
  | 20 => h
  | 22 => h
  | 23 => h
  | 24 => h
  | 4 => trivial
  | 11 => trivial
  | 19 => trivial
  | 21 => trivial
  | _ + 25 => trivial
set_option maxRecDepth 100000 in
set_option maxHeartbeats 4000000 in
theorem st5 {a b c pj pm pd : Pv} {dv : Value} {rp ms : Int} {w y2 : World} {ga gb gc gj gm gd : Nat} {v4x2 : Value} (HA : Hid (PSrc y2 a)) (HB : Hid (PSrc y2 b)) (HSpj : Hid (PSrc y2 pj)) (HSpm : Hid (PSrc y2 pm)) (HXga : Hid (PBox y2 ga a)) (HXgb : Hid (PBox y2 gb b)) (HXgj : Hid (PBox y2 gj pj)) (HXgm : Hid (PBox y2 gm pm)) (HQpj : Hid (IsP (mOr (mP a.P) (mP b.P)) pj.P)) (HQpm : Hid (IsP (mAnd (mP a.P) (mP b.P)) pm.P)) (HW : Hid (wt [a, b, c] ≤ 4000000000000)) (HAL : Hid (a.P.cloud.length ≤ 4000000000000)) {Q : Exit → Act → World → Prop} :
    ∀ (l : Array Bool) (x : Act) (W : World), (∃ v5x0 v5x1 v5x2 v5x3 v5x4 v5x5 v5x6 v5x7 v5x8 v5x9 v5x10 v5x11 v5x12 v5x13 v5x14 v5x15 v5x16 v5x17 v5x18 v5x19 v5x20 v5x21 v5x22 v5x23 v5x24, x = { tmps := #[CaseV a b c dv rp ms, ptr w.heap.size, .bool false, ptr ga, ptr gb, ptr gc, ptr gj, ptr gm, ptr gd, undef, .bool true, .bool false, .pointer (some ⟨w.heap.size, 0, none⟩), PV a, .pointer (some ⟨w.heap.size, 2, none⟩), PV b, .pointer (some ⟨w.heap.size, 4, none⟩), PV c, PV a, PV b, v4x2, PV pj, PV a, PV b, PV pm, PV a, PV b, PV pd, v5x0, v5x1, v5x2, v5x3, v5x4, v5x5, v5x6, v5x7, v5x8, v5x9, v5x10, v5x11, v5x12, v5x13, v5x14, v5x15, v5x16, v5x17, v5x18, v5x19, v5x20, v5x21, v5x22, v5x23, v5x24, undef, undef, undef, undef, undef, undef, undef, undef, undef, undef, undef, undef, undef, undef, undef, undef, undef, undef, undef, undef, undef, undef, undef, undef, undef, undef, undef, undef, undef, undef, undef, undef, undef, undef, undef, undef, undef, undef, undef, undef, undef, undef, undef, undef, undef, undef, undef, undef, undef, undef, undef, undef, undef, undef, undef, undef, undef, undef, undef, undef, undef, undef, undef, undef, undef, undef, undef, undef, undef, undef, undef, undef, undef, undef, undef, undef, undef, undef, undef, undef, undef, undef, undef, undef, undef, undef, undef, undef, undef, undef, undef, undef, undef, undef, undef, undef, undef, undef, undef, undef, undef, undef, undef, undef, undef, undef, undef, undef, undef, undef, undef, undef, undef, undef, undef, undef, undef, undef, undef, undef, undef, undef, undef, undef, undef, undef, undef, undef, undef, undef, undef, undef, undef], defers := [] } ∧ BI 25 32 y2 (Ph5 a b c pj pm pd w y2) [] [(4, IsP (mOr (mP b.P) (mP a.P))), (11, IsP (mAnd (mP b.P) (mP a.P))), (19, IsP (mOr (mP a.P) (mP a.P))), (21, IsP (mP a.P))] [] l W [v5x0, v5x1, v5x2, v5x3, v5x4, v5x5, v5x6, v5x7, v5x8, v5x9, v5x10, v5x11, v5x12, v5x13, v5x14, v5x15, v5x16, v5x17, v5x18, v5x19, v5x20, v5x21, v5x22, v5x23, v5x24]) → ∀ i, i ∈ Region.ready .any #[{ dst := some 28, op := Op.load 25 (Operand.tmp 6), type := 25, pos := "law.go:189", after := #[], guard := none }, { dst := some 29, op := Op.load 25 (Operand.tmp 4), type := 25, pos := "law.go:189", after := #[], guard := none }, { dst := some 30, op := Op.load 25 (Operand.tmp 3), type := 25, pos := "law.go:189", after := #[], guard := none }, { dst := some 31, op := Op.buildSlice 43 2 #[(0, Operand.tmp 29), (1, Operand.tmp 30)], type := 43, pos := "law.go:189", after := #[{ on := 1, ground := Ground.data }, { on := 2, ground := Ground.data }], guard := none }, { dst := some 32, op := Op.call { callee := Callee.value (Operand.func 5), args := #[Operand.tmp 31], argTypes := #[43] }, type := 25, pos := "law.go:189", after := #[{ on := 3, ground := Ground.data }], guard := none }, { dst := some 33, op := Op.call { callee := Callee.value (Operand.func 8), args := #[Operand.tmp 28, Operand.tmp 32], argTypes := #[25, 25] }, type := 4, pos := "law.go:189", after := #[{ on := 0, ground := Ground.data }, { on := 4, ground := Ground.data }, { on := 4, ground := Ground.chain }], guard := none }, { dst := some 34, op := Op.unOp UnOp.not 4 (Operand.tmp 33), type := 4, pos := "law.go:189", after := #[{ on := 5, ground := Ground.data }], guard := none }, { dst := some 35, op := Op.move (Operand.tmp 34), type := 4, pos := "law.go:189", after := #[{ on := 6, ground := Ground.data }, { on := 5, ground := Ground.chain }], guard := none }, { dst := some 36, op := Op.load 25 (Operand.tmp 7), type := 25, pos := "law.go:189", after := #[{ on := 7, ground := Ground.guard }], guard := some (7, false) }, { dst := some 37, op := Op.load 25 (Operand.tmp 4), type := 25, pos := "law.go:189", after := #[{ on := 7, ground := Ground.guard }], guard := some (7, false) }, { dst := some 38, op := Op.load 25 (Operand.tmp 3), type := 25, pos := "law.go:189", after := #[{ on := 7, ground := Ground.guard }], guard := some (7, false) }, { dst := some 39, op := Op.call { callee := Callee.value (Operand.func 6), args := #[Operand.tmp 37, Operand.tmp 38], argTypes := #[25, 25] }, type := 25, pos := "law.go:189", after := #[{ on := 9, ground := Ground.data }, { on := 10, ground := Ground.data }, { on := 7, ground := Ground.chain }, { on := 7, ground := Ground.guard }], guard := some (7, false) }, { dst := some 40, op := Op.call { callee := Callee.value (Operand.func 8), args := #[Operand.tmp 36, Operand.tmp 39], argTypes := #[25, 25] }, type := 4, pos := "law.go:189", after := #[{ on := 8, ground := Ground.data }, { on := 11, ground := Ground.data }, { on := 11, ground := Ground.chain }, { on := 7, ground := Ground.guard }], guard := some (7, false) }, { dst := some 41, op := Op.unOp UnOp.not 4 (Operand.tmp 40), type := 4, pos := "law.go:189", after := #[{ on := 12, ground := Ground.data }, { on := 7, ground := Ground.guard }], guard := some (7, false) }, { dst := some 42, op := Op.pick (Operand.tmp 35) (Operand.const (Value.bool true)) (Operand.tmp 41), type := 4, pos := "law.go:189", after := #[{ on := 7, ground := Ground.data }, { on := 13, ground := Ground.data }], guard := none }, { dst := some 43, op := Op.move (Operand.tmp 42), type := 4, pos := "law.go:189", after := #[{ on := 14, ground := Ground.data }, { on := 12, ground := Ground.chain }], guard := none }, { dst := some 44, op := Op.load 25 (Operand.tmp 3), type := 25, pos := "law.go:189", after := #[{ on := 15, ground := Ground.guard }], guard := some (15, false) }, { dst := some 45, op := Op.load 25 (Operand.tmp 3), type := 25, pos := "law.go:189", after := #[{ on := 15, ground := Ground.guard }], guard := some (15, false) }, { dst := some 46, op := Op.buildSlice 43 2 #[(0, Operand.tmp 44), (1, Operand.tmp 45)], type := 43, pos := "law.go:189", after := #[{ on := 16, ground := Ground.data }, { on := 17, ground := Ground.data }, { on := 15, ground := Ground.guard }], guard := some (15, false) }, { dst := some 47, op := Op.call { callee := Callee.value (Operand.func 5), args := #[Operand.tmp 46], argTypes := #[43] }, type := 25, pos := "law.go:189", after := #[{ on := 18, ground := Ground.data }, { on := 15, ground := Ground.chain }, { on := 15, ground := Ground.guard }], guard := some (15, false) }, { dst := some 48, op := Op.load 25 (Operand.tmp 3), type := 25, pos := "law.go:189", after := #[{ on := 15, ground := Ground.guard }], guard := some (15, false) }, { dst := some 49, op := Op.call { callee := Callee.value (Operand.func 9), args := #[Operand.tmp 48], argTypes := #[25] }, type := 25, pos := "law.go:189", after := #[{ on := 20, ground := Ground.data }, { on := 19, ground := Ground.chain }, { on := 15, ground := Ground.guard }], guard := some (15, false) }, { dst := some 50, op := Op.call { callee := Callee.value (Operand.func 8), args := #[Operand.tmp 47, Operand.tmp 49], argTypes := #[25, 25] }, type := 4, pos := "law.go:189", after := #[{ on := 19, ground := Ground.data }, { on := 21, ground := Ground.data }, { on := 21, ground := Ground.chain }, { on := 15, ground := Ground.guard }], guard := some (15, false) }, { dst := some 51, op := Op.unOp UnOp.not 4 (Operand.tmp 50), type := 4, pos := "law.go:189", after := #[{ on := 22, ground := Ground.data }, { on := 15, ground := Ground.guard }], guard := some (15, false) }, { dst := some 52, op := Op.pick (Operand.tmp 43) (Operand.const (Value.bool true)) (Operand.tmp 51), type := 4, pos := "law.go:189", after := #[{ on := 15, ground := Ground.data }, { on := 23, ground := Ground.data }], guard := none }] l → wpOp Try.prog #[{ dst := some 28, op := Op.load 25 (Operand.tmp 6), type := 25, pos := "law.go:189", after := #[], guard := none }, { dst := some 29, op := Op.load 25 (Operand.tmp 4), type := 25, pos := "law.go:189", after := #[], guard := none }, { dst := some 30, op := Op.load 25 (Operand.tmp 3), type := 25, pos := "law.go:189", after := #[], guard := none }, { dst := some 31, op := Op.buildSlice 43 2 #[(0, Operand.tmp 29), (1, Operand.tmp 30)], type := 43, pos := "law.go:189", after := #[{ on := 1, ground := Ground.data }, { on := 2, ground := Ground.data }], guard := none }, { dst := some 32, op := Op.call { callee := Callee.value (Operand.func 5), args := #[Operand.tmp 31], argTypes := #[43] }, type := 25, pos := "law.go:189", after := #[{ on := 3, ground := Ground.data }], guard := none }, { dst := some 33, op := Op.call { callee := Callee.value (Operand.func 8), args := #[Operand.tmp 28, Operand.tmp 32], argTypes := #[25, 25] }, type := 4, pos := "law.go:189", after := #[{ on := 0, ground := Ground.data }, { on := 4, ground := Ground.data }, { on := 4, ground := Ground.chain }], guard := none }, { dst := some 34, op := Op.unOp UnOp.not 4 (Operand.tmp 33), type := 4, pos := "law.go:189", after := #[{ on := 5, ground := Ground.data }], guard := none }, { dst := some 35, op := Op.move (Operand.tmp 34), type := 4, pos := "law.go:189", after := #[{ on := 6, ground := Ground.data }, { on := 5, ground := Ground.chain }], guard := none }, { dst := some 36, op := Op.load 25 (Operand.tmp 7), type := 25, pos := "law.go:189", after := #[{ on := 7, ground := Ground.guard }], guard := some (7, false) }, { dst := some 37, op := Op.load 25 (Operand.tmp 4), type := 25, pos := "law.go:189", after := #[{ on := 7, ground := Ground.guard }], guard := some (7, false) }, { dst := some 38, op := Op.load 25 (Operand.tmp 3), type := 25, pos := "law.go:189", after := #[{ on := 7, ground := Ground.guard }], guard := some (7, false) }, { dst := some 39, op := Op.call { callee := Callee.value (Operand.func 6), args := #[Operand.tmp 37, Operand.tmp 38], argTypes := #[25, 25] }, type := 25, pos := "law.go:189", after := #[{ on := 9, ground := Ground.data }, { on := 10, ground := Ground.data }, { on := 7, ground := Ground.chain }, { on := 7, ground := Ground.guard }], guard := some (7, false) }, { dst := some 40, op := Op.call { callee := Callee.value (Operand.func 8), args := #[Operand.tmp 36, Operand.tmp 39], argTypes := #[25, 25] }, type := 4, pos := "law.go:189", after := #[{ on := 8, ground := Ground.data }, { on := 11, ground := Ground.data }, { on := 11, ground := Ground.chain }, { on := 7, ground := Ground.guard }], guard := some (7, false) }, { dst := some 41, op := Op.unOp UnOp.not 4 (Operand.tmp 40), type := 4, pos := "law.go:189", after := #[{ on := 12, ground := Ground.data }, { on := 7, ground := Ground.guard }], guard := some (7, false) }, { dst := some 42, op := Op.pick (Operand.tmp 35) (Operand.const (Value.bool true)) (Operand.tmp 41), type := 4, pos := "law.go:189", after := #[{ on := 7, ground := Ground.data }, { on := 13, ground := Ground.data }], guard := none }, { dst := some 43, op := Op.move (Operand.tmp 42), type := 4, pos := "law.go:189", after := #[{ on := 14, ground := Ground.data }, { on := 12, ground := Ground.chain }], guard := none }, { dst := some 44, op := Op.load 25 (Operand.tmp 3), type := 25, pos := "law.go:189", after := #[{ on := 15, ground := Ground.guard }], guard := some (15, false) }, { dst := some 45, op := Op.load 25 (Operand.tmp 3), type := 25, pos := "law.go:189", after := #[{ on := 15, ground := Ground.guard }], guard := some (15, false) }, { dst := some 46, op := Op.buildSlice 43 2 #[(0, Operand.tmp 44), (1, Operand.tmp 45)], type := 43, pos := "law.go:189", after := #[{ on := 16, ground := Ground.data }, { on := 17, ground := Ground.data }, { on := 15, ground := Ground.guard }], guard := some (15, false) }, { dst := some 47, op := Op.call { callee := Callee.value (Operand.func 5), args := #[Operand.tmp 46], argTypes := #[43] }, type := 25, pos := "law.go:189", after := #[{ on := 18, ground := Ground.data }, { on := 15, ground := Ground.chain }, { on := 15, ground := Ground.guard }], guard := some (15, false) }, { dst := some 48, op := Op.load 25 (Operand.tmp 3), type := 25, pos := "law.go:189", after := #[{ on := 15, ground := Ground.guard }], guard := some (15, false) }, { dst := some 49, op := Op.call { callee := Callee.value (Operand.func 9), args := #[Operand.tmp 48], argTypes := #[25] }, type := 25, pos := "law.go:189", after := #[{ on := 20, ground := Ground.data }, { on := 19, ground := Ground.chain }, { on := 15, ground := Ground.guard }], guard := some (15, false) }, { dst := some 50, op := Op.call { callee := Callee.value (Operand.func 8), args := #[Operand.tmp 47, Operand.tmp 49], argTypes := #[25, 25] }, type := 4, pos := "law.go:189", after := #[{ on := 19, ground := Ground.data }, { on := 21, ground := Ground.data }, { on := 21, ground := Ground.chain }, { on := 15, ground := Ground.guard }], guard := some (15, false) }, { dst := some 51, op := Op.unOp UnOp.not 4 (Operand.tmp 50), type := 4, pos := "law.go:189", after := #[{ on := 22, ground := Ground.data }, { on := 15, ground := Ground.guard }], guard := some (15, false) }, { dst := some 52, op := Op.pick (Operand.tmp 43) (Operand.const (Value.bool true)) (Operand.tmp 51), type := 4, pos := "law.go:189", after := #[{ on := 15, ground := Ground.data }, { on := 23, ground := Ground.data }], guard := none }] Q i (fun a' w' => ∃ v5x0 v5x1 v5x2 v5x3 v5x4 v5x5 v5x6 v5x7 v5x8 v5x9 v5x10 v5x11 v5x12 v5x13 v5x14 v5x15 v5x16 v5x17 v5x18 v5x19 v5x20 v5x21 v5x22 v5x23 v5x24, a' = { tmps := #[CaseV a b c dv rp ms, ptr w.heap.size, .bool false, ptr ga, ptr gb, ptr gc, ptr gj, ptr gm, ptr gd, undef, .bool true, .bool false, .pointer (some ⟨w.heap.size, 0, none⟩), PV a, .pointer (some ⟨w.heap.size, 2, none⟩), PV b, .pointer (some ⟨w.heap.size, 4, none⟩), PV c, PV a, PV b, v4x2, PV pj, PV a, PV b, PV pm, PV a, PV b, PV pd, v5x0, v5x1, v5x2, v5x3, v5x4, v5x5, v5x6, v5x7, v5x8, v5x9, v5x10, v5x11, v5x12, v5x13, v5x14, v5x15, v5x16, v5x17, v5x18, v5x19, v5x20, v5x21, v5x22, v5x23, v5x24, undef, undef, undef, undef, undef, undef, undef, undef, undef, undef, undef, undef, undef, undef, undef, undef, undef, undef, undef, undef, undef, undef, undef, undef, undef, undef, undef, undef, undef, undef, undef, undef, undef, undef, undef, undef, undef, undef, undef, undef, undef, undef, undef, undef, undef, undef, undef, undef, undef, undef, undef, undef, undef, undef, undef, undef, undef, undef, undef, undef, undef, undef, undef, undef, undef, undef, undef, undef, undef, undef, undef, undef, undef, undef, undef, undef, undef, undef, undef, undef, undef, undef, undef, undef, undef, undef, undef, undef, undef, undef, undef, undef, undef, undef, undef, undef, undef, undef, undef, undef, undef, undef, undef, undef, undef, undef, undef, undef, undef, undef, undef, undef, undef, undef, undef, undef, undef, undef, undef, undef, undef, undef, undef, undef, undef, undef, undef, undef, undef, undef, undef, undef, undef], defers := [] } ∧ BI 25 32 y2 (Ph5 a b c pj pm pd w y2) [] [(4, IsP (mOr (mP b.P) (mP a.P))), (11, IsP (mAnd (mP b.P) (mP a.P))), (19, IsP (mOr (mP a.P) (mP a.P))), (21, IsP (mP a.P))] [] (l.setIfInBounds i true) w' [v5x0, v5x1, v5x2, v5x3, v5x4, v5x5, v5x6, v5x7, v5x8, v5x9, v5x10, v5x11, v5x12, v5x13, v5x14, v5x15, v5x16, v5x17, v5x18, v5x19, v5x20, v5x21, v5x22, v5x23, v5x24]) x W := by
  rintro l x W ⟨v5x0, v5x1, v5x2, v5x3, v5x4, v5x5, v5x6, v5x7, v5x8, v5x9, v5x10, v5x11, v5x12, v5x13, v5x14, v5x15, v5x16, v5x17, v5x18, v5x19, v5x20, v5x21, v5x22, v5x23, v5x24, rfl, T⟩ i hi
  obtain ⟨hi1, hi2, hi3⟩ := ready_mem hi
  have hi4 := no_true hi2
  have hc : i = 0 ∨ i = 1 ∨ i = 2 ∨ i = 3 ∨ i = 4 ∨ i = 5 ∨ i = 6 ∨ i = 7 ∨ i = 8 ∨ i = 9 ∨ i = 10 ∨ i = 11 ∨ i = 12 ∨ i = 13 ∨ i = 14 ∨ i = 15 ∨ i = 16 ∨ i = 17 ∨ i = 18 ∨ i = 19 ∨ i = 20 ∨ i = 21 ∨ i = 22 ∨ i = 23 ∨ i = 24 := by have h : i < 25 := hi1; omega
  have HT := hide T
  clear T
  rcases hc with rfl | rfl | rfl | rfl | rfl | rfl | rfl | rfl | rfl | rfl | rfl | rfl | rfl | rfl | rfl | rfl | rfl | rfl | rfl | rfl | rfl | rfl | rfl | rfl | rfl
  · have HL := hide hi4
    clear hi hi1 hi2 hi3 hi4
    have l1 := run_ldP (HXgj.out.below HT.out.b).at
    refine wpOp_step (o := { dst := some 28, op := Op.load 25 (Operand.tmp 6), type := 25, pos := "law.go:189", after := #[], guard := none }) rfl (fun K hK => ?_)
    go_simp
    exact hK _ _ ⟨PV pj, v5x1, v5x2, v5x3, v5x4, v5x5, v5x6, v5x7, v5x8, v5x9, v5x10, v5x11, v5x12, v5x13, v5x14, v5x15, v5x16, v5x17, v5x18, v5x19, v5x20, v5x21, v5x22, v5x23, v5x24, rfl, HT.out.plain (Ph5_mono a b c pj pm pd w y2) (Below.refl _ _) 0 (by decide) HL.out _ rfl (by simp) (by simp) (by decide)⟩
  · have HL := hide hi4
    clear hi hi1 hi2 hi3 hi4
    have l1 := run_ldP (HXgb.out.below HT.out.b).at
    refine wpOp_step (o := { dst := some 29, op := Op.load 25 (Operand.tmp 4), type := 25, pos := "law.go:189", after := #[], guard := none }) rfl (fun K hK => ?_)
    go_simp
    exact hK _ _ ⟨v5x0, PV b, v5x2, v5x3, v5x4, v5x5, v5x6, v5x7, v5x8, v5x9, v5x10, v5x11, v5x12, v5x13, v5x14, v5x15, v5x16, v5x17, v5x18, v5x19, v5x20, v5x21, v5x22, v5x23, v5x24, rfl, HT.out.plain (Ph5_mono a b c pj pm pd w y2) (Below.refl _ _) 1 (by decide) HL.out _ rfl (by simp) (by simp) (by decide)⟩
  · have HL := hide hi4
    clear hi hi1 hi2 hi3 hi4
    have l1 := run_ldP (HXga.out.below HT.out.b).at
    refine wpOp_step (o := { dst := some 30, op := Op.load 25 (Operand.tmp 3), type := 25, pos := "law.go:189", after := #[], guard := none }) rfl (fun K hK => ?_)
    go_simp
    exact hK _ _ ⟨v5x0, v5x1, PV a, v5x3, v5x4, v5x5, v5x6, v5x7, v5x8, v5x9, v5x10, v5x11, v5x12, v5x13, v5x14, v5x15, v5x16, v5x17, v5x18, v5x19, v5x20, v5x21, v5x22, v5x23, v5x24, rfl, HT.out.plain (Ph5_mono a b c pj pm pd w y2) (Below.refl _ _) 2 (by decide) HL.out _ rfl (by simp) (by simp) (by decide)⟩
  · have d1 := hi3 _ rfl { on := 1, ground := Ground.data } (by simp) rfl
    have d2 := hi3 _ rfl { on := 2, ground := Ground.data } (by simp) rfl
    have e1 : v5x1 = PV b := HT.out.h 1 (by decide) d1 (fun hm => absurd hm (by decide))
    subst e1
    have e2 : v5x2 = PV a := HT.out.h 2 (by decide) d2 (fun hm => absurd hm (by decide))
    subst e2
    have HL := hide hi4
    clear hi hi1 hi2 hi3 hi4 d1 d2
    refine wpOp_step (o := { dst := some 31, op := Op.buildSlice 43 2 #[(0, Operand.tmp 29), (1, Operand.tmp 30)], type := 43, pos := "law.go:189", after := #[{ on := 1, ground := Ground.data }, { on := 2, ground := Ground.data }], guard := none }) rfl (fun K hK => ?_)
    go_simp
    exact hK _ _ ⟨v5x0, _, _, .slice (some ⟨W.heap.size, 0, none⟩) 2 2, v5x4, v5x5, v5x6, v5x7, v5x8, v5x9, v5x10, v5x11, v5x12, v5x13, v5x14, v5x15, v5x16, v5x17, v5x18, v5x19, v5x20, v5x21, v5x22, v5x23, v5x24, rfl, HT.out.plain (Ph5_mono a b c pj pm pd w y2) (below_new _ _) 3 (by decide) HL.out _ ⟨_, rfl, prow_two W b a (HB.out.below HT.out.b) (HA.out.below HT.out.b)⟩ (by simp) (by simp) (by decide)⟩
  · have d3 := hi3 _ rfl { on := 3, ground := Ground.data } (by simp) rfl
    obtain ⟨g3, e3, R3⟩ : ∃ g, v5x3 = .slice (some ⟨g, 0, none⟩) 2 2 ∧ PRow W (some ⟨g, 0, none⟩) 2 [b, a] := HT.out.h 3 (by decide) d3 (fun hm => absurd hm (by decide))
    subst e3
    have HR3 := hide R3
    clear R3
    have HL := hide hi4
    clear hi hi1 hi2 hi3 hi4 d3
    refine wpOp_step (o := { dst := some 32, op := Op.call { callee := Callee.value (Operand.func 5), args := #[Operand.tmp 31], argTypes := #[43] }, type := 25, pos := "law.go:189", after := #[{ on := 3, ground := Ground.data }], guard := none }) rfl (fun K hK => ?_)
    go_simp
    go_wp2_with fail
    refine (pastJoin_any _ 2 2 [b, a] _ HR3.out (by have h := HW.out; simp only [wt] at h ⊢; omega) (by omega)).mono ?_
    rintro e w' ⟨pp, rfl, pS, pN, pb, pq⟩
    exact hK _ _ ⟨v5x0, v5x1, v5x2, _, PV pp, v5x5, v5x6, v5x7, v5x8, v5x9, v5x10, v5x11, v5x12, v5x13, v5x14, v5x15, v5x16, v5x17, v5x18, v5x19, v5x20, v5x21, v5x22, v5x23, v5x24, rfl, HT.out.call (Ph5_mono a b c pj pm pd w y2) pb 4 (IsP (mOr (mP b.P) (mP a.P))) (by decide) HL.out (by simp) (by simp) pp pS pN (isP_join2 pq) (fun _ _ => trivial) (by simp) (by decide)⟩
  · have d0 := hi3 _ rfl { on := 0, ground := Ground.data } (by simp) rfl
    have d4 := hi3 _ rfl { on := 4, ground := Ground.data } (by simp) rfl
    have e0 : v5x0 = PV pj := HT.out.h 0 (by decide) d0 (fun hm => absurd hm (by decide))
    subst e0
    obtain ⟨p4, e4, S4, q4, -⟩ := HT.out.r (4, IsP (mOr (mP b.P) (mP a.P))) (by simp) d4
    have f4 : v5x4 = PV p4 := e4
    subst f4
    have HS4 := hide S4
    have HQ4 : Hid (IsP (mOr (mP b.P) (mP a.P)) p4.P) := q4
    clear e4 S4 q4
    have HL := hide hi4
    clear hi hi1 hi2 hi3 hi4 d0 d4
    refine wpOp_step (o := { dst := some 33, op := Op.call { callee := Callee.value (Operand.func 8), args := #[Operand.tmp 28, Operand.tmp 32], argTypes := #[25, 25] }, type := 4, pos := "law.go:189", after := #[{ on := 0, ground := Ground.data }, { on := 4, ground := Ground.data }, { on := 4, ground := Ground.chain }], guard := none }) rfl (fun K hK => ?_)
    go_simp
    go_wp2_with fail
    refine (samePast_any pj p4 _ (HSpj.out.below HT.out.b) HS4.out).mono ?_
    rintro e w' ⟨x, rfl, hx, pb⟩
    obtain rfl : x = true := hx.2 (IsP.unique HQpj.out HQ4.out (fun _ _ _ => Or.comm))
    exact hK _ _ ⟨_, v5x1, v5x2, v5x3, _, .bool true, v5x6, v5x7, v5x8, v5x9, v5x10, v5x11, v5x12, v5x13, v5x14, v5x15, v5x16, v5x17, v5x18, v5x19, v5x20, v5x21, v5x22, v5x23, v5x24, rfl, HT.out.plain (Ph5_mono a b c pj pm pd w y2) pb 5 (by decide) HL.out _ rfl (by simp) (by simp) (by decide)⟩
  · have d5 := hi3 _ rfl { on := 5, ground := Ground.data } (by simp) rfl
    have e5 : v5x5 = .bool true := HT.out.h 5 (by decide) d5 (fun hm => absurd hm (by decide))
    subst e5
    have HL := hide hi4
    clear hi hi1 hi2 hi3 hi4 d5
    refine wpOp_step (o := { dst := some 34, op := Op.unOp UnOp.not 4 (Operand.tmp 33), type := 4, pos := "law.go:189", after := #[{ on := 5, ground := Ground.data }], guard := none }) rfl (fun K hK => ?_)
    go_simp
    exact hK _ _ ⟨v5x0, v5x1, v5x2, v5x3, v5x4, _, .bool false, v5x7, v5x8, v5x9, v5x10, v5x11, v5x12, v5x13, v5x14, v5x15, v5x16, v5x17, v5x18, v5x19, v5x20, v5x21, v5x22, v5x23, v5x24, rfl, HT.out.plain (Ph5_mono a b c pj pm pd w y2) (Below.refl _ _) 6 (by decide) HL.out _ rfl (by simp) (by simp) (by decide)⟩
  · have d6 := hi3 _ rfl { on := 6, ground := Ground.data } (by simp) rfl
    have e6 : v5x6 = .bool false := HT.out.h 6 (by decide) d6 (fun hm => absurd hm (by decide))
    subst e6
    have HL := hide hi4
    clear hi hi1 hi2 hi3 hi4 d6
    refine wpOp_step (o := { dst := some 35, op := Op.move (Operand.tmp 34), type := 4, pos := "law.go:189", after := #[{ on := 6, ground := Ground.data }, { on := 5, ground := Ground.chain }], guard := none }) rfl (fun K hK => ?_)
    go_simp
    exact hK _ _ ⟨v5x0, v5x1, v5x2, v5x3, v5x4, v5x5, _, .bool false, v5x8, v5x9, v5x10, v5x11, v5x12, v5x13, v5x14, v5x15, v5x16, v5x17, v5x18, v5x19, v5x20, v5x21, v5x22, v5x23, v5x24, rfl, HT.out.plain (Ph5_mono a b c pj pm pd w y2) (Below.refl _ _) 7 (by decide) HL.out _ rfl (by simp) (by simp) (by decide)⟩
  · have d7 := hi3 _ rfl { on := 7, ground := Ground.guard } (by simp) rfl
    have e7 : v5x7 = .bool false := HT.out.h 7 (by decide) d7 (fun hm => absurd hm (by decide))
    subst e7
    have HL := hide hi4
    clear hi hi1 hi2 hi3 hi4 d7
    have l1 := run_ldP (HXgm.out.below HT.out.b).at
    refine wpOp_step (o := { dst := some 36, op := Op.load 25 (Operand.tmp 7), type := 25, pos := "law.go:189", after := #[{ on := 7, ground := Ground.guard }], guard := some (7, false) }) rfl (fun K hK => ?_)
    go_simp
    exact hK _ _ ⟨v5x0, v5x1, v5x2, v5x3, v5x4, v5x5, v5x6, _, PV pm, v5x9, v5x10, v5x11, v5x12, v5x13, v5x14, v5x15, v5x16, v5x17, v5x18, v5x19, v5x20, v5x21, v5x22, v5x23, v5x24, rfl, HT.out.plain (Ph5_mono a b c pj pm pd w y2) (Below.refl _ _) 8 (by decide) HL.out _ rfl (by simp) (by simp) (by decide)⟩
  · have d7 := hi3 _ rfl { on := 7, ground := Ground.guard } (by simp) rfl
    have e7 : v5x7 = .bool false := HT.out.h 7 (by decide) d7 (fun hm => absurd hm (by decide))
    subst e7
    have HL := hide hi4
    clear hi hi1 hi2 hi3 hi4 d7
    have l1 := run_ldP (HXgb.out.below HT.out.b).at
    refine wpOp_step (o := { dst := some 37, op := Op.load 25 (Operand.tmp 4), type := 25, pos := "law.go:189", after := #[{ on := 7, ground := Ground.guard }], guard := some (7, false) }) rfl (fun K hK => ?_)
    go_simp
    exact hK _ _ ⟨v5x0, v5x1, v5x2, v5x3, v5x4, v5x5, v5x6, _, v5x8, PV b, v5x10, v5x11, v5x12, v5x13, v5x14, v5x15, v5x16, v5x17, v5x18, v5x19, v5x20, v5x21, v5x22, v5x23, v5x24, rfl, HT.out.plain (Ph5_mono a b c pj pm pd w y2) (Below.refl _ _) 9 (by decide) HL.out _ rfl (by simp) (by simp) (by decide)⟩
  · have d7 := hi3 _ rfl { on := 7, ground := Ground.guard } (by simp) rfl
    have e7 : v5x7 = .bool false := HT.out.h 7 (by decide) d7 (fun hm => absurd hm (by decide))
    subst e7
    have HL := hide hi4
    clear hi hi1 hi2 hi3 hi4 d7
    have l1 := run_ldP (HXga.out.below HT.out.b).at
    refine wpOp_step (o := { dst := some 38, op := Op.load 25 (Operand.tmp 3), type := 25, pos := "law.go:189", after := #[{ on := 7, ground := Ground.guard }], guard := some (7, false) }) rfl (fun K hK => ?_)
    go_simp
    exact hK _ _ ⟨v5x0, v5x1, v5x2, v5x3, v5x4, v5x5, v5x6, _, v5x8, v5x9, PV a, v5x11, v5x12, v5x13, v5x14, v5x15, v5x16, v5x17, v5x18, v5x19, v5x20, v5x21, v5x22, v5x23, v5x24, rfl, HT.out.plain (Ph5_mono a b c pj pm pd w y2) (Below.refl _ _) 10 (by decide) HL.out _ rfl (by simp) (by simp) (by decide)⟩
  · have d9 := hi3 _ rfl { on := 9, ground := Ground.data } (by simp) rfl
    have d10 := hi3 _ rfl { on := 10, ground := Ground.data } (by simp) rfl
    have d7 := hi3 _ rfl { on := 7, ground := Ground.chain } (by simp) rfl
    have e9 : v5x9 = PV b := HT.out.h 9 (by decide) d9 (fun hm => absurd hm (by decide))
    subst e9
    have e10 : v5x10 = PV a := HT.out.h 10 (by decide) d10 (fun hm => absurd hm (by decide))
    subst e10
    have e7 : v5x7 = .bool false := HT.out.h 7 (by decide) d7 (fun hm => absurd hm (by decide))
    subst e7
    have HL := hide hi4
    clear hi hi1 hi2 hi3 hi4 d9 d10 d7
    refine wpOp_step (o := { dst := some 39, op := Op.call { callee := Callee.value (Operand.func 6), args := #[Operand.tmp 37, Operand.tmp 38], argTypes := #[25, 25] }, type := 25, pos := "law.go:189", after := #[{ on := 9, ground := Ground.data }, { on := 10, ground := Ground.data }, { on := 7, ground := Ground.chain }, { on := 7, ground := Ground.guard }], guard := some (7, false) }) rfl (fun K hK => ?_)
    go_simp
    go_wp2_with fail
    refine (pastMeet_any b a _ (HB.out.below HT.out.b) (HA.out.below HT.out.b)).mono ?_
    rintro e w' ⟨pp, rfl, pS, pN, pb, pq⟩
    exact hK _ _ ⟨v5x0, v5x1, v5x2, v5x3, v5x4, v5x5, v5x6, _, v5x8, _, _, PV pp, v5x12, v5x13, v5x14, v5x15, v5x16, v5x17, v5x18, v5x19, v5x20, v5x21, v5x22, v5x23, v5x24, rfl, HT.out.call (Ph5_mono a b c pj pm pd w y2) pb 11 (IsP (mAnd (mP b.P) (mP a.P))) (by decide) HL.out (by simp) (by simp) pp pS pN (isP_meet pq) (fun _ _ => trivial) (by simp) (by decide)⟩
  · have d8 := hi3 _ rfl { on := 8, ground := Ground.data } (by simp) rfl
    have d11 := hi3 _ rfl { on := 11, ground := Ground.data } (by simp) rfl
    have d7 := hi3 _ rfl { on := 7, ground := Ground.guard } (by simp) rfl
    have e8 : v5x8 = PV pm := HT.out.h 8 (by decide) d8 (fun hm => absurd hm (by decide))
    subst e8
    obtain ⟨p11, e11, S11, q11, -⟩ := HT.out.r (11, IsP (mAnd (mP b.P) (mP a.P))) (by simp) d11
    have f11 : v5x11 = PV p11 := e11
    subst f11
    have HS11 := hide S11
    have HQ11 : Hid (IsP (mAnd (mP b.P) (mP a.P)) p11.P) := q11
    clear e11 S11 q11
    have e7 : v5x7 = .bool false := HT.out.h 7 (by decide) d7 (fun hm => absurd hm (by decide))
    subst e7
    have HL := hide hi4
    clear hi hi1 hi2 hi3 hi4 d8 d11 d7
    refine wpOp_step (o := { dst := some 40, op := Op.call { callee := Callee.value (Operand.func 8), args := #[Operand.tmp 36, Operand.tmp 39], argTypes := #[25, 25] }, type := 4, pos := "law.go:189", after := #[{ on := 8, ground := Ground.data }, { on := 11, ground := Ground.data }, { on := 11, ground := Ground.chain }, { on := 7, ground := Ground.guard }], guard := some (7, false) }) rfl (fun K hK => ?_)
    go_simp
    go_wp2_with fail
    refine (samePast_any pm p11 _ (HSpm.out.below HT.out.b) HS11.out).mono ?_
    rintro e w' ⟨x, rfl, hx, pb⟩
    obtain rfl : x = true := hx.2 (IsP.unique HQpm.out HQ11.out (fun _ _ _ => And.comm))
    exact hK _ _ ⟨v5x0, v5x1, v5x2, v5x3, v5x4, v5x5, v5x6, _, _, v5x9, v5x10, _, .bool true, v5x13, v5x14, v5x15, v5x16, v5x17, v5x18, v5x19, v5x20, v5x21, v5x22, v5x23, v5x24, rfl, HT.out.plain (Ph5_mono a b c pj pm pd w y2) pb 12 (by decide) HL.out _ rfl (by simp) (by simp) (by decide)⟩
  · have d12 := hi3 _ rfl { on := 12, ground := Ground.data } (by simp) rfl
    have d7 := hi3 _ rfl { on := 7, ground := Ground.guard } (by simp) rfl
    have e12 : v5x12 = .bool true := HT.out.h 12 (by decide) d12 (fun hm => absurd hm (by decide))
    subst e12
    have e7 : v5x7 = .bool false := HT.out.h 7 (by decide) d7 (fun hm => absurd hm (by decide))
    subst e7
    have HL := hide hi4
    clear hi hi1 hi2 hi3 hi4 d12 d7
    refine wpOp_step (o := { dst := some 41, op := Op.unOp UnOp.not 4 (Operand.tmp 40), type := 4, pos := "law.go:189", after := #[{ on := 12, ground := Ground.data }, { on := 7, ground := Ground.guard }], guard := some (7, false) }) rfl (fun K hK => ?_)
    go_simp
    exact hK _ _ ⟨v5x0, v5x1, v5x2, v5x3, v5x4, v5x5, v5x6, _, v5x8, v5x9, v5x10, v5x11, _, .bool false, v5x14, v5x15, v5x16, v5x17, v5x18, v5x19, v5x20, v5x21, v5x22, v5x23, v5x24, rfl, HT.out.plain (Ph5_mono a b c pj pm pd w y2) (Below.refl _ _) 13 (by decide) HL.out _ rfl (by simp) (by simp) (by decide)⟩
  · have d7 := hi3 _ rfl { on := 7, ground := Ground.data } (by simp) rfl
    have d13 := hi3 _ rfl { on := 13, ground := Ground.data } (by simp) rfl
    have e7 : v5x7 = .bool false := HT.out.h 7 (by decide) d7 (fun hm => absurd hm (by decide))
    subst e7
    have e13 : v5x13 = .bool false := HT.out.h 13 (by decide) d13 (fun hm => absurd hm (by decide))
    subst e13
    have HL := hide hi4
    clear hi hi1 hi2 hi3 hi4 d7 d13
    refine wpOp_step (o := { dst := some 42, op := Op.pick (Operand.tmp 35) (Operand.const (Value.bool true)) (Operand.tmp 41), type := 4, pos := "law.go:189", after := #[{ on := 7, ground := Ground.data }, { on := 13, ground := Ground.data }], guard := none }) rfl (fun K hK => ?_)
    go_simp
    exact hK _ _ ⟨v5x0, v5x1, v5x2, v5x3, v5x4, v5x5, v5x6, _, v5x8, v5x9, v5x10, v5x11, v5x12, _, .bool false, v5x15, v5x16, v5x17, v5x18, v5x19, v5x20, v5x21, v5x22, v5x23, v5x24, rfl, HT.out.plain (Ph5_mono a b c pj pm pd w y2) (Below.refl _ _) 14 (by decide) HL.out _ rfl (by simp) (by simp) (by decide)⟩
  · have d14 := hi3 _ rfl { on := 14, ground := Ground.data } (by simp) rfl
    have e14 : v5x14 = .bool false := HT.out.h 14 (by decide) d14 (fun hm => absurd hm (by decide))
    subst e14
    have HL := hide hi4
    clear hi hi1 hi2 hi3 hi4 d14
    refine wpOp_step (o := { dst := some 43, op := Op.move (Operand.tmp 42), type := 4, pos := "law.go:189", after := #[{ on := 14, ground := Ground.data }, { on := 12, ground := Ground.chain }], guard := none }) rfl (fun K hK => ?_)
    go_simp
    exact hK _ _ ⟨v5x0, v5x1, v5x2, v5x3, v5x4, v5x5, v5x6, v5x7, v5x8, v5x9, v5x10, v5x11, v5x12, v5x13, _, .bool false, v5x16, v5x17, v5x18, v5x19, v5x20, v5x21, v5x22, v5x23, v5x24, rfl, HT.out.plain (Ph5_mono a b c pj pm pd w y2) (Below.refl _ _) 15 (by decide) HL.out _ rfl (by simp) (by simp) (by decide)⟩
  · have d15 := hi3 _ rfl { on := 15, ground := Ground.guard } (by simp) rfl
    have e15 : v5x15 = .bool false := HT.out.h 15 (by decide) d15 (fun hm => absurd hm (by decide))
    subst e15
    have HL := hide hi4
    clear hi hi1 hi2 hi3 hi4 d15
    have l1 := run_ldP (HXga.out.below HT.out.b).at
    refine wpOp_step (o := { dst := some 44, op := Op.load 25 (Operand.tmp 3), type := 25, pos := "law.go:189", after := #[{ on := 15, ground := Ground.guard }], guard := some (15, false) }) rfl (fun K hK => ?_)
    go_simp
    exact hK _ _ ⟨v5x0, v5x1, v5x2, v5x3, v5x4, v5x5, v5x6, v5x7, v5x8, v5x9, v5x10, v5x11, v5x12, v5x13, v5x14, _, PV a, v5x17, v5x18, v5x19, v5x20, v5x21, v5x22, v5x23, v5x24, rfl, HT.out.plain (Ph5_mono a b c pj pm pd w y2) (Below.refl _ _) 16 (by decide) HL.out _ rfl (by simp) (by simp) (by decide)⟩
  · have d15 := hi3 _ rfl { on := 15, ground := Ground.guard } (by simp) rfl
    have e15 : v5x15 = .bool false := HT.out.h 15 (by decide) d15 (fun hm => absurd hm (by decide))
    subst e15
    have HL := hide hi4
    clear hi hi1 hi2 hi3 hi4 d15
    have l1 := run_ldP (HXga.out.below HT.out.b).at
    refine wpOp_step (o := { dst := some 45, op := Op.load 25 (Operand.tmp 3), type := 25, pos := "law.go:189", after := #[{ on := 15, ground := Ground.guard }], guard := some (15, false) }) rfl (fun K hK => ?_)
    go_simp
    exact hK _ _ ⟨v5x0, v5x1, v5x2, v5x3, v5x4, v5x5, v5x6, v5x7, v5x8, v5x9, v5x10, v5x11, v5x12, v5x13, v5x14, _, v5x16, PV a, v5x18, v5x19, v5x20, v5x21, v5x22, v5x23, v5x24, rfl, HT.out.plain (Ph5_mono a b c pj pm pd w y2) (Below.refl _ _) 17 (by decide) HL.out _ rfl (by simp) (by simp) (by decide)⟩
  · have d16 := hi3 _ rfl { on := 16, ground := Ground.data } (by simp) rfl
    have d17 := hi3 _ rfl { on := 17, ground := Ground.data } (by simp) rfl
    have d15 := hi3 _ rfl { on := 15, ground := Ground.guard } (by simp) rfl
    have e16 : v5x16 = PV a := HT.out.h 16 (by decide) d16 (fun hm => absurd hm (by decide))
    subst e16
    have e17 : v5x17 = PV a := HT.out.h 17 (by decide) d17 (fun hm => absurd hm (by decide))
    subst e17
    have e15 : v5x15 = .bool false := HT.out.h 15 (by decide) d15 (fun hm => absurd hm (by decide))
    subst e15
    have HL := hide hi4
    clear hi hi1 hi2 hi3 hi4 d16 d17 d15
    refine wpOp_step (o := { dst := some 46, op := Op.buildSlice 43 2 #[(0, Operand.tmp 44), (1, Operand.tmp 45)], type := 43, pos := "law.go:189", after := #[{ on := 16, ground := Ground.data }, { on := 17, ground := Ground.data }, { on := 15, ground := Ground.guard }], guard := some (15, false) }) rfl (fun K hK => ?_)
    go_simp
    exact hK _ _ ⟨v5x0, v5x1, v5x2, v5x3, v5x4, v5x5, v5x6, v5x7, v5x8, v5x9, v5x10, v5x11, v5x12, v5x13, v5x14, _, _, _, .slice (some ⟨W.heap.size, 0, none⟩) 2 2, v5x19, v5x20, v5x21, v5x22, v5x23, v5x24, rfl, HT.out.plain (Ph5_mono a b c pj pm pd w y2) (below_new _ _) 18 (by decide) HL.out _ ⟨_, rfl, prow_two W a a (HA.out.below HT.out.b) (HA.out.below HT.out.b)⟩ (by simp) (by simp) (by decide)⟩
  · have d18 := hi3 _ rfl { on := 18, ground := Ground.data } (by simp) rfl
    have d15 := hi3 _ rfl { on := 15, ground := Ground.chain } (by simp) rfl
    obtain ⟨g18, e18, R18⟩ : ∃ g, v5x18 = .slice (some ⟨g, 0, none⟩) 2 2 ∧ PRow W (some ⟨g, 0, none⟩) 2 [a, a] := HT.out.h 18 (by decide) d18 (fun hm => absurd hm (by decide))
    subst e18
    have HR18 := hide R18
    clear R18
    have e15 : v5x15 = .bool false := HT.out.h 15 (by decide) d15 (fun hm => absurd hm (by decide))
    subst e15
    have HL := hide hi4
    clear hi hi1 hi2 hi3 hi4 d18 d15
    refine wpOp_step (o := { dst := some 47, op := Op.call { callee := Callee.value (Operand.func 5), args := #[Operand.tmp 46], argTypes := #[43] }, type := 25, pos := "law.go:189", after := #[{ on := 18, ground := Ground.data }, { on := 15, ground := Ground.chain }, { on := 15, ground := Ground.guard }], guard := some (15, false) }) rfl (fun K hK => ?_)
    go_simp
    go_wp2_with fail
    refine (pastJoin_any _ 2 2 [a, a] _ HR18.out (by have h1 := HAL.out; simp only [wt]; omega) (by omega)).mono ?_
    rintro e w' ⟨pp, rfl, pS, pN, pb, pq⟩
    exact hK _ _ ⟨v5x0, v5x1, v5x2, v5x3, v5x4, v5x5, v5x6, v5x7, v5x8, v5x9, v5x10, v5x11, v5x12, v5x13, v5x14, _, v5x16, v5x17, _, PV pp, v5x20, v5x21, v5x22, v5x23, v5x24, rfl, HT.out.call (Ph5_mono a b c pj pm pd w y2) pb 19 (IsP (mOr (mP a.P) (mP a.P))) (by decide) HL.out (by simp) (by simp) pp pS pN (isP_join2 pq) (fun _ _ => trivial) (by simp) (by decide)⟩
  · have d15 := hi3 _ rfl { on := 15, ground := Ground.guard } (by simp) rfl
    have e15 : v5x15 = .bool false := HT.out.h 15 (by decide) d15 (fun hm => absurd hm (by decide))
    subst e15
    have HL := hide hi4
    clear hi hi1 hi2 hi3 hi4 d15
    have l1 := run_ldP (HXga.out.below HT.out.b).at
    refine wpOp_step (o := { dst := some 48, op := Op.load 25 (Operand.tmp 3), type := 25, pos := "law.go:189", after := #[{ on := 15, ground := Ground.guard }], guard := some (15, false) }) rfl (fun K hK => ?_)
    go_simp
    exact hK _ _ ⟨v5x0, v5x1, v5x2, v5x3, v5x4, v5x5, v5x6, v5x7, v5x8, v5x9, v5x10, v5x11, v5x12, v5x13, v5x14, _, v5x16, v5x17, v5x18, v5x19, PV a, v5x21, v5x22, v5x23, v5x24, rfl, HT.out.plain (Ph5_mono a b c pj pm pd w y2) (Below.refl _ _) 20 (by decide) HL.out _ rfl (by simp) (by simp) (by decide)⟩
  · have d20 := hi3 _ rfl { on := 20, ground := Ground.data } (by simp) rfl
    have d15 := hi3 _ rfl { on := 15, ground := Ground.guard } (by simp) rfl
    have e20 : v5x20 = PV a := HT.out.h 20 (by decide) d20 (fun hm => absurd hm (by decide))
    subst e20
    have e15 : v5x15 = .bool false := HT.out.h 15 (by decide) d15 (fun hm => absurd hm (by decide))
    subst e15
    have HL := hide hi4
    clear hi hi1 hi2 hi3 hi4 d20 d15
    refine wpOp_step (o := { dst := some 49, op := Op.call { callee := Callee.value (Operand.func 9), args := #[Operand.tmp 48], argTypes := #[25] }, type := 25, pos := "law.go:189", after := #[{ on := 20, ground := Ground.data }, { on := 19, ground := Ground.chain }, { on := 15, ground := Ground.guard }], guard := some (15, false) }) rfl (fun K hK => ?_)
    go_simp
    go_wp2_with fail
    refine (pastNorm_any a _ (HA.out.below HT.out.b)).mono ?_
    rintro e w' ⟨pp, rfl, pS, pN, pb, pq⟩
    exact hK _ _ ⟨v5x0, v5x1, v5x2, v5x3, v5x4, v5x5, v5x6, v5x7, v5x8, v5x9, v5x10, v5x11, v5x12, v5x13, v5x14, _, v5x16, v5x17, v5x18, v5x19, _, PV pp, v5x22, v5x23, v5x24, rfl, HT.out.call (Ph5_mono a b c pj pm pd w y2) pb 21 (IsP (mP a.P)) (by decide) HL.out (by simp) (by simp) pp pS pN (isP_norm pq) (fun _ _ => trivial) (by simp) (by decide)⟩
  · have d19 := hi3 _ rfl { on := 19, ground := Ground.data } (by simp) rfl
    have d21 := hi3 _ rfl { on := 21, ground := Ground.data } (by simp) rfl
    have d15 := hi3 _ rfl { on := 15, ground := Ground.guard } (by simp) rfl
    obtain ⟨p19, e19, S19, q19, -⟩ := HT.out.r (19, IsP (mOr (mP a.P) (mP a.P))) (by simp) d19
    have f19 : v5x19 = PV p19 := e19
    subst f19
    have HS19 := hide S19
    have HQ19 : Hid (IsP (mOr (mP a.P) (mP a.P)) p19.P) := q19
    clear e19 S19 q19
    obtain ⟨p21, e21, S21, q21, -⟩ := HT.out.r (21, IsP (mP a.P)) (by simp) d21
    have f21 : v5x21 = PV p21 := e21
    subst f21
    have HS21 := hide S21
    have HQ21 : Hid (IsP (mP a.P) p21.P) := q21
    clear e21 S21 q21
    have e15 : v5x15 = .bool false := HT.out.h 15 (by decide) d15 (fun hm => absurd hm (by decide))
    subst e15
    have HL := hide hi4
    clear hi hi1 hi2 hi3 hi4 d19 d21 d15
    refine wpOp_step (o := { dst := some 50, op := Op.call { callee := Callee.value (Operand.func 8), args := #[Operand.tmp 47, Operand.tmp 49], argTypes := #[25, 25] }, type := 4, pos := "law.go:189", after := #[{ on := 19, ground := Ground.data }, { on := 21, ground := Ground.data }, { on := 21, ground := Ground.chain }, { on := 15, ground := Ground.guard }], guard := some (15, false) }) rfl (fun K hK => ?_)
    go_simp
    go_wp2_with fail
    refine (samePast_any p19 p21 _ HS19.out HS21.out).mono ?_
    rintro e w' ⟨x, rfl, hx, pb⟩
    obtain rfl : x = true := hx.2 (IsP.unique HQ19.out HQ21.out (fun _ _ _ => or_self_iff))
    exact hK _ _ ⟨v5x0, v5x1, v5x2, v5x3, v5x4, v5x5, v5x6, v5x7, v5x8, v5x9, v5x10, v5x11, v5x12, v5x13, v5x14, _, v5x16, v5x17, v5x18, _, v5x20, _, .bool true, v5x23, v5x24, rfl, HT.out.plain (Ph5_mono a b c pj pm pd w y2) pb 22 (by decide) HL.out _ rfl (by simp) (by simp) (by decide)⟩
  · have d22 := hi3 _ rfl { on := 22, ground := Ground.data } (by simp) rfl
    have d15 := hi3 _ rfl { on := 15, ground := Ground.guard } (by simp) rfl
    have e22 : v5x22 = .bool true := HT.out.h 22 (by decide) d22 (fun hm => absurd hm (by decide))
    subst e22
    have e15 : v5x15 = .bool false := HT.out.h 15 (by decide) d15 (fun hm => absurd hm (by decide))
    subst e15
    have HL := hide hi4
    clear hi hi1 hi2 hi3 hi4 d22 d15
    refine wpOp_step (o := { dst := some 51, op := Op.unOp UnOp.not 4 (Operand.tmp 50), type := 4, pos := "law.go:189", after := #[{ on := 22, ground := Ground.data }, { on := 15, ground := Ground.guard }], guard := some (15, false) }) rfl (fun K hK => ?_)
    go_simp
    exact hK _ _ ⟨v5x0, v5x1, v5x2, v5x3, v5x4, v5x5, v5x6, v5x7, v5x8, v5x9, v5x10, v5x11, v5x12, v5x13, v5x14, _, v5x16, v5x17, v5x18, v5x19, v5x20, v5x21, _, .bool false, v5x24, rfl, HT.out.plain (Ph5_mono a b c pj pm pd w y2) (Below.refl _ _) 23 (by decide) HL.out _ rfl (by simp) (by simp) (by decide)⟩
  · have d15 := hi3 _ rfl { on := 15, ground := Ground.data } (by simp) rfl
    have d23 := hi3 _ rfl { on := 23, ground := Ground.data } (by simp) rfl
    have e15 : v5x15 = .bool false := HT.out.h 15 (by decide) d15 (fun hm => absurd hm (by decide))
    subst e15
    have e23 : v5x23 = .bool false := HT.out.h 23 (by decide) d23 (fun hm => absurd hm (by decide))
    subst e23
    have HL := hide hi4
    clear hi hi1 hi2 hi3 hi4 d15 d23
    refine wpOp_step (o := { dst := some 52, op := Op.pick (Operand.tmp 43) (Operand.const (Value.bool true)) (Operand.tmp 51), type := 4, pos := "law.go:189", after := #[{ on := 15, ground := Ground.data }, { on := 23, ground := Ground.data }], guard := none }) rfl (fun K hK => ?_)
    go_simp
    exact hK _ _ ⟨v5x0, v5x1, v5x2, v5x3, v5x4, v5x5, v5x6, v5x7, v5x8, v5x9, v5x10, v5x11, v5x12, v5x13, v5x14, _, v5x16, v5x17, v5x18, v5x19, v5x20, v5x21, v5x22, _, .bool false, rfl, HT.out.plain (Ph5_mono a b c pj pm pd w y2) (Below.refl _ _) 24 (by decide) HL.out _ rfl (by simp) (by simp) (by decide)⟩
end Go.Proofs.Ytliedjloceckjaa
