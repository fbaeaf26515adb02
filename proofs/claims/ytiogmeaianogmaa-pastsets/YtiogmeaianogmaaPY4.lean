import Derived.Test.YtiogmeaianogmaaPY3
/- PastSets: the steps of a region that draws its order. -/
namespace Go.Proofs.Ytiogmeaianogmaa
open Go.RowKit
attribute [local go_sem ↓] ldP_eq stP_eq
attribute [local go_sem] zero_PC cells_PV fold_PC PC_size fold_PC1 fold_PC2 fold_PC3
def Ph4 (a b c : Pv) (ad : Addr) (w : World) (_ : World) : Nat → Value → World → Prop
  | 0, x, _ => x = .pointer (some ⟨w.heap.size, 0, none⟩)
  | 1, x, _ => x = PV a
  | 2, x, _ => x = .pointer (some ⟨w.heap.size, 2, none⟩)
  | 3, x, _ => x = PV b
  | 4, x, _ => x = .pointer (some ⟨w.heap.size, 4, none⟩)
  | 5, x, _ => x = PV c
  | 6, x, W => ∃ g, x = .slice (some ⟨g, 0, none⟩) 3 3 ∧ PRow W (some ⟨g, 0, none⟩) 3 [a, b, c]
  | 8, x, _ => x = .slice (some ad) 3 3
  | 10, x, _ => x = .bool true
  | 11, x, _ => x = .bool false
  | 12, x, _ => x = .bool false
  | 14, x, _ => x = PV pv0
  | 15, x, _ => x = .bool true
  | 16, x, _ => x = .bool false
  | 17, x, _ => x = .bool false
  | 18, x, _ => x = .bool false
  | 19, x, _ => x = .pointer (some ⟨w.heap.size, 2, none⟩)
  | 20, x, _ => x = PV b
  | 21, x, W => ∃ g, x = .slice (some ⟨g, 0, none⟩) 1 1 ∧ PRow W (some ⟨g, 0, none⟩) 1 [b]
  | 23, x, _ => x = .pointer (some ⟨w.heap.size, 2, none⟩)
  | 24, x, _ => x = PV b
  | 26, x, _ => x = .bool true
  | 27, x, _ => x = .bool false
  | 28, x, _ => x = .bool false
  | _, _, _ => True
theorem Ph4_mono (a b c : Pv) (ad : Addr) (w : World) (W0 : World) : Mono (Ph4 a b c ad w W0) := fun i x W W' h hb => match i with
  | 0 => h
  | 1 => h
  | 2 => h
  | 3 => h
  | 4 => h
  | 5 => h
  | 6 => by obtain ⟨g, e, R⟩ := h; exact ⟨g, e, R.below hb⟩
  | 8 => h
  | 10 => h
  | 11 => h
  | 12 => h
  | 14 => h
  | 15 => h
  | 16 => h
  | 17 => h
  | 18 => h
  | 19 => h
  | 20 => h
  | 21 => by obtain ⟨g, e, R⟩ := h; exact ⟨g, e, R.below hb⟩
  | 23 => h
  | 24 => h
  | 26 => h
  | 27 => h
  | 28 => h
  | 7 => trivial
  | 9 => trivial
  | 13 => trivial
  | 22 => trivial
  | 25 => trivial
  | _ + 29 => trivial
set_option maxRecDepth 100000 in
set_option maxHeartbeats 4000000 in
theorem st4 {a b c : Pv} {dv : Value} {rp ms : Int} {w w2 : World} {ad : Addr} (HP0 : Hid (PAt w2 ⟨w.heap.size, 0, none⟩ a)) (HP1 : Hid (PAt w2 ⟨w.heap.size, 2, none⟩ b)) (HP2 : Hid (PAt w2 ⟨w.heap.size, 4, none⟩ c)) (HA : Hid (PSrc w2 a)) (HB : Hid (PSrc w2 b)) (HC : Hid (PSrc w2 c)) (HRA : Hid (PRow w2 (some ad) 3 [a, b, c])) (HW : Hid (wt [a, b, c] ≤ 4000000000000)) {Q : Exit → Act → World → Prop} :
    ∀ (l : Array Bool) (x : Act) (W : World), (∃ v4x0 v4x1 v4x2 v4x3 v4x4 v4x5 v4x6 v4x7 v4x8 v4x9 v4x10 v4x11 v4x12 v4x13 v4x14 v4x15 v4x16 v4x17 v4x18 v4x19 v4x20 v4x21 v4x22 v4x23 v4x24 v4x25 v4x26 v4x27 v4x28, x = { tmps := #[CaseV a b c dv rp ms, ptr w.heap.size, .bool false, .slice (some ad) 3 3, undef, undef, undef, undef, .bool true, .bool false, .pointer (some ⟨w.heap.size, 0, none⟩), PV a, .pointer (some ⟨w.heap.size, 2, none⟩), PV b, .pointer (some ⟨w.heap.size, 4, none⟩), PV c, .slice (some ad) 3 3, v4x0, v4x1, v4x2, v4x3, v4x4, v4x5, v4x6, v4x7, v4x8, v4x9, v4x10, v4x11, v4x12, v4x13, v4x14, v4x15, v4x16, v4x17, v4x18, v4x19, v4x20, v4x21, v4x22, v4x23, v4x24, v4x25, v4x26, v4x27, v4x28, undef, undef, undef, undef, undef, undef, undef, undef, undef, undef, undef, undef, undef, undef, undef, undef, undef, undef, undef, undef, undef, undef, undef, undef, undef, undef, undef, undef, undef, undef, undef, undef, undef, undef, undef, undef, undef, undef, undef, undef, undef, undef, undef, undef, undef, undef, undef, undef, undef, undef, undef, undef, undef, undef, undef, undef, undef, undef, undef, undef, undef, undef, undef, undef, undef, undef, undef, undef, undef, undef, undef], defers := [] } ∧ BI 29 36 w2 (Ph4 a b c ad w w2) [] [(7, IsP (mOr (mP a.P) (mOr (mP b.P) (mP c.P)))), (9, IsP (mOr (mP a.P) (mOr (mP b.P) (mP c.P)))), (13, IsP (fun _ _ => False)), (22, IsP (mP b.P)), (25, IsP (mP b.P))] [] l W [v4x0, v4x1, v4x2, v4x3, v4x4, v4x5, v4x6, v4x7, v4x8, v4x9, v4x10, v4x11, v4x12, v4x13, v4x14, v4x15, v4x16, v4x17, v4x18, v4x19, v4x20, v4x21, v4x22, v4x23, v4x24, v4x25, v4x26, v4x27, v4x28]) → ∀ i, i ∈ Region.ready .any #[{ dst := some 17, op := Op.fieldAddr 28 (Operand.tmp 1) 0, type := 0, pos := "law.go:121", after := #[], guard := none }, { dst := some 18, op := Op.load 25 (Operand.tmp 17), type := 25, pos := "law.go:121", after := #[{ on := 0, ground := Ground.data }], guard := none }, { dst := some 19, op := Op.fieldAddr 28 (Operand.tmp 1) 1, type := 0, pos := "law.go:121", after := #[], guard := none }, { dst := some 20, op := Op.load 25 (Operand.tmp 19), type := 25, pos := "law.go:121", after := #[{ on := 2, ground := Ground.data }], guard := none }, { dst := some 21, op := Op.fieldAddr 28 (Operand.tmp 1) 2, type := 0, pos := "law.go:121", after := #[], guard := none }, { dst := some 22, op := Op.load 25 (Operand.tmp 21), type := 25, pos := "law.go:121", after := #[{ on := 4, ground := Ground.data }], guard := none }, { dst := some 23, op := Op.buildSlice 30 3 #[(0, Operand.tmp 18), (1, Operand.tmp 20), (2, Operand.tmp 22)], type := 30, pos := "law.go:121", after := #[{ on := 1, ground := Ground.data }, { on := 3, ground := Ground.data }, { on := 5, ground := Ground.data }], guard := none }, { dst := some 24, op := Op.call { callee := Callee.value (Operand.func 8), args := #[Operand.tmp 23], argTypes := #[30] }, type := 25, pos := "law.go:121", after := #[{ on := 6, ground := Ground.data }], guard := none }, { dst := some 25, op := Op.move (Operand.tmp 3), type := 30, pos := "law.go:121", after := #[], guard := none }, { dst := some 26, op := Op.call { callee := Callee.value (Operand.func 9), args := #[Operand.tmp 25], argTypes := #[30] }, type := 25, pos := "law.go:121", after := #[{ on := 8, ground := Ground.data }, { on := 7, ground := Ground.chain }], guard := none }, { dst := some 27, op := Op.call { callee := Callee.value (Operand.func 7), args := #[Operand.tmp 24, Operand.tmp 26], argTypes := #[25, 25] }, type := 4, pos := "law.go:121", after := #[{ on := 7, ground := Ground.data }, { on := 9, ground := Ground.data }, { on := 9, ground := Ground.chain }], guard := none }, { dst := some 28, op := Op.unOp UnOp.not 4 (Operand.tmp 27), type := 4, pos := "law.go:121", after := #[{ on := 10, ground := Ground.data }], guard := none }, { dst := some 29, op := Op.move (Operand.tmp 28), type := 4, pos := "law.go:121", after := #[{ on := 11, ground := Ground.data }, { on := 10, ground := Ground.chain }], guard := none }, { dst := some 30, op := Op.call { callee := Callee.value (Operand.func 8), args := #[Operand.const (Value.slice none 0 0)], argTypes := #[30] }, type := 25, pos := "law.go:121", after := #[{ on := 12, ground := Ground.chain }, { on := 12, ground := Ground.guard }], guard := some (12, false) }, { dst := some 31, op := Op.build 25 #[], type := 25, pos := "law.go:121", after := #[{ on := 12, ground := Ground.guard }], guard := some (12, false) }, { dst := some 32, op := Op.call { callee := Callee.value (Operand.func 7), args := #[Operand.tmp 30, Operand.tmp 31], argTypes := #[25, 25] }, type := 4, pos := "law.go:121", after := #[{ on := 13, ground := Ground.data }, { on := 14, ground := Ground.data }, { on := 13, ground := Ground.chain }, { on := 12, ground := Ground.guard }], guard := some (12, false) }, { dst := some 33, op := Op.unOp UnOp.not 4 (Operand.tmp 32), type := 4, pos := "law.go:121", after := #[{ on := 15, ground := Ground.data }, { on := 12, ground := Ground.guard }], guard := some (12, false) }, { dst := some 34, op := Op.pick (Operand.tmp 29) (Operand.const (Value.bool true)) (Operand.tmp 33), type := 4, pos := "law.go:121", after := #[{ on := 12, ground := Ground.data }, { on := 16, ground := Ground.data }], guard := none }, { dst := some 35, op := Op.move (Operand.tmp 34), type := 4, pos := "law.go:121", after := #[{ on := 17, ground := Ground.data }, { on := 15, ground := Ground.chain }], guard := none }, { dst := some 36, op := Op.fieldAddr 28 (Operand.tmp 1) 1, type := 0, pos := "law.go:121", after := #[{ on := 18, ground := Ground.guard }], guard := some (18, false) }, { dst := some 37, op := Op.load 25 (Operand.tmp 36), type := 25, pos := "law.go:121", after := #[{ on := 19, ground := Ground.data }, { on := 18, ground := Ground.guard }], guard := some (18, false) }, { dst := some 38, op := Op.buildSlice 30 1 #[(0, Operand.tmp 37)], type := 30, pos := "law.go:121", after := #[{ on := 20, ground := Ground.data }, { on := 18, ground := Ground.guard }], guard := some (18, false) }, { dst := some 39, op := Op.call { callee := Callee.value (Operand.func 8), args := #[Operand.tmp 38], argTypes := #[30] }, type := 25, pos := "law.go:121", after := #[{ on := 21, ground := Ground.data }, { on := 18, ground := Ground.chain }, { on := 18, ground := Ground.guard }], guard := some (18, false) }, { dst := some 40, op := Op.fieldAddr 28 (Operand.tmp 1) 1, type := 0, pos := "law.go:121", after := #[{ on := 18, ground := Ground.guard }], guard := some (18, false) }, { dst := some 41, op := Op.load 25 (Operand.tmp 40), type := 25, pos := "law.go:121", after := #[{ on := 23, ground := Ground.data }, { on := 18, ground := Ground.guard }], guard := some (18, false) }, { dst := some 42, op := Op.call { callee := Callee.value (Operand.func 10), args := #[Operand.tmp 41], argTypes := #[25] }, type := 25, pos := "law.go:121", after := #[{ on := 24, ground := Ground.data }, { on := 22, ground := Ground.chain }, { on := 18, ground := Ground.guard }], guard := some (18, false) }, { dst := some 43, op := Op.call { callee := Callee.value (Operand.func 7), args := #[Operand.tmp 39, Operand.tmp 42], argTypes := #[25, 25] }, type := 4, pos := "law.go:121", after := #[{ on := 22, ground := Ground.data }, { on := 25, ground := Ground.data }, { on := 25, ground := Ground.chain }, { on := 18, ground := Ground.guard }], guard := some (18, false) }, { dst := some 44, op := Op.unOp UnOp.not 4 (Operand.tmp 43), type := 4, pos := "law.go:121", after := #[{ on := 26, ground := Ground.data }, { on := 18, ground := Ground.guard }], guard := some (18, false) }, { dst := some 45, op := Op.pick (Operand.tmp 35) (Operand.const (Value.bool true)) (Operand.tmp 44), type := 4, pos := "law.go:121", after := #[{ on := 18, ground := Ground.data }, { on := 27, ground := Ground.data }], guard := none }] l → wpOp Try.prog #[{ dst := some 17, op := Op.fieldAddr 28 (Operand.tmp 1) 0, type := 0, pos := "law.go:121", after := #[], guard := none }, { dst := some 18, op := Op.load 25 (Operand.tmp 17), type := 25, pos := "law.go:121", after := #[{ on := 0, ground := Ground.data }], guard := none }, { dst := some 19, op := Op.fieldAddr 28 (Operand.tmp 1) 1, type := 0, pos := "law.go:121", after := #[], guard := none }, { dst := some 20, op := Op.load 25 (Operand.tmp 19), type := 25, pos := "law.go:121", after := #[{ on := 2, ground := Ground.data }], guard := none }, { dst := some 21, op := Op.fieldAddr 28 (Operand.tmp 1) 2, type := 0, pos := "law.go:121", after := #[], guard := none }, { dst := some 22, op := Op.load 25 (Operand.tmp 21), type := 25, pos := "law.go:121", after := #[{ on := 4, ground := Ground.data }], guard := none }, { dst := some 23, op := Op.buildSlice 30 3 #[(0, Operand.tmp 18), (1, Operand.tmp 20), (2, Operand.tmp 22)], type := 30, pos := "law.go:121", after := #[{ on := 1, ground := Ground.data }, { on := 3, ground := Ground.data }, { on := 5, ground := Ground.data }], guard := none }, { dst := some 24, op := Op.call { callee := Callee.value (Operand.func 8), args := #[Operand.tmp 23], argTypes := #[30] }, type := 25, pos := "law.go:121", after := #[{ on := 6, ground := Ground.data }], guard := none }, { dst := some 25, op := Op.move (Operand.tmp 3), type := 30, pos := "law.go:121", after := #[], guard := none }, { dst := some 26, op := Op.call { callee := Callee.value (Operand.func 9), args := #[Operand.tmp 25], argTypes := #[30] }, type := 25, pos := "law.go:121", after := #[{ on := 8, ground := Ground.data }, { on := 7, ground := Ground.chain }], guard := none }, { dst := some 27, op := Op.call { callee := Callee.value (Operand.func 7), args := #[Operand.tmp 24, Operand.tmp 26], argTypes := #[25, 25] }, type := 4, pos := "law.go:121", after := #[{ on := 7, ground := Ground.data }, { on := 9, ground := Ground.data }, { on := 9, ground := Ground.chain }], guard := none }, { dst := some 28, op := Op.unOp UnOp.not 4 (Operand.tmp 27), type := 4, pos := "law.go:121", after := #[{ on := 10, ground := Ground.data }], guard := none }, { dst := some 29, op := Op.move (Operand.tmp 28), type := 4, pos := "law.go:121", after := #[{ on := 11, ground := Ground.data }, { on := 10, ground := Ground.chain }], guard := none }, { dst := some 30, op := Op.call { callee := Callee.value (Operand.func 8), args := #[Operand.const (Value.slice none 0 0)], argTypes := #[30] }, type := 25, pos := "law.go:121", after := #[{ on := 12, ground := Ground.chain }, { on := 12, ground := Ground.guard }], guard := some (12, false) }, { dst := some 31, op := Op.build 25 #[], type := 25, pos := "law.go:121", after := #[{ on := 12, ground := Ground.guard }], guard := some (12, false) }, { dst := some 32, op := Op.call { callee := Callee.value (Operand.func 7), args := #[Operand.tmp 30, Operand.tmp 31], argTypes := #[25, 25] }, type := 4, pos := "law.go:121", after := #[{ on := 13, ground := Ground.data }, { on := 14, ground := Ground.data }, { on := 13, ground := Ground.chain }, { on := 12, ground := Ground.guard }], guard := some (12, false) }, { dst := some 33, op := Op.unOp UnOp.not 4 (Operand.tmp 32), type := 4, pos := "law.go:121", after := #[{ on := 15, ground := Ground.data }, { on := 12, ground := Ground.guard }], guard := some (12, false) }, { dst := some 34, op := Op.pick (Operand.tmp 29) (Operand.const (Value.bool true)) (Operand.tmp 33), type := 4, pos := "law.go:121", after := #[{ on := 12, ground := Ground.data }, { on := 16, ground := Ground.data }], guard := none }, { dst := some 35, op := Op.move (Operand.tmp 34), type := 4, pos := "law.go:121", after := #[{ on := 17, ground := Ground.data }, { on := 15, ground := Ground.chain }], guard := none }, { dst := some 36, op := Op.fieldAddr 28 (Operand.tmp 1) 1, type := 0, pos := "law.go:121", after := #[{ on := 18, ground := Ground.guard }], guard := some (18, false) }, { dst := some 37, op := Op.load 25 (Operand.tmp 36), type := 25, pos := "law.go:121", after := #[{ on := 19, ground := Ground.data }, { on := 18, ground := Ground.guard }], guard := some (18, false) }, { dst := some 38, op := Op.buildSlice 30 1 #[(0, Operand.tmp 37)], type := 30, pos := "law.go:121", after := #[{ on := 20, ground := Ground.data }, { on := 18, ground := Ground.guard }], guard := some (18, false) }, { dst := some 39, op := Op.call { callee := Callee.value (Operand.func 8), args := #[Operand.tmp 38], argTypes := #[30] }, type := 25, pos := "law.go:121", after := #[{ on := 21, ground := Ground.data }, { on := 18, ground := Ground.chain }, { on := 18, ground := Ground.guard }], guard := some (18, false) }, { dst := some 40, op := Op.fieldAddr 28 (Operand.tmp 1) 1, type := 0, pos := "law.go:121", after := #[{ on := 18, ground := Ground.guard }], guard := some (18, false) }, { dst := some 41, op := Op.load 25 (Operand.tmp 40), type := 25, pos := "law.go:121", after := #[{ on := 23, ground := Ground.data }, { on := 18, ground := Ground.guard }], guard := some (18, false) }, { dst := some 42, op := Op.call { callee := Callee.value (Operand.func 10), args := #[Operand.tmp 41], argTypes := #[25] }, type := 25, pos := "law.go:121", after := #[{ on := 24, ground := Ground.data }, { on := 22, ground := Ground.chain }, { on := 18, ground := Ground.guard }], guard := some (18, false) }, { dst := some 43, op := Op.call { callee := Callee.value (Operand.func 7), args := #[Operand.tmp 39, Operand.tmp 42], argTypes := #[25, 25] }, type := 4, pos := "law.go:121", after := #[{ on := 22, ground := Ground.data }, { on := 25, ground := Ground.data }, { on := 25, ground := Ground.chain }, { on := 18, ground := Ground.guard }], guard := some (18, false) }, { dst := some 44, op := Op.unOp UnOp.not 4 (Operand.tmp 43), type := 4, pos := "law.go:121", after := #[{ on := 26, ground := Ground.data }, { on := 18, ground := Ground.guard }], guard := some (18, false) }, { dst := some 45, op := Op.pick (Operand.tmp 35) (Operand.const (Value.bool true)) (Operand.tmp 44), type := 4, pos := "law.go:121", after := #[{ on := 18, ground := Ground.data }, { on := 27, ground := Ground.data }], guard := none }] Q i (fun a' w' => ∃ v4x0 v4x1 v4x2 v4x3 v4x4 v4x5 v4x6 v4x7 v4x8 v4x9 v4x10 v4x11 v4x12 v4x13 v4x14 v4x15 v4x16 v4x17 v4x18 v4x19 v4x20 v4x21 v4x22 v4x23 v4x24 v4x25 v4x26 v4x27 v4x28, a' = { tmps := #[CaseV a b c dv rp ms, ptr w.heap.size, .bool false, .slice (some ad) 3 3, undef, undef, undef, undef, .bool true, .bool false, .pointer (some ⟨w.heap.size, 0, none⟩), PV a, .pointer (some ⟨w.heap.size, 2, none⟩), PV b, .pointer (some ⟨w.heap.size, 4, none⟩), PV c, .slice (some ad) 3 3, v4x0, v4x1, v4x2, v4x3, v4x4, v4x5, v4x6, v4x7, v4x8, v4x9, v4x10, v4x11, v4x12, v4x13, v4x14, v4x15, v4x16, v4x17, v4x18, v4x19, v4x20, v4x21, v4x22, v4x23, v4x24, v4x25, v4x26, v4x27, v4x28, undef, undef, undef, undef, undef, undef, undef, undef, undef, undef, undef, undef, undef, undef, undef, undef, undef, undef, undef, undef, undef, undef, undef, undef, undef, undef, undef, undef, undef, undef, undef, undef, undef, undef, undef, undef, undef, undef, undef, undef, undef, undef, undef, undef, undef, undef, undef, undef, undef, undef, undef, undef, undef, undef, undef, undef, undef, undef, undef, undef, undef, undef, undef, undef, undef, undef, undef, undef, undef, undef, undef], defers := [] } ∧ BI 29 36 w2 (Ph4 a b c ad w w2) [] [(7, IsP (mOr (mP a.P) (mOr (mP b.P) (mP c.P)))), (9, IsP (mOr (mP a.P) (mOr (mP b.P) (mP c.P)))), (13, IsP (fun _ _ => False)), (22, IsP (mP b.P)), (25, IsP (mP b.P))] [] (l.setIfInBounds i true) w' [v4x0, v4x1, v4x2, v4x3, v4x4, v4x5, v4x6, v4x7, v4x8, v4x9, v4x10, v4x11, v4x12, v4x13, v4x14, v4x15, v4x16, v4x17, v4x18, v4x19, v4x20, v4x21, v4x22, v4x23, v4x24, v4x25, v4x26, v4x27, v4x28]) x W := by
  rintro l x W ⟨v4x0, v4x1, v4x2, v4x3, v4x4, v4x5, v4x6, v4x7, v4x8, v4x9, v4x10, v4x11, v4x12, v4x13, v4x14, v4x15, v4x16, v4x17, v4x18, v4x19, v4x20, v4x21, v4x22, v4x23, v4x24, v4x25, v4x26, v4x27, v4x28, rfl, T⟩ i hi
  obtain ⟨hi1, hi2, hi3⟩ := ready_mem hi
  have hi4 := no_true hi2
  have hc : i = 0 ∨ i = 1 ∨ i = 2 ∨ i = 3 ∨ i = 4 ∨ i = 5 ∨ i = 6 ∨ i = 7 ∨ i = 8 ∨ i = 9 ∨ i = 10 ∨ i = 11 ∨ i = 12 ∨ i = 13 ∨ i = 14 ∨ i = 15 ∨ i = 16 ∨ i = 17 ∨ i = 18 ∨ i = 19 ∨ i = 20 ∨ i = 21 ∨ i = 22 ∨ i = 23 ∨ i = 24 ∨ i = 25 ∨ i = 26 ∨ i = 27 ∨ i = 28 := by have h : i < 29 := hi1; omega
  have HT := hide T
  clear T
  rcases hc with rfl | rfl | rfl | rfl | rfl | rfl | rfl | rfl | rfl | rfl | rfl | rfl | rfl | rfl | rfl | rfl | rfl | rfl | rfl | rfl | rfl | rfl | rfl | rfl | rfl | rfl | rfl | rfl | rfl
  · have HL := hide hi4
    clear hi hi1 hi2 hi3 hi4
    refine wpOp_step (o := { dst := some 17, op := Op.fieldAddr 28 (Operand.tmp 1) 0, type := 0, pos := "law.go:121", after := #[], guard := none }) rfl (fun K hK => ?_)
    go_simp
    exact hK _ _ ⟨.pointer (some ⟨w.heap.size, 0, none⟩), v4x1, v4x2, v4x3, v4x4, v4x5, v4x6, v4x7, v4x8, v4x9, v4x10, v4x11, v4x12, v4x13, v4x14, v4x15, v4x16, v4x17, v4x18, v4x19, v4x20, v4x21, v4x22, v4x23, v4x24, v4x25, v4x26, v4x27, v4x28, rfl, HT.out.plain (Ph4_mono a b c ad w w2) (Below.refl _ _) 0 (by decide) HL.out _ rfl (by simp) (by simp) (by decide)⟩
  · have d0 := hi3 _ rfl { on := 0, ground := Ground.data } (by simp) rfl
    have e0 : v4x0 = .pointer (some ⟨w.heap.size, 0, none⟩) := HT.out.h 0 (by decide) d0 (fun hm => absurd hm (by decide))
    subst e0
    have HL := hide hi4
    clear hi hi1 hi2 hi3 hi4 d0
    have l1 := run_ldP (HP0.out.on HT.out.b)
    refine wpOp_step (o := { dst := some 18, op := Op.load 25 (Operand.tmp 17), type := 25, pos := "law.go:121", after := #[{ on := 0, ground := Ground.data }], guard := none }) rfl (fun K hK => ?_)
    go_simp
    exact hK _ _ ⟨_, PV a, v4x2, v4x3, v4x4, v4x5, v4x6, v4x7, v4x8, v4x9, v4x10, v4x11, v4x12, v4x13, v4x14, v4x15, v4x16, v4x17, v4x18, v4x19, v4x20, v4x21, v4x22, v4x23, v4x24, v4x25, v4x26, v4x27, v4x28, rfl, HT.out.plain (Ph4_mono a b c ad w w2) (Below.refl _ _) 1 (by decide) HL.out _ rfl (by simp) (by simp) (by decide)⟩
  · have HL := hide hi4
    clear hi hi1 hi2 hi3 hi4
    refine wpOp_step (o := { dst := some 19, op := Op.fieldAddr 28 (Operand.tmp 1) 1, type := 0, pos := "law.go:121", after := #[], guard := none }) rfl (fun K hK => ?_)
    go_simp
    exact hK _ _ ⟨v4x0, v4x1, .pointer (some ⟨w.heap.size, 2, none⟩), v4x3, v4x4, v4x5, v4x6, v4x7, v4x8, v4x9, v4x10, v4x11, v4x12, v4x13, v4x14, v4x15, v4x16, v4x17, v4x18, v4x19, v4x20, v4x21, v4x22, v4x23, v4x24, v4x25, v4x26, v4x27, v4x28, rfl, HT.out.plain (Ph4_mono a b c ad w w2) (Below.refl _ _) 2 (by decide) HL.out _ rfl (by simp) (by simp) (by decide)⟩
  · have d2 := hi3 _ rfl { on := 2, ground := Ground.data } (by simp) rfl
    have e2 : v4x2 = .pointer (some ⟨w.heap.size, 2, none⟩) := HT.out.h 2 (by decide) d2 (fun hm => absurd hm (by decide))
    subst e2
    have HL := hide hi4
    clear hi hi1 hi2 hi3 hi4 d2
    have l1 := run_ldP (HP1.out.on HT.out.b)
    refine wpOp_step (o := { dst := some 20, op := Op.load 25 (Operand.tmp 19), type := 25, pos := "law.go:121", after := #[{ on := 2, ground := Ground.data }], guard := none }) rfl (fun K hK => ?_)
    go_simp
    exact hK _ _ ⟨v4x0, v4x1, _, PV b, v4x4, v4x5, v4x6, v4x7, v4x8, v4x9, v4x10, v4x11, v4x12, v4x13, v4x14, v4x15, v4x16, v4x17, v4x18, v4x19, v4x20, v4x21, v4x22, v4x23, v4x24, v4x25, v4x26, v4x27, v4x28, rfl, HT.out.plain (Ph4_mono a b c ad w w2) (Below.refl _ _) 3 (by decide) HL.out _ rfl (by simp) (by simp) (by decide)⟩
  · have HL := hide hi4
    clear hi hi1 hi2 hi3 hi4
    refine wpOp_step (o := { dst := some 21, op := Op.fieldAddr 28 (Operand.tmp 1) 2, type := 0, pos := "law.go:121", after := #[], guard := none }) rfl (fun K hK => ?_)
    go_simp
    exact hK _ _ ⟨v4x0, v4x1, v4x2, v4x3, .pointer (some ⟨w.heap.size, 4, none⟩), v4x5, v4x6, v4x7, v4x8, v4x9, v4x10, v4x11, v4x12, v4x13, v4x14, v4x15, v4x16, v4x17, v4x18, v4x19, v4x20, v4x21, v4x22, v4x23, v4x24, v4x25, v4x26, v4x27, v4x28, rfl, HT.out.plain (Ph4_mono a b c ad w w2) (Below.refl _ _) 4 (by decide) HL.out _ rfl (by simp) (by simp) (by decide)⟩
  · have d4 := hi3 _ rfl { on := 4, ground := Ground.data } (by simp) rfl
    have e4 : v4x4 = .pointer (some ⟨w.heap.size, 4, none⟩) := HT.out.h 4 (by decide) d4 (fun hm => absurd hm (by decide))
    subst e4
    have HL := hide hi4
    clear hi hi1 hi2 hi3 hi4 d4
    have l1 := run_ldP (HP2.out.on HT.out.b)
    refine wpOp_step (o := { dst := some 22, op := Op.load 25 (Operand.tmp 21), type := 25, pos := "law.go:121", after := #[{ on := 4, ground := Ground.data }], guard := none }) rfl (fun K hK => ?_)
    go_simp
    exact hK _ _ ⟨v4x0, v4x1, v4x2, v4x3, _, PV c, v4x6, v4x7, v4x8, v4x9, v4x10, v4x11, v4x12, v4x13, v4x14, v4x15, v4x16, v4x17, v4x18, v4x19, v4x20, v4x21, v4x22, v4x23, v4x24, v4x25, v4x26, v4x27, v4x28, rfl, HT.out.plain (Ph4_mono a b c ad w w2) (Below.refl _ _) 5 (by decide) HL.out _ rfl (by simp) (by simp) (by decide)⟩
  · have d1 := hi3 _ rfl { on := 1, ground := Ground.data } (by simp) rfl
    have d3 := hi3 _ rfl { on := 3, ground := Ground.data } (by simp) rfl
    have d5 := hi3 _ rfl { on := 5, ground := Ground.data } (by simp) rfl
    have e1 : v4x1 = PV a := HT.out.h 1 (by decide) d1 (fun hm => absurd hm (by decide))
    subst e1
    have e3 : v4x3 = PV b := HT.out.h 3 (by decide) d3 (fun hm => absurd hm (by decide))
    subst e3
    have e5 : v4x5 = PV c := HT.out.h 5 (by decide) d5 (fun hm => absurd hm (by decide))
    subst e5
    have HL := hide hi4
    clear hi hi1 hi2 hi3 hi4 d1 d3 d5
    refine wpOp_step (o := { dst := some 23, op := Op.buildSlice 30 3 #[(0, Operand.tmp 18), (1, Operand.tmp 20), (2, Operand.tmp 22)], type := 30, pos := "law.go:121", after := #[{ on := 1, ground := Ground.data }, { on := 3, ground := Ground.data }, { on := 5, ground := Ground.data }], guard := none }) rfl (fun K hK => ?_)
    go_simp
    exact hK _ _ ⟨v4x0, _, v4x2, _, v4x4, _, .slice (some ⟨W.heap.size, 0, none⟩) 3 3, v4x7, v4x8, v4x9, v4x10, v4x11, v4x12, v4x13, v4x14, v4x15, v4x16, v4x17, v4x18, v4x19, v4x20, v4x21, v4x22, v4x23, v4x24, v4x25, v4x26, v4x27, v4x28, rfl, HT.out.plain (Ph4_mono a b c ad w w2) (below_new _ _) 6 (by decide) HL.out _ ⟨_, rfl, prow_three W a b c (HA.out.below HT.out.b) (HB.out.below HT.out.b) (HC.out.below HT.out.b)⟩ (by simp) (by simp) (by decide)⟩
  · have d6 := hi3 _ rfl { on := 6, ground := Ground.data } (by simp) rfl
    obtain ⟨g6, e6, R6⟩ : ∃ g, v4x6 = .slice (some ⟨g, 0, none⟩) 3 3 ∧ PRow W (some ⟨g, 0, none⟩) 3 [a, b, c] := HT.out.h 6 (by decide) d6 (fun hm => absurd hm (by decide))
    subst e6
    have HR6 := hide R6
    clear R6
    have HL := hide hi4
    clear hi hi1 hi2 hi3 hi4 d6
    refine wpOp_step (o := { dst := some 24, op := Op.call { callee := Callee.value (Operand.func 8), args := #[Operand.tmp 23], argTypes := #[30] }, type := 25, pos := "law.go:121", after := #[{ on := 6, ground := Ground.data }], guard := none }) rfl (fun K hK => ?_)
    go_simp
    go_wp2_with fail
    refine (pastJoin_any _ 3 3 [a, b, c] _ HR6.out (by have h := HW.out; omega) (by omega)).mono ?_
    rintro e w' ⟨pp, rfl, pS, pN, pb, pq⟩
    exact hK _ _ ⟨v4x0, v4x1, v4x2, v4x3, v4x4, v4x5, _, PV pp, v4x8, v4x9, v4x10, v4x11, v4x12, v4x13, v4x14, v4x15, v4x16, v4x17, v4x18, v4x19, v4x20, v4x21, v4x22, v4x23, v4x24, v4x25, v4x26, v4x27, v4x28, rfl, HT.out.call (Ph4_mono a b c ad w w2) pb 7 (IsP (mOr (mP a.P) (mOr (mP b.P) (mP c.P)))) (by decide) HL.out (by simp) (by simp) pp pS pN (isP_join3 pq) (fun _ _ => trivial) (by simp) (by decide)⟩
  · have HL := hide hi4
    clear hi hi1 hi2 hi3 hi4
    refine wpOp_step (o := { dst := some 25, op := Op.move (Operand.tmp 3), type := 30, pos := "law.go:121", after := #[], guard := none }) rfl (fun K hK => ?_)
    go_simp
    exact hK _ _ ⟨v4x0, v4x1, v4x2, v4x3, v4x4, v4x5, v4x6, v4x7, .slice (some ad) 3 3, v4x9, v4x10, v4x11, v4x12, v4x13, v4x14, v4x15, v4x16, v4x17, v4x18, v4x19, v4x20, v4x21, v4x22, v4x23, v4x24, v4x25, v4x26, v4x27, v4x28, rfl, HT.out.plain (Ph4_mono a b c ad w w2) (Below.refl _ _) 8 (by decide) HL.out _ rfl (by simp) (by simp) (by decide)⟩
  · have d8 := hi3 _ rfl { on := 8, ground := Ground.data } (by simp) rfl
    have e8 : v4x8 = .slice (some ad) 3 3 := HT.out.h 8 (by decide) d8 (fun hm => absurd hm (by decide))
    subst e8
    have HL := hide hi4
    clear hi hi1 hi2 hi3 hi4 d8
    refine wpOp_step (o := { dst := some 26, op := Op.call { callee := Callee.value (Operand.func 9), args := #[Operand.tmp 25], argTypes := #[30] }, type := 25, pos := "law.go:121", after := #[{ on := 8, ground := Ground.data }, { on := 7, ground := Ground.chain }], guard := none }) rfl (fun K hK => ?_)
    go_simp
    go_wp2_with fail
    refine (refJoin_any _ 3 3 [a, b, c] _ (HRA.out.below HT.out.b) (by have h := HW.out; omega) (by omega)).mono ?_
    rintro e w' ⟨pp, rfl, pS, pN, pb, pq⟩
    exact hK _ _ ⟨v4x0, v4x1, v4x2, v4x3, v4x4, v4x5, v4x6, v4x7, _, PV pp, v4x10, v4x11, v4x12, v4x13, v4x14, v4x15, v4x16, v4x17, v4x18, v4x19, v4x20, v4x21, v4x22, v4x23, v4x24, v4x25, v4x26, v4x27, v4x28, rfl, HT.out.call (Ph4_mono a b c ad w w2) pb 9 (IsP (mOr (mP a.P) (mOr (mP b.P) (mP c.P)))) (by decide) HL.out (by simp) (by simp) pp pS pN (isP_join3 pq) (fun _ _ => trivial) (by simp) (by decide)⟩
  · have d7 := hi3 _ rfl { on := 7, ground := Ground.data } (by simp) rfl
    have d9 := hi3 _ rfl { on := 9, ground := Ground.data } (by simp) rfl
    obtain ⟨p7, e7, S7, q7, -⟩ := HT.out.r (7, IsP (mOr (mP a.P) (mOr (mP b.P) (mP c.P)))) (by simp) d7
    have f7 : v4x7 = PV p7 := e7
    subst f7
    have HS7 := hide S7
    have HQ7 : Hid (IsP (mOr (mP a.P) (mOr (mP b.P) (mP c.P))) p7.P) := q7
    clear e7 S7 q7
    obtain ⟨p9, e9, S9, q9, -⟩ := HT.out.r (9, IsP (mOr (mP a.P) (mOr (mP b.P) (mP c.P)))) (by simp) d9
    have f9 : v4x9 = PV p9 := e9
    subst f9
    have HS9 := hide S9
    have HQ9 : Hid (IsP (mOr (mP a.P) (mOr (mP b.P) (mP c.P))) p9.P) := q9
    clear e9 S9 q9
    have HL := hide hi4
    clear hi hi1 hi2 hi3 hi4 d7 d9
    refine wpOp_step (o := { dst := some 27, op := Op.call { callee := Callee.value (Operand.func 7), args := #[Operand.tmp 24, Operand.tmp 26], argTypes := #[25, 25] }, type := 4, pos := "law.go:121", after := #[{ on := 7, ground := Ground.data }, { on := 9, ground := Ground.data }, { on := 9, ground := Ground.chain }], guard := none }) rfl (fun K hK => ?_)
    go_simp
    go_wp2_with fail
    refine (samePast_any p7 p9 _ HS7.out HS9.out).mono ?_
    rintro e w' ⟨bz, rfl, hx, pb⟩
    obtain rfl : bz = true := hx.2 (IsP.unique HQ7.out HQ9.out (fun _ _ _ => Iff.rfl))
    exact hK _ _ ⟨v4x0, v4x1, v4x2, v4x3, v4x4, v4x5, v4x6, _, v4x8, _, .bool true, v4x11, v4x12, v4x13, v4x14, v4x15, v4x16, v4x17, v4x18, v4x19, v4x20, v4x21, v4x22, v4x23, v4x24, v4x25, v4x26, v4x27, v4x28, rfl, HT.out.plain (Ph4_mono a b c ad w w2) pb 10 (by decide) HL.out _ rfl (by simp) (by simp) (by decide)⟩
  · have d10 := hi3 _ rfl { on := 10, ground := Ground.data } (by simp) rfl
    have e10 : v4x10 = .bool true := HT.out.h 10 (by decide) d10 (fun hm => absurd hm (by decide))
    subst e10
    have HL := hide hi4
    clear hi hi1 hi2 hi3 hi4 d10
    refine wpOp_step (o := { dst := some 28, op := Op.unOp UnOp.not 4 (Operand.tmp 27), type := 4, pos := "law.go:121", after := #[{ on := 10, ground := Ground.data }], guard := none }) rfl (fun K hK => ?_)
    go_simp
    exact hK _ _ ⟨v4x0, v4x1, v4x2, v4x3, v4x4, v4x5, v4x6, v4x7, v4x8, v4x9, _, .bool false, v4x12, v4x13, v4x14, v4x15, v4x16, v4x17, v4x18, v4x19, v4x20, v4x21, v4x22, v4x23, v4x24, v4x25, v4x26, v4x27, v4x28, rfl, HT.out.plain (Ph4_mono a b c ad w w2) (Below.refl _ _) 11 (by decide) HL.out _ rfl (by simp) (by simp) (by decide)⟩
  · have d11 := hi3 _ rfl { on := 11, ground := Ground.data } (by simp) rfl
    have e11 : v4x11 = .bool false := HT.out.h 11 (by decide) d11 (fun hm => absurd hm (by decide))
    subst e11
    have HL := hide hi4
    clear hi hi1 hi2 hi3 hi4 d11
    refine wpOp_step (o := { dst := some 29, op := Op.move (Operand.tmp 28), type := 4, pos := "law.go:121", after := #[{ on := 11, ground := Ground.data }, { on := 10, ground := Ground.chain }], guard := none }) rfl (fun K hK => ?_)
    go_simp
    exact hK _ _ ⟨v4x0, v4x1, v4x2, v4x3, v4x4, v4x5, v4x6, v4x7, v4x8, v4x9, v4x10, _, .bool false, v4x13, v4x14, v4x15, v4x16, v4x17, v4x18, v4x19, v4x20, v4x21, v4x22, v4x23, v4x24, v4x25, v4x26, v4x27, v4x28, rfl, HT.out.plain (Ph4_mono a b c ad w w2) (Below.refl _ _) 12 (by decide) HL.out _ rfl (by simp) (by simp) (by decide)⟩
  · have d12 := hi3 _ rfl { on := 12, ground := Ground.chain } (by simp) rfl
    have e12 : v4x12 = .bool false := HT.out.h 12 (by decide) d12 (fun hm => absurd hm (by decide))
    subst e12
    have HL := hide hi4
    clear hi hi1 hi2 hi3 hi4 d12
    refine wpOp_step (o := { dst := some 30, op := Op.call { callee := Callee.value (Operand.func 8), args := #[Operand.const (Value.slice none 0 0)], argTypes := #[30] }, type := 25, pos := "law.go:121", after := #[{ on := 12, ground := Ground.chain }, { on := 12, ground := Ground.guard }], guard := some (12, false) }) rfl (fun K hK => ?_)
    go_simp
    go_wp2_with fail
    refine (pastJoin_any none 0 0 [] _ (prow_none _) (by simp [wt]) (by omega)).mono ?_
    rintro e w' ⟨pp, rfl, pS, pN, pb, pq⟩
    exact hK _ _ ⟨v4x0, v4x1, v4x2, v4x3, v4x4, v4x5, v4x6, v4x7, v4x8, v4x9, v4x10, v4x11, _, PV pp, v4x14, v4x15, v4x16, v4x17, v4x18, v4x19, v4x20, v4x21, v4x22, v4x23, v4x24, v4x25, v4x26, v4x27, v4x28, rfl, HT.out.call (Ph4_mono a b c ad w w2) pb 13 (IsP (fun _ _ => False)) (by decide) HL.out (by simp) (by simp) pp pS pN (isP_join0 pq) (fun _ _ => trivial) (by simp) (by decide)⟩
  · have d12 := hi3 _ rfl { on := 12, ground := Ground.guard } (by simp) rfl
    have e12 : v4x12 = .bool false := HT.out.h 12 (by decide) d12 (fun hm => absurd hm (by decide))
    subst e12
    have HL := hide hi4
    clear hi hi1 hi2 hi3 hi4 d12
    refine wpOp_step (o := { dst := some 31, op := Op.build 25 #[], type := 25, pos := "law.go:121", after := #[{ on := 12, ground := Ground.guard }], guard := some (12, false) }) rfl (fun K hK => ?_)
    go_simp
    exact hK _ _ ⟨v4x0, v4x1, v4x2, v4x3, v4x4, v4x5, v4x6, v4x7, v4x8, v4x9, v4x10, v4x11, _, v4x13, PV pv0, v4x15, v4x16, v4x17, v4x18, v4x19, v4x20, v4x21, v4x22, v4x23, v4x24, v4x25, v4x26, v4x27, v4x28, rfl, HT.out.plain (Ph4_mono a b c ad w w2) (Below.refl _ _) 14 (by decide) HL.out _ rfl (by simp) (by simp) (by decide)⟩
  · have d13 := hi3 _ rfl { on := 13, ground := Ground.data } (by simp) rfl
    have d14 := hi3 _ rfl { on := 14, ground := Ground.data } (by simp) rfl
    have d12 := hi3 _ rfl { on := 12, ground := Ground.guard } (by simp) rfl
    obtain ⟨p13, e13, S13, q13, -⟩ := HT.out.r (13, IsP (fun _ _ => False)) (by simp) d13
    have f13 : v4x13 = PV p13 := e13
    subst f13
    have HS13 := hide S13
    have HQ13 : Hid (IsP (fun _ _ => False) p13.P) := q13
    clear e13 S13 q13
    have e14 : v4x14 = PV pv0 := HT.out.h 14 (by decide) d14 (fun hm => absurd hm (by decide))
    subst e14
    have e12 : v4x12 = .bool false := HT.out.h 12 (by decide) d12 (fun hm => absurd hm (by decide))
    subst e12
    have HL := hide hi4
    clear hi hi1 hi2 hi3 hi4 d13 d14 d12
    refine wpOp_step (o := { dst := some 32, op := Op.call { callee := Callee.value (Operand.func 7), args := #[Operand.tmp 30, Operand.tmp 31], argTypes := #[25, 25] }, type := 4, pos := "law.go:121", after := #[{ on := 13, ground := Ground.data }, { on := 14, ground := Ground.data }, { on := 13, ground := Ground.chain }, { on := 12, ground := Ground.guard }], guard := some (12, false) }) rfl (fun K hK => ?_)
    go_simp
    go_wp2_with fail
    refine (samePast_any p13 pv0 _ HS13.out (PSrc.zero _)).mono ?_
    rintro e w' ⟨bz, rfl, hx, pb⟩
    obtain rfl : bz = true := hx.2 (IsP.unique HQ13.out isP_zero (fun _ _ _ => Iff.rfl))
    exact hK _ _ ⟨v4x0, v4x1, v4x2, v4x3, v4x4, v4x5, v4x6, v4x7, v4x8, v4x9, v4x10, v4x11, _, _, _, .bool true, v4x16, v4x17, v4x18, v4x19, v4x20, v4x21, v4x22, v4x23, v4x24, v4x25, v4x26, v4x27, v4x28, rfl, HT.out.plain (Ph4_mono a b c ad w w2) pb 15 (by decide) HL.out _ rfl (by simp) (by simp) (by decide)⟩
  · have d15 := hi3 _ rfl { on := 15, ground := Ground.data } (by simp) rfl
    have d12 := hi3 _ rfl { on := 12, ground := Ground.guard } (by simp) rfl
    have e15 : v4x15 = .bool true := HT.out.h 15 (by decide) d15 (fun hm => absurd hm (by decide))
    subst e15
    have e12 : v4x12 = .bool false := HT.out.h 12 (by decide) d12 (fun hm => absurd hm (by decide))
    subst e12
    have HL := hide hi4
    clear hi hi1 hi2 hi3 hi4 d15 d12
    refine wpOp_step (o := { dst := some 33, op := Op.unOp UnOp.not 4 (Operand.tmp 32), type := 4, pos := "law.go:121", after := #[{ on := 15, ground := Ground.data }, { on := 12, ground := Ground.guard }], guard := some (12, false) }) rfl (fun K hK => ?_)
    go_simp
    exact hK _ _ ⟨v4x0, v4x1, v4x2, v4x3, v4x4, v4x5, v4x6, v4x7, v4x8, v4x9, v4x10, v4x11, _, v4x13, v4x14, _, .bool false, v4x17, v4x18, v4x19, v4x20, v4x21, v4x22, v4x23, v4x24, v4x25, v4x26, v4x27, v4x28, rfl, HT.out.plain (Ph4_mono a b c ad w w2) (Below.refl _ _) 16 (by decide) HL.out _ rfl (by simp) (by simp) (by decide)⟩
  · have d12 := hi3 _ rfl { on := 12, ground := Ground.data } (by simp) rfl
    have d16 := hi3 _ rfl { on := 16, ground := Ground.data } (by simp) rfl
    have e12 : v4x12 = .bool false := HT.out.h 12 (by decide) d12 (fun hm => absurd hm (by decide))
    subst e12
    have e16 : v4x16 = .bool false := HT.out.h 16 (by decide) d16 (fun hm => absurd hm (by decide))
    subst e16
    have HL := hide hi4
    clear hi hi1 hi2 hi3 hi4 d12 d16
    refine wpOp_step (o := { dst := some 34, op := Op.pick (Operand.tmp 29) (Operand.const (Value.bool true)) (Operand.tmp 33), type := 4, pos := "law.go:121", after := #[{ on := 12, ground := Ground.data }, { on := 16, ground := Ground.data }], guard := none }) rfl (fun K hK => ?_)
    go_simp
    exact hK _ _ ⟨v4x0, v4x1, v4x2, v4x3, v4x4, v4x5, v4x6, v4x7, v4x8, v4x9, v4x10, v4x11, _, v4x13, v4x14, v4x15, _, .bool false, v4x18, v4x19, v4x20, v4x21, v4x22, v4x23, v4x24, v4x25, v4x26, v4x27, v4x28, rfl, HT.out.plain (Ph4_mono a b c ad w w2) (Below.refl _ _) 17 (by decide) HL.out _ rfl (by simp) (by simp) (by decide)⟩
  · have d17 := hi3 _ rfl { on := 17, ground := Ground.data } (by simp) rfl
    have e17 : v4x17 = .bool false := HT.out.h 17 (by decide) d17 (fun hm => absurd hm (by decide))
    subst e17
    have HL := hide hi4
    clear hi hi1 hi2 hi3 hi4 d17
    refine wpOp_step (o := { dst := some 35, op := Op.move (Operand.tmp 34), type := 4, pos := "law.go:121", after := #[{ on := 17, ground := Ground.data }, { on := 15, ground := Ground.chain }], guard := none }) rfl (fun K hK => ?_)
    go_simp
    exact hK _ _ ⟨v4x0, v4x1, v4x2, v4x3, v4x4, v4x5, v4x6, v4x7, v4x8, v4x9, v4x10, v4x11, v4x12, v4x13, v4x14, v4x15, v4x16, _, .bool false, v4x19, v4x20, v4x21, v4x22, v4x23, v4x24, v4x25, v4x26, v4x27, v4x28, rfl, HT.out.plain (Ph4_mono a b c ad w w2) (Below.refl _ _) 18 (by decide) HL.out _ rfl (by simp) (by simp) (by decide)⟩
  · have d18 := hi3 _ rfl { on := 18, ground := Ground.guard } (by simp) rfl
    have e18 : v4x18 = .bool false := HT.out.h 18 (by decide) d18 (fun hm => absurd hm (by decide))
    subst e18
    have HL := hide hi4
    clear hi hi1 hi2 hi3 hi4 d18
    refine wpOp_step (o := { dst := some 36, op := Op.fieldAddr 28 (Operand.tmp 1) 1, type := 0, pos := "law.go:121", after := #[{ on := 18, ground := Ground.guard }], guard := some (18, false) }) rfl (fun K hK => ?_)
    go_simp
    exact hK _ _ ⟨v4x0, v4x1, v4x2, v4x3, v4x4, v4x5, v4x6, v4x7, v4x8, v4x9, v4x10, v4x11, v4x12, v4x13, v4x14, v4x15, v4x16, v4x17, _, .pointer (some ⟨w.heap.size, 2, none⟩), v4x20, v4x21, v4x22, v4x23, v4x24, v4x25, v4x26, v4x27, v4x28, rfl, HT.out.plain (Ph4_mono a b c ad w w2) (Below.refl _ _) 19 (by decide) HL.out _ rfl (by simp) (by simp) (by decide)⟩
  · have d19 := hi3 _ rfl { on := 19, ground := Ground.data } (by simp) rfl
    have d18 := hi3 _ rfl { on := 18, ground := Ground.guard } (by simp) rfl
    have e19 : v4x19 = .pointer (some ⟨w.heap.size, 2, none⟩) := HT.out.h 19 (by decide) d19 (fun hm => absurd hm (by decide))
    subst e19
    have e18 : v4x18 = .bool false := HT.out.h 18 (by decide) d18 (fun hm => absurd hm (by decide))
    subst e18
    have HL := hide hi4
    clear hi hi1 hi2 hi3 hi4 d19 d18
    have l1 := run_ldP (HP1.out.on HT.out.b)
    refine wpOp_step (o := { dst := some 37, op := Op.load 25 (Operand.tmp 36), type := 25, pos := "law.go:121", after := #[{ on := 19, ground := Ground.data }, { on := 18, ground := Ground.guard }], guard := some (18, false) }) rfl (fun K hK => ?_)
    go_simp
    exact hK _ _ ⟨v4x0, v4x1, v4x2, v4x3, v4x4, v4x5, v4x6, v4x7, v4x8, v4x9, v4x10, v4x11, v4x12, v4x13, v4x14, v4x15, v4x16, v4x17, _, _, PV b, v4x21, v4x22, v4x23, v4x24, v4x25, v4x26, v4x27, v4x28, rfl, HT.out.plain (Ph4_mono a b c ad w w2) (Below.refl _ _) 20 (by decide) HL.out _ rfl (by simp) (by simp) (by decide)⟩
  · have d20 := hi3 _ rfl { on := 20, ground := Ground.data } (by simp) rfl
    have d18 := hi3 _ rfl { on := 18, ground := Ground.guard } (by simp) rfl
    have e20 : v4x20 = PV b := HT.out.h 20 (by decide) d20 (fun hm => absurd hm (by decide))
    subst e20
    have e18 : v4x18 = .bool false := HT.out.h 18 (by decide) d18 (fun hm => absurd hm (by decide))
    subst e18
    have HL := hide hi4
    clear hi hi1 hi2 hi3 hi4 d20 d18
    refine wpOp_step (o := { dst := some 38, op := Op.buildSlice 30 1 #[(0, Operand.tmp 37)], type := 30, pos := "law.go:121", after := #[{ on := 20, ground := Ground.data }, { on := 18, ground := Ground.guard }], guard := some (18, false) }) rfl (fun K hK => ?_)
    go_simp
    exact hK _ _ ⟨v4x0, v4x1, v4x2, v4x3, v4x4, v4x5, v4x6, v4x7, v4x8, v4x9, v4x10, v4x11, v4x12, v4x13, v4x14, v4x15, v4x16, v4x17, _, v4x19, _, .slice (some ⟨W.heap.size, 0, none⟩) 1 1, v4x22, v4x23, v4x24, v4x25, v4x26, v4x27, v4x28, rfl, HT.out.plain (Ph4_mono a b c ad w w2) (below_new _ _) 21 (by decide) HL.out _ ⟨_, rfl, prow_lone W b (HB.out.below HT.out.b)⟩ (by simp) (by simp) (by decide)⟩
  · have d21 := hi3 _ rfl { on := 21, ground := Ground.data } (by simp) rfl
    have d18 := hi3 _ rfl { on := 18, ground := Ground.chain } (by simp) rfl
    obtain ⟨g21, e21, R21⟩ : ∃ g, v4x21 = .slice (some ⟨g, 0, none⟩) 1 1 ∧ PRow W (some ⟨g, 0, none⟩) 1 [b] := HT.out.h 21 (by decide) d21 (fun hm => absurd hm (by decide))
    subst e21
    have HR21 := hide R21
    clear R21
    have e18 : v4x18 = .bool false := HT.out.h 18 (by decide) d18 (fun hm => absurd hm (by decide))
    subst e18
    have HL := hide hi4
    clear hi hi1 hi2 hi3 hi4 d21 d18
    refine wpOp_step (o := { dst := some 39, op := Op.call { callee := Callee.value (Operand.func 8), args := #[Operand.tmp 38], argTypes := #[30] }, type := 25, pos := "law.go:121", after := #[{ on := 21, ground := Ground.data }, { on := 18, ground := Ground.chain }, { on := 18, ground := Ground.guard }], guard := some (18, false) }) rfl (fun K hK => ?_)
    go_simp
    go_wp2_with fail
    refine (pastJoin_any _ 1 1 [b] _ HR21.out (by have h := HW.out; simp only [wt] at h ⊢; omega) (by omega)).mono ?_
    rintro e w' ⟨pp, rfl, pS, pN, pb, pq⟩
    exact hK _ _ ⟨v4x0, v4x1, v4x2, v4x3, v4x4, v4x5, v4x6, v4x7, v4x8, v4x9, v4x10, v4x11, v4x12, v4x13, v4x14, v4x15, v4x16, v4x17, _, v4x19, v4x20, _, PV pp, v4x23, v4x24, v4x25, v4x26, v4x27, v4x28, rfl, HT.out.call (Ph4_mono a b c ad w w2) pb 22 (IsP (mP b.P)) (by decide) HL.out (by simp) (by simp) pp pS pN (isP_join1 pq) (fun _ _ => trivial) (by simp) (by decide)⟩
  · have d18 := hi3 _ rfl { on := 18, ground := Ground.guard } (by simp) rfl
    have e18 : v4x18 = .bool false := HT.out.h 18 (by decide) d18 (fun hm => absurd hm (by decide))
    subst e18
    have HL := hide hi4
    clear hi hi1 hi2 hi3 hi4 d18
    refine wpOp_step (o := { dst := some 40, op := Op.fieldAddr 28 (Operand.tmp 1) 1, type := 0, pos := "law.go:121", after := #[{ on := 18, ground := Ground.guard }], guard := some (18, false) }) rfl (fun K hK => ?_)
    go_simp
    exact hK _ _ ⟨v4x0, v4x1, v4x2, v4x3, v4x4, v4x5, v4x6, v4x7, v4x8, v4x9, v4x10, v4x11, v4x12, v4x13, v4x14, v4x15, v4x16, v4x17, _, v4x19, v4x20, v4x21, v4x22, .pointer (some ⟨w.heap.size, 2, none⟩), v4x24, v4x25, v4x26, v4x27, v4x28, rfl, HT.out.plain (Ph4_mono a b c ad w w2) (Below.refl _ _) 23 (by decide) HL.out _ rfl (by simp) (by simp) (by decide)⟩
  · have d23 := hi3 _ rfl { on := 23, ground := Ground.data } (by simp) rfl
    have d18 := hi3 _ rfl { on := 18, ground := Ground.guard } (by simp) rfl
    have e23 : v4x23 = .pointer (some ⟨w.heap.size, 2, none⟩) := HT.out.h 23 (by decide) d23 (fun hm => absurd hm (by decide))
    subst e23
    have e18 : v4x18 = .bool false := HT.out.h 18 (by decide) d18 (fun hm => absurd hm (by decide))
    subst e18
    have HL := hide hi4
    clear hi hi1 hi2 hi3 hi4 d23 d18
    have l1 := run_ldP (HP1.out.on HT.out.b)
    refine wpOp_step (o := { dst := some 41, op := Op.load 25 (Operand.tmp 40), type := 25, pos := "law.go:121", after := #[{ on := 23, ground := Ground.data }, { on := 18, ground := Ground.guard }], guard := some (18, false) }) rfl (fun K hK => ?_)
    go_simp
    exact hK _ _ ⟨v4x0, v4x1, v4x2, v4x3, v4x4, v4x5, v4x6, v4x7, v4x8, v4x9, v4x10, v4x11, v4x12, v4x13, v4x14, v4x15, v4x16, v4x17, _, v4x19, v4x20, v4x21, v4x22, _, PV b, v4x25, v4x26, v4x27, v4x28, rfl, HT.out.plain (Ph4_mono a b c ad w w2) (Below.refl _ _) 24 (by decide) HL.out _ rfl (by simp) (by simp) (by decide)⟩
  · have d24 := hi3 _ rfl { on := 24, ground := Ground.data } (by simp) rfl
    have d18 := hi3 _ rfl { on := 18, ground := Ground.guard } (by simp) rfl
    have e24 : v4x24 = PV b := HT.out.h 24 (by decide) d24 (fun hm => absurd hm (by decide))
    subst e24
    have e18 : v4x18 = .bool false := HT.out.h 18 (by decide) d18 (fun hm => absurd hm (by decide))
    subst e18
    have HL := hide hi4
    clear hi hi1 hi2 hi3 hi4 d24 d18
    refine wpOp_step (o := { dst := some 42, op := Op.call { callee := Callee.value (Operand.func 10), args := #[Operand.tmp 41], argTypes := #[25] }, type := 25, pos := "law.go:121", after := #[{ on := 24, ground := Ground.data }, { on := 22, ground := Ground.chain }, { on := 18, ground := Ground.guard }], guard := some (18, false) }) rfl (fun K hK => ?_)
    go_simp
    go_wp2_with fail
    refine (refNorm_any b _ (HB.out.below HT.out.b)).mono ?_
    rintro e w' ⟨pp, rfl, pS, pN, pb, pq⟩
    exact hK _ _ ⟨v4x0, v4x1, v4x2, v4x3, v4x4, v4x5, v4x6, v4x7, v4x8, v4x9, v4x10, v4x11, v4x12, v4x13, v4x14, v4x15, v4x16, v4x17, _, v4x19, v4x20, v4x21, v4x22, v4x23, _, PV pp, v4x26, v4x27, v4x28, rfl, HT.out.call (Ph4_mono a b c ad w w2) pb 25 (IsP (mP b.P)) (by decide) HL.out (by simp) (by simp) pp pS pN (isP_norm pq) (fun _ _ => trivial) (by simp) (by decide)⟩
  · have d22 := hi3 _ rfl { on := 22, ground := Ground.data } (by simp) rfl
    have d25 := hi3 _ rfl { on := 25, ground := Ground.data } (by simp) rfl
    have d18 := hi3 _ rfl { on := 18, ground := Ground.guard } (by simp) rfl
    obtain ⟨p22, e22, S22, q22, -⟩ := HT.out.r (22, IsP (mP b.P)) (by simp) d22
    have f22 : v4x22 = PV p22 := e22
    subst f22
    have HS22 := hide S22
    have HQ22 : Hid (IsP (mP b.P) p22.P) := q22
    clear e22 S22 q22
    obtain ⟨p25, e25, S25, q25, -⟩ := HT.out.r (25, IsP (mP b.P)) (by simp) d25
    have f25 : v4x25 = PV p25 := e25
    subst f25
    have HS25 := hide S25
    have HQ25 : Hid (IsP (mP b.P) p25.P) := q25
    clear e25 S25 q25
    have e18 : v4x18 = .bool false := HT.out.h 18 (by decide) d18 (fun hm => absurd hm (by decide))
    subst e18
    have HL := hide hi4
    clear hi hi1 hi2 hi3 hi4 d22 d25 d18
    refine wpOp_step (o := { dst := some 43, op := Op.call { callee := Callee.value (Operand.func 7), args := #[Operand.tmp 39, Operand.tmp 42], argTypes := #[25, 25] }, type := 4, pos := "law.go:121", after := #[{ on := 22, ground := Ground.data }, { on := 25, ground := Ground.data }, { on := 25, ground := Ground.chain }, { on := 18, ground := Ground.guard }], guard := some (18, false) }) rfl (fun K hK => ?_)
    go_simp
    go_wp2_with fail
    refine (samePast_any p22 p25 _ HS22.out HS25.out).mono ?_
    rintro e w' ⟨bz, rfl, hx, pb⟩
    obtain rfl : bz = true := hx.2 (IsP.unique HQ22.out HQ25.out (fun _ _ _ => Iff.rfl))
    exact hK _ _ ⟨v4x0, v4x1, v4x2, v4x3, v4x4, v4x5, v4x6, v4x7, v4x8, v4x9, v4x10, v4x11, v4x12, v4x13, v4x14, v4x15, v4x16, v4x17, _, v4x19, v4x20, v4x21, _, v4x23, v4x24, _, .bool true, v4x27, v4x28, rfl, HT.out.plain (Ph4_mono a b c ad w w2) pb 26 (by decide) HL.out _ rfl (by simp) (by simp) (by decide)⟩
  · have d26 := hi3 _ rfl { on := 26, ground := Ground.data } (by simp) rfl
    have d18 := hi3 _ rfl { on := 18, ground := Ground.guard } (by simp) rfl
    have e26 : v4x26 = .bool true := HT.out.h 26 (by decide) d26 (fun hm => absurd hm (by decide))
    subst e26
    have e18 : v4x18 = .bool false := HT.out.h 18 (by decide) d18 (fun hm => absurd hm (by decide))
    subst e18
    have HL := hide hi4
    clear hi hi1 hi2 hi3 hi4 d26 d18
    refine wpOp_step (o := { dst := some 44, op := Op.unOp UnOp.not 4 (Operand.tmp 43), type := 4, pos := "law.go:121", after := #[{ on := 26, ground := Ground.data }, { on := 18, ground := Ground.guard }], guard := some (18, false) }) rfl (fun K hK => ?_)
    go_simp
    exact hK _ _ ⟨v4x0, v4x1, v4x2, v4x3, v4x4, v4x5, v4x6, v4x7, v4x8, v4x9, v4x10, v4x11, v4x12, v4x13, v4x14, v4x15, v4x16, v4x17, _, v4x19, v4x20, v4x21, v4x22, v4x23, v4x24, v4x25, _, .bool false, v4x28, rfl, HT.out.plain (Ph4_mono a b c ad w w2) (Below.refl _ _) 27 (by decide) HL.out _ rfl (by simp) (by simp) (by decide)⟩
  · have d18 := hi3 _ rfl { on := 18, ground := Ground.data } (by simp) rfl
    have d27 := hi3 _ rfl { on := 27, ground := Ground.data } (by simp) rfl
    have e18 : v4x18 = .bool false := HT.out.h 18 (by decide) d18 (fun hm => absurd hm (by decide))
    subst e18
    have e27 : v4x27 = .bool false := HT.out.h 27 (by decide) d27 (fun hm => absurd hm (by decide))
    subst e27
    have HL := hide hi4
    clear hi hi1 hi2 hi3 hi4 d18 d27
    refine wpOp_step (o := { dst := some 45, op := Op.pick (Operand.tmp 35) (Operand.const (Value.bool true)) (Operand.tmp 44), type := 4, pos := "law.go:121", after := #[{ on := 18, ground := Ground.data }, { on := 27, ground := Ground.data }], guard := none }) rfl (fun K hK => ?_)
    go_simp
    exact hK _ _ ⟨v4x0, v4x1, v4x2, v4x3, v4x4, v4x5, v4x6, v4x7, v4x8, v4x9, v4x10, v4x11, v4x12, v4x13, v4x14, v4x15, v4x16, v4x17, _, v4x19, v4x20, v4x21, v4x22, v4x23, v4x24, v4x25, v4x26, _, .bool false, rfl, HT.out.plain (Ph4_mono a b c ad w w2) (Below.refl _ _) 28 (by decide) HL.out _ rfl (by simp) (by simp) (by decide)⟩
end Go.Proofs.Ytiogmeaianogmaa
/- PastSets: the steps of a region that draws its order. -/
namespace Go.Proofs.Ytiogmeaianogmaa
open Go.RowKit
attribute [local go_sem ↓] ldP_eq stP_eq
attribute [local go_sem] zero_PC cells_PV fold_PC PC_size fold_PC1 fold_PC2 fold_PC3
def Ph12 (px py : Pv) (ad : Addr) (k1 k2 : Nat) (_ : World) (_ : World) : Nat → Value → World → Prop
  | 0, x, _ => x = .slice (some ad) 3 3
  | 1, x, _ => x = .int .i64 k1
  | 2, x, _ => x = .pointer (some (ad.add (k1 * 2)))
  | 3, x, _ => x = PV px
  | 4, x, _ => x = .slice (some ad) 3 3
  | 5, x, _ => x = .int .i64 k2
  | 6, x, _ => x = .pointer (some (ad.add (k2 * 2)))
  | 7, x, _ => x = PV py
  | _, _, _ => True
theorem Ph12_mono (px py : Pv) (ad : Addr) (k1 k2 : Nat) (w : World) (W0 : World) : Mono (Ph12 px py ad k1 k2 w W0) := fun i _ _ _ h _ => match i with
  | 0 => h
  | 1 => h
  | 2 => h
  | 3 => h
  | 4 => h
  | 5 => h
  | 6 => h
  | 7 => h
  | 8 => trivial
  | 9 => trivial
  | 10 => trivial
  | 11 => trivial
  | _ + 12 => trivial
theorem Ph12_inv (px py : Pv) (ad : Addr) (k1 k2 : Nat) (w : World) (W0 : World) : ∀ j x U U', j ∉ [] → Ph12 px py ad k1 k2 w W0 j x U → Ph12 px py ad k1 k2 w W0 j x U' := fun j _ _ _ _ h => match j with
  | 0 => h
  | 1 => h
  | 2 => h
  | 3 => h
  | 4 => h
  | 5 => h
  | 6 => h
  | 7 => h
  | 8 => trivial
  | 9 => trivial
  | 10 => trivial
  | 11 => trivial
  | _ + 12 => trivial
set_option maxRecDepth 100000 in
set_option maxHeartbeats 4000000 in
theorem st12 {a b c px py : Pv} {dv : Value} {rp ms : Int} {w wr : World} {ad : Addr} {k1 k2 : Nat} {u100 u101 u102 u103 u104 u105 u106 u107 u108 u109 u110 u111 u112 u113 u114 u115 u116 u2 u47 u48 u49 u51 u52 u53 u62 u63 u64 u65 u66 u67 u68 u69 u70 u71 u72 u73 u74 u75 u76 u77 u78 u79 u80 u81 u82 u83 u84 u85 u86 u87 u88 u89 u90 u91 u92 u93 u94 u95 u96 u97 u98 u99 v4x21 v4x6 : Value} {p4_13 p4_22 p4_25 p4_7 p4_9 : Pv} (HAx : Hid (PAt wr (ad.add (k1 * 2)) px)) (HAy : Hid (PAt wr (ad.add (k2 * 2)) py)) (HKK : Hid (k1 < 3 ∧ k2 < 3)) {Q : Exit → Act → World → Prop} :
    ∀ (l : Array Bool) (x : Act) (W : World), (∃ v12x0 v12x1 v12x2 v12x3 v12x4 v12x5 v12x6 v12x7 v12x8 v12x9, x = { tmps := #[CaseV a b c dv rp ms, ptr w.heap.size, u2, .slice (some ad) 3 3, .int .i64 k1, .int .i64 k2, v12x8, v12x9, .bool true, .bool false, .pointer (some ⟨w.heap.size, 0, none⟩), PV a, .pointer (some ⟨w.heap.size, 2, none⟩), PV b, .pointer (some ⟨w.heap.size, 4, none⟩), PV c, .slice (some ad) 3 3, .pointer (some ⟨w.heap.size, 0, none⟩), PV a, .pointer (some ⟨w.heap.size, 2, none⟩), PV b, .pointer (some ⟨w.heap.size, 4, none⟩), PV c, v4x6, PV p4_7, .slice (some ad) 3 3, PV p4_9, .bool true, .bool false, .bool false, PV p4_13, PV pv0, .bool true, .bool false, .bool false, .bool false, .pointer (some ⟨w.heap.size, 2, none⟩), PV b, v4x21, PV p4_22, .pointer (some ⟨w.heap.size, 2, none⟩), PV b, PV p4_25, .bool true, .bool false, .bool false, .int .i64 k1, u47, u48, u49, .int .i64 k2, u51, u52, u53, v12x0, v12x1, v12x2, v12x3, v12x4, v12x5, v12x6, v12x7, u62, u63, u64, u65, u66, u67, u68, u69, u70, u71, u72, u73, u74, u75, u76, u77, u78, u79, u80, u81, u82, u83, u84, u85, u86, u87, u88, u89, u90, u91, u92, u93, u94, u95, u96, u97, u98, u99, u100, u101, u102, u103, u104, u105, u106, u107, u108, u109, u110, u111, u112, u113, u114, u115, u116], defers := [] } ∧ BI 12 10 wr (Ph12 px py ad k1 k2 w wr) [] [] [(8, 10, 3), (9, 11, 7)] l W [v12x0, v12x1, v12x2, v12x3, v12x4, v12x5, v12x6, v12x7, v12x8, v12x9, undef, undef]) → ∀ i, i ∈ Region.ready .any #[{ dst := some 54, op := Op.move (Operand.tmp 3), type := 30, pos := "law.go:126", after := #[], guard := none }, { dst := some 55, op := Op.move (Operand.tmp 4), type := 3, pos := "law.go:126", after := #[], guard := none }, { dst := some 56, op := Op.indexAddr 30 (Operand.tmp 54) (Operand.tmp 55), type := 0, pos := "law.go:126", after := #[{ on := 0, ground := Ground.data }, { on := 1, ground := Ground.data }], guard := none }, { dst := some 57, op := Op.load 25 (Operand.tmp 56), type := 25, pos := "law.go:126", after := #[{ on := 2, ground := Ground.data }], guard := none }, { dst := some 58, op := Op.move (Operand.tmp 3), type := 30, pos := "law.go:126", after := #[{ on := 10, ground := Ground.gcOnly Departure.lateStores }], guard := none }, { dst := some 59, op := Op.move (Operand.tmp 5), type := 3, pos := "law.go:126", after := #[{ on := 10, ground := Ground.gcOnly Departure.lateStores }], guard := none }, { dst := some 60, op := Op.indexAddr 30 (Operand.tmp 58) (Operand.tmp 59), type := 0, pos := "law.go:126", after := #[{ on := 4, ground := Ground.data }, { on := 5, ground := Ground.data }, { on := 10, ground := Ground.gcOnly Departure.lateStores }], guard := none }, { dst := some 61, op := Op.load 25 (Operand.tmp 60), type := 25, pos := "law.go:126", after := #[{ on := 6, ground := Ground.data }, { on := 10, ground := Ground.gcOnly Departure.lateStores }], guard := none }, { dst := some 6, op := Op.alloc 25, type := 0, pos := "law.go:126", after := #[], guard := none }, { dst := some 7, op := Op.alloc 25, type := 0, pos := "law.go:126", after := #[], guard := none }, { dst := none, op := Op.store 25 (Operand.tmp 6) (Operand.tmp 57), type := 0, pos := "law.go:126", after := #[{ on := 8, ground := Ground.data }, { on := 3, ground := Ground.data }, { on := 0, ground := Ground.phase }, { on := 1, ground := Ground.phase }, { on := 2, ground := Ground.phase }, { on := 3, ground := Ground.phase }, { on := 4, ground := Ground.textOnly Departure.lateStores }, { on := 5, ground := Ground.textOnly Departure.lateStores }, { on := 6, ground := Ground.textOnly Departure.lateStores }, { on := 7, ground := Ground.textOnly Departure.lateStores }, { on := 8, ground := Ground.phase }, { on := 9, ground := Ground.phase }], guard := none }, { dst := none, op := Op.store 25 (Operand.tmp 7) (Operand.tmp 61), type := 0, pos := "law.go:126", after := #[{ on := 9, ground := Ground.data }, { on := 7, ground := Ground.data }, { on := 10, ground := Ground.chain }, { on := 0, ground := Ground.phase }, { on := 1, ground := Ground.phase }, { on := 2, ground := Ground.phase }, { on := 3, ground := Ground.phase }, { on := 4, ground := Ground.phase }, { on := 5, ground := Ground.phase }, { on := 6, ground := Ground.phase }, { on := 7, ground := Ground.phase }, { on := 8, ground := Ground.phase }, { on := 9, ground := Ground.phase }, { on := 10, ground := Ground.phase }], guard := none }] l → wpOp Try.prog #[{ dst := some 54, op := Op.move (Operand.tmp 3), type := 30, pos := "law.go:126", after := #[], guard := none }, { dst := some 55, op := Op.move (Operand.tmp 4), type := 3, pos := "law.go:126", after := #[], guard := none }, { dst := some 56, op := Op.indexAddr 30 (Operand.tmp 54) (Operand.tmp 55), type := 0, pos := "law.go:126", after := #[{ on := 0, ground := Ground.data }, { on := 1, ground := Ground.data }], guard := none }, { dst := some 57, op := Op.load 25 (Operand.tmp 56), type := 25, pos := "law.go:126", after := #[{ on := 2, ground := Ground.data }], guard := none }, { dst := some 58, op := Op.move (Operand.tmp 3), type := 30, pos := "law.go:126", after := #[{ on := 10, ground := Ground.gcOnly Departure.lateStores }], guard := none }, { dst := some 59, op := Op.move (Operand.tmp 5), type := 3, pos := "law.go:126", after := #[{ on := 10, ground := Ground.gcOnly Departure.lateStores }], guard := none }, { dst := some 60, op := Op.indexAddr 30 (Operand.tmp 58) (Operand.tmp 59), type := 0, pos := "law.go:126", after := #[{ on := 4, ground := Ground.data }, { on := 5, ground := Ground.data }, { on := 10, ground := Ground.gcOnly Departure.lateStores }], guard := none }, { dst := some 61, op := Op.load 25 (Operand.tmp 60), type := 25, pos := "law.go:126", after := #[{ on := 6, ground := Ground.data }, { on := 10, ground := Ground.gcOnly Departure.lateStores }], guard := none }, { dst := some 6, op := Op.alloc 25, type := 0, pos := "law.go:126", after := #[], guard := none }, { dst := some 7, op := Op.alloc 25, type := 0, pos := "law.go:126", after := #[], guard := none }, { dst := none, op := Op.store 25 (Operand.tmp 6) (Operand.tmp 57), type := 0, pos := "law.go:126", after := #[{ on := 8, ground := Ground.data }, { on := 3, ground := Ground.data }, { on := 0, ground := Ground.phase }, { on := 1, ground := Ground.phase }, { on := 2, ground := Ground.phase }, { on := 3, ground := Ground.phase }, { on := 4, ground := Ground.textOnly Departure.lateStores }, { on := 5, ground := Ground.textOnly Departure.lateStores }, { on := 6, ground := Ground.textOnly Departure.lateStores }, { on := 7, ground := Ground.textOnly Departure.lateStores }, { on := 8, ground := Ground.phase }, { on := 9, ground := Ground.phase }], guard := none }, { dst := none, op := Op.store 25 (Operand.tmp 7) (Operand.tmp 61), type := 0, pos := "law.go:126", after := #[{ on := 9, ground := Ground.data }, { on := 7, ground := Ground.data }, { on := 10, ground := Ground.chain }, { on := 0, ground := Ground.phase }, { on := 1, ground := Ground.phase }, { on := 2, ground := Ground.phase }, { on := 3, ground := Ground.phase }, { on := 4, ground := Ground.phase }, { on := 5, ground := Ground.phase }, { on := 6, ground := Ground.phase }, { on := 7, ground := Ground.phase }, { on := 8, ground := Ground.phase }, { on := 9, ground := Ground.phase }, { on := 10, ground := Ground.phase }], guard := none }] Q i (fun a' w' => ∃ v12x0 v12x1 v12x2 v12x3 v12x4 v12x5 v12x6 v12x7 v12x8 v12x9, a' = { tmps := #[CaseV a b c dv rp ms, ptr w.heap.size, u2, .slice (some ad) 3 3, .int .i64 k1, .int .i64 k2, v12x8, v12x9, .bool true, .bool false, .pointer (some ⟨w.heap.size, 0, none⟩), PV a, .pointer (some ⟨w.heap.size, 2, none⟩), PV b, .pointer (some ⟨w.heap.size, 4, none⟩), PV c, .slice (some ad) 3 3, .pointer (some ⟨w.heap.size, 0, none⟩), PV a, .pointer (some ⟨w.heap.size, 2, none⟩), PV b, .pointer (some ⟨w.heap.size, 4, none⟩), PV c, v4x6, PV p4_7, .slice (some ad) 3 3, PV p4_9, .bool true, .bool false, .bool false, PV p4_13, PV pv0, .bool true, .bool false, .bool false, .bool false, .pointer (some ⟨w.heap.size, 2, none⟩), PV b, v4x21, PV p4_22, .pointer (some ⟨w.heap.size, 2, none⟩), PV b, PV p4_25, .bool true, .bool false, .bool false, .int .i64 k1, u47, u48, u49, .int .i64 k2, u51, u52, u53, v12x0, v12x1, v12x2, v12x3, v12x4, v12x5, v12x6, v12x7, u62, u63, u64, u65, u66, u67, u68, u69, u70, u71, u72, u73, u74, u75, u76, u77, u78, u79, u80, u81, u82, u83, u84, u85, u86, u87, u88, u89, u90, u91, u92, u93, u94, u95, u96, u97, u98, u99, u100, u101, u102, u103, u104, u105, u106, u107, u108, u109, u110, u111, u112, u113, u114, u115, u116], defers := [] } ∧ BI 12 10 wr (Ph12 px py ad k1 k2 w wr) [] [] [(8, 10, 3), (9, 11, 7)] (l.setIfInBounds i true) w' [v12x0, v12x1, v12x2, v12x3, v12x4, v12x5, v12x6, v12x7, v12x8, v12x9, undef, undef]) x W := by
  rintro l x W ⟨v12x0, v12x1, v12x2, v12x3, v12x4, v12x5, v12x6, v12x7, v12x8, v12x9, rfl, T⟩ i hi
  obtain ⟨hi1, hi2, hi3⟩ := ready_mem hi
  have hi4 := no_true hi2
  have hc : i = 0 ∨ i = 1 ∨ i = 2 ∨ i = 3 ∨ i = 4 ∨ i = 5 ∨ i = 6 ∨ i = 7 ∨ i = 8 ∨ i = 9 ∨ i = 10 ∨ i = 11 := by have h : i < 12 := hi1; omega
  have HT := hide T
  clear T
  rcases hc with rfl | rfl | rfl | rfl | rfl | rfl | rfl | rfl | rfl | rfl | rfl | rfl
  · have HL := hide hi4
    clear hi hi1 hi2 hi3 hi4
    refine wpOp_step (o := { dst := some 54, op := Op.move (Operand.tmp 3), type := 30, pos := "law.go:126", after := #[], guard := none }) rfl (fun K hK => ?_)
    go_simp
    exact hK _ _ ⟨.slice (some ad) 3 3, v12x1, v12x2, v12x3, v12x4, v12x5, v12x6, v12x7, v12x8, v12x9, rfl, HT.out.plain (Ph12_mono px py ad k1 k2 w wr) (Below.refl _ _) 0 (by decide) HL.out _ rfl (by simp) (by simp) (by decide)⟩
  · have HL := hide hi4
    clear hi hi1 hi2 hi3 hi4
    refine wpOp_step (o := { dst := some 55, op := Op.move (Operand.tmp 4), type := 3, pos := "law.go:126", after := #[], guard := none }) rfl (fun K hK => ?_)
    go_simp
    exact hK _ _ ⟨v12x0, .int .i64 k1, v12x2, v12x3, v12x4, v12x5, v12x6, v12x7, v12x8, v12x9, rfl, HT.out.plain (Ph12_mono px py ad k1 k2 w wr) (Below.refl _ _) 1 (by decide) HL.out _ rfl (by simp) (by simp) (by decide)⟩
  · have d0 := hi3 _ rfl { on := 0, ground := Ground.data } (by simp) rfl
    have d1 := hi3 _ rfl { on := 1, ground := Ground.data } (by simp) rfl
    have e0 : v12x0 = .slice (some ad) 3 3 := HT.out.h 0 (by decide) d0 (fun hm => absurd hm (by decide))
    subst e0
    have e1 : v12x1 = .int .i64 k1 := HT.out.h 1 (by decide) d1 (fun hm => absurd hm (by decide))
    subst e1
    have HL := hide hi4
    clear hi hi1 hi2 hi3 hi4 d0 d1
    have hk1 : (k1 : Int) < 3 := by have := HKK.out.1; omega
    have hk2 : (k2 : Int) < 3 := by have := HKK.out.2; omega
    refine wpOp_step (o := { dst := some 56, op := Op.indexAddr 30 (Operand.tmp 54) (Operand.tmp 55), type := 0, pos := "law.go:126", after := #[{ on := 0, ground := Ground.data }, { on := 1, ground := Ground.data }], guard := none }) rfl (fun K hK => ?_)
    go_simp
    exact hK _ _ ⟨_, _, .pointer (some (ad.add (k1 * 2))), v12x3, v12x4, v12x5, v12x6, v12x7, v12x8, v12x9, rfl, HT.out.plain (Ph12_mono px py ad k1 k2 w wr) (Below.refl _ _) 2 (by decide) HL.out _ rfl (by simp) (by simp) (by decide)⟩
  · have d2 := hi3 _ rfl { on := 2, ground := Ground.data } (by simp) rfl
    have e2 : v12x2 = .pointer (some (ad.add (k1 * 2))) := HT.out.h 2 (by decide) d2 (fun hm => absurd hm (by decide))
    subst e2
    have HL := hide hi4
    clear hi hi1 hi2 hi3 hi4 d2
    have l1 := run_ldP (HAx.out.on HT.out.b)
    refine wpOp_step (o := { dst := some 57, op := Op.load 25 (Operand.tmp 56), type := 25, pos := "law.go:126", after := #[{ on := 2, ground := Ground.data }], guard := none }) rfl (fun K hK => ?_)
    go_simp
    exact hK _ _ ⟨v12x0, v12x1, _, PV px, v12x4, v12x5, v12x6, v12x7, v12x8, v12x9, rfl, HT.out.plain (Ph12_mono px py ad k1 k2 w wr) (Below.refl _ _) 3 (by decide) HL.out _ rfl (by simp) (by simp) (by decide)⟩
  · have HL := hide hi4
    clear hi hi1 hi2 hi3 hi4
    refine wpOp_step (o := { dst := some 58, op := Op.move (Operand.tmp 3), type := 30, pos := "law.go:126", after := #[{ on := 10, ground := Ground.gcOnly Departure.lateStores }], guard := none }) rfl (fun K hK => ?_)
    go_simp
    exact hK _ _ ⟨v12x0, v12x1, v12x2, v12x3, .slice (some ad) 3 3, v12x5, v12x6, v12x7, v12x8, v12x9, rfl, HT.out.plain (Ph12_mono px py ad k1 k2 w wr) (Below.refl _ _) 4 (by decide) HL.out _ rfl (by simp) (by simp) (by decide)⟩
  · have HL := hide hi4
    clear hi hi1 hi2 hi3 hi4
    refine wpOp_step (o := { dst := some 59, op := Op.move (Operand.tmp 5), type := 3, pos := "law.go:126", after := #[{ on := 10, ground := Ground.gcOnly Departure.lateStores }], guard := none }) rfl (fun K hK => ?_)
    go_simp
    exact hK _ _ ⟨v12x0, v12x1, v12x2, v12x3, v12x4, .int .i64 k2, v12x6, v12x7, v12x8, v12x9, rfl, HT.out.plain (Ph12_mono px py ad k1 k2 w wr) (Below.refl _ _) 5 (by decide) HL.out _ rfl (by simp) (by simp) (by decide)⟩
  · have d4 := hi3 _ rfl { on := 4, ground := Ground.data } (by simp) rfl
    have d5 := hi3 _ rfl { on := 5, ground := Ground.data } (by simp) rfl
    have e4 : v12x4 = .slice (some ad) 3 3 := HT.out.h 4 (by decide) d4 (fun hm => absurd hm (by decide))
    subst e4
    have e5 : v12x5 = .int .i64 k2 := HT.out.h 5 (by decide) d5 (fun hm => absurd hm (by decide))
    subst e5
    have HL := hide hi4
    clear hi hi1 hi2 hi3 hi4 d4 d5
    have hk1 : (k1 : Int) < 3 := by have := HKK.out.1; omega
    have hk2 : (k2 : Int) < 3 := by have := HKK.out.2; omega
    refine wpOp_step (o := { dst := some 60, op := Op.indexAddr 30 (Operand.tmp 58) (Operand.tmp 59), type := 0, pos := "law.go:126", after := #[{ on := 4, ground := Ground.data }, { on := 5, ground := Ground.data }, { on := 10, ground := Ground.gcOnly Departure.lateStores }], guard := none }) rfl (fun K hK => ?_)
    go_simp
    exact hK _ _ ⟨v12x0, v12x1, v12x2, v12x3, _, _, .pointer (some (ad.add (k2 * 2))), v12x7, v12x8, v12x9, rfl, HT.out.plain (Ph12_mono px py ad k1 k2 w wr) (Below.refl _ _) 6 (by decide) HL.out _ rfl (by simp) (by simp) (by decide)⟩
  · have d6 := hi3 _ rfl { on := 6, ground := Ground.data } (by simp) rfl
    have e6 : v12x6 = .pointer (some (ad.add (k2 * 2))) := HT.out.h 6 (by decide) d6 (fun hm => absurd hm (by decide))
    subst e6
    have HL := hide hi4
    clear hi hi1 hi2 hi3 hi4 d6
    have l1 := run_ldP (HAy.out.on HT.out.b)
    refine wpOp_step (o := { dst := some 61, op := Op.load 25 (Operand.tmp 60), type := 25, pos := "law.go:126", after := #[{ on := 6, ground := Ground.data }, { on := 10, ground := Ground.gcOnly Departure.lateStores }], guard := none }) rfl (fun K hK => ?_)
    go_simp
    exact hK _ _ ⟨v12x0, v12x1, v12x2, v12x3, v12x4, v12x5, _, PV py, v12x8, v12x9, rfl, HT.out.plain (Ph12_mono px py ad k1 k2 w wr) (Below.refl _ _) 7 (by decide) HL.out _ rfl (by simp) (by simp) (by decide)⟩
  · have HL := hide hi4
    clear hi hi1 hi2 hi3 hi4
    refine wpOp_step (o := { dst := some 6, op := Op.alloc 25, type := 0, pos := "law.go:126", after := #[], guard := none }) rfl (fun K hK => ?_)
    go_simp
    exact hK _ _ ⟨v12x0, v12x1, v12x2, v12x3, v12x4, v12x5, v12x6, v12x7, ptr W.heap.size, v12x9, rfl, HT.out.make (Ph12_mono px py ad k1 k2 w wr) 8 10 3 (by decide) HL.out (by simp) (by simp) (by simp) (by simp) (fun _ _ => trivial) (by decide)⟩
  · have HL := hide hi4
    clear hi hi1 hi2 hi3 hi4
    refine wpOp_step (o := { dst := some 7, op := Op.alloc 25, type := 0, pos := "law.go:126", after := #[], guard := none }) rfl (fun K hK => ?_)
    go_simp
    exact hK _ _ ⟨v12x0, v12x1, v12x2, v12x3, v12x4, v12x5, v12x6, v12x7, v12x8, ptr W.heap.size, rfl, HT.out.make (Ph12_mono px py ad k1 k2 w wr) 9 11 7 (by decide) HL.out (by simp) (by simp) (by simp) (by simp) (fun _ _ => trivial) (by decide)⟩
  · have da := hi3 _ rfl { on := 8, ground := Ground.data } (by simp) rfl
    have dc := hi3 _ rfl { on := 3, ground := Ground.data } (by simp) rfl
    have ec : v12x3 = PV px := HT.out.h 3 (by decide) dc (fun hm => absurd hm (by decide))
    obtain ⟨g, eg, PB, T2⟩ := HT.out.fill 8 10 3 px (by decide) hi4 (by simp) (by simp) (by simp) da dc (Or.inl rfl) ec (by simp) (by simp) (Ph12_inv px py ad k1 k2 w wr) (fun _ _ => trivial) undef
    have fg : v12x8 = ptr g := eg
    have fc : v12x3 = PV px := ec
    subst fg fc
    have s1 := run_stP (p' := px) PB
    have HT2 := hide T2
    clear T2 PB eg ec da dc HT hi hi1 hi2 hi3 hi4
    refine wpOp_step (o := { dst := none, op := Op.store 25 (Operand.tmp 6) (Operand.tmp 57), type := 0, pos := "law.go:126", after := #[{ on := 8, ground := Ground.data }, { on := 3, ground := Ground.data }, { on := 0, ground := Ground.phase }, { on := 1, ground := Ground.phase }, { on := 2, ground := Ground.phase }, { on := 3, ground := Ground.phase }, { on := 4, ground := Ground.textOnly Departure.lateStores }, { on := 5, ground := Ground.textOnly Departure.lateStores }, { on := 6, ground := Ground.textOnly Departure.lateStores }, { on := 7, ground := Ground.textOnly Departure.lateStores }, { on := 8, ground := Ground.phase }, { on := 9, ground := Ground.phase }], guard := none }) rfl (fun K hK => ?_)
    go_simp
    exact hK _ _ ⟨v12x0, v12x1, v12x2, _, v12x4, v12x5, v12x6, v12x7, _, v12x9, rfl, HT2.out⟩
  · have da := hi3 _ rfl { on := 9, ground := Ground.data } (by simp) rfl
    have dc := hi3 _ rfl { on := 7, ground := Ground.data } (by simp) rfl
    have dt := hi3 _ rfl { on := 10, ground := Ground.chain } (by simp) rfl
    have ec : v12x7 = PV py := HT.out.h 7 (by decide) dc (fun hm => absurd hm (by decide))
    obtain ⟨g, eg, PB, T2⟩ := HT.out.fill 9 11 7 py (by decide) hi4 (by simp) (by simp) (by simp) da dc (Or.inr dt) ec (by simp) (by simp) (Ph12_inv px py ad k1 k2 w wr) (fun _ _ => trivial) undef
    have fg : v12x9 = ptr g := eg
    have fc : v12x7 = PV py := ec
    subst fg fc
    have s1 := run_stP (p' := py) PB
    have HT2 := hide T2
    clear T2 PB eg ec da dc dt HT hi hi1 hi2 hi3 hi4
    refine wpOp_step (o := { dst := none, op := Op.store 25 (Operand.tmp 7) (Operand.tmp 61), type := 0, pos := "law.go:126", after := #[{ on := 9, ground := Ground.data }, { on := 7, ground := Ground.data }, { on := 10, ground := Ground.chain }, { on := 0, ground := Ground.phase }, { on := 1, ground := Ground.phase }, { on := 2, ground := Ground.phase }, { on := 3, ground := Ground.phase }, { on := 4, ground := Ground.phase }, { on := 5, ground := Ground.phase }, { on := 6, ground := Ground.phase }, { on := 7, ground := Ground.phase }, { on := 8, ground := Ground.phase }, { on := 9, ground := Ground.phase }, { on := 10, ground := Ground.phase }], guard := none }) rfl (fun K hK => ?_)
    go_simp
    exact hK _ _ ⟨v12x0, v12x1, v12x2, v12x3, v12x4, v12x5, v12x6, _, v12x8, _, rfl, HT2.out⟩
end Go.Proofs.Ytiogmeaianogmaa
