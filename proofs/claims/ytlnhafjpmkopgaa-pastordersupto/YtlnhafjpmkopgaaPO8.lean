/- PastOrders: the steps of a region that draws its order. -/
import Derived.Test.YtlnhafjpmkopgaaPOh
namespace Go.Proofs.Ytlnhafjpmkopgaa
open Go.RowKit
attribute [local go_sem ↓] ldP_eq stP_eq
attribute [local go_sem] zero_PC cells_PV fold_PC PC_size fold_PC1 fold_PC2 fold_PC3 cells_CasV build_PC1
def PhO8 (a b _ : Pv) (w : World) (ab _ _ : Int) (e0 : Bool) (_ : World) : Nat → Value → World → Prop
  | 0, x, _ => x = .int .i64 ab
  | 1, x, _ => x = .bool e0
  | 2, x, _ => x = .pointer (some ⟨w.heap.size, 0, none⟩)
  | 3, x, _ => x = PV a
  | 5, x, _ => x = .pointer (some ⟨w.heap.size, 2, none⟩)
  | 6, x, _ => x = PV b
  | 8, x, _ => x = .bool e0
  | 9, x, _ => x = .bool false
  | 10, x, _ => x = .bool false
  | 11, x, _ => x = .pointer (some ⟨w.heap.size, 0, none⟩)
  | 12, x, _ => x = PV a
  | 14, x, _ => x = .pointer (some ⟨w.heap.size, 2, none⟩)
  | 15, x, _ => x = PV b
  | 16, x, _ => x = .int .i64 ab
  | 17, x, _ => x = .int .i64 ab
  | 18, x, _ => x = .bool false
  | 19, x, _ => x = .bool false
  | 20, x, _ => x = .bool false
  | 21, x, _ => x = .pointer (some ⟨w.heap.size, 0, none⟩)
  | 22, x, _ => x = PV a
  | 23, x, _ => x = .pointer (some ⟨w.heap.size, 2, none⟩)
  | 24, x, _ => x = PV b
  | 25, x, _ => x = .pointer (some ⟨w.heap.size, 2, none⟩)
  | 26, x, _ => x = PV b
  | 27, x, W => ∃ g, x = .slice (some ⟨g, 0, none⟩) 2 2 ∧ PRow W (some ⟨g, 0, none⟩) 2 [b, b]
  | 29, x, _ => x = .int .i64 ab
  | 30, x, _ => x = .int .i64 ab
  | 31, x, _ => x = .bool false
  | 32, x, _ => x = .bool false
  | _, _, _ => True
theorem PhO8_mono (a b c : Pv) (w : World) (ab bc ac : Int) (e0 : Bool) (W0 : World) : Mono (PhO8 a b c w ab bc ac e0 W0) := fun i x W W' h hb => match i with
  | 0 => h
  | 1 => h
  | 2 => h
  | 3 => h
  | 5 => h
  | 6 => h
  | 8 => h
  | 9 => h
  | 10 => h
  | 11 => h
  | 12 => h
  | 14 => h
  | 15 => h
  | 16 => h
  | 17 => h
  | 18 => h
  | 19 => h
  | 20 => h
  | 21 => h
  | 22 => h
  | 23 => h
  | 24 => h
  | 25 => h
  | 26 => h
  | 27 => by obtain ⟨g, e, R⟩ := h; exact ⟨g, e, R.below hb⟩
  | 29 => h
  | 30 => h
  | 31 => h
  | 32 => h
  | 4 => trivial
  | 7 => trivial
  | 13 => trivial
  | 28 => trivial
  | _ + 33 => trivial
set_option maxRecDepth 100000 in
set_option maxHeartbeats 4000000 in
theorem stO8 {a b c : Pv} {dv : Value} {rp ms ab bc ac : Int} {e0 : Bool} {w z2 : World} {u10 u11 u110 u111 u112 u113 u114 u115 u116 u117 u118 u119 u12 u120 u121 u122 u123 u13 u14 u15 u16 u17 u18 u19 u20 u21 u22 u23 u24 u25 u26 u27 u28 u29 u30 u31 u32 u33 u34 u35 u36 u37 u38 u39 u40 u41 u42 u43 u44 u45 u46 u47 u48 u49 u50 u51 u52 u53 u54 u55 u56 u57 u58 u59 u6 u60 u61 u62 u63 u64 u65 u66 u67 u68 u69 u7 u70 u71 u72 u73 u74 u75 u8 u9 : Value} (HCB : Hid (CBox z2 w.heap.size (CasC a b c dv rp ms))) (HA : Hid (PSrc z2 a)) (HB : Hid (PSrc z2 b)) (HBL : Hid (2 * b.P.cloud.length ≤ 8000000000000)) (Hab : Hid (CmpOf a.P b.P ab)) (HE0 : Hid ((ab == 0) = e0)) (HEV : Hid (e0 = true ↔ Eqv (mP a.P) (mP b.P))) {Q : Exit → Act → World → Prop} :
    ∀ (l : Array Bool) (x : Act) (W : World), (∃ v8x0 v8x1 v8x2 v8x3 v8x4 v8x5 v8x6 v8x7 v8x8 v8x9 v8x10 v8x11 v8x12 v8x13 v8x14 v8x15 v8x16 v8x17 v8x18 v8x19 v8x20 v8x21 v8x22 v8x23 v8x24 v8x25 v8x26 v8x27 v8x28 v8x29 v8x30 v8x31 v8x32, x = { tmps := #[CasV a b c dv rp ms, ptr w.heap.size, .bool false, .int .i64 ab, .int .i64 bc, .int .i64 ac, u6, u7, u8, u9, u10, u11, u12, u13, u14, u15, u16, u17, u18, u19, u20, u21, u22, u23, u24, u25, u26, u27, u28, u29, u30, u31, u32, u33, u34, u35, u36, u37, u38, u39, u40, u41, u42, u43, u44, u45, u46, u47, u48, u49, u50, u51, u52, u53, u54, u55, u56, u57, u58, u59, u60, u61, u62, u63, u64, u65, u66, u67, u68, u69, u70, u71, u72, u73, u74, u75, .bool false, v8x0, v8x1, v8x2, v8x3, v8x4, v8x5, v8x6, v8x7, v8x8, v8x9, v8x10, v8x11, v8x12, v8x13, v8x14, v8x15, v8x16, v8x17, v8x18, v8x19, v8x20, v8x21, v8x22, v8x23, v8x24, v8x25, v8x26, v8x27, v8x28, v8x29, v8x30, v8x31, v8x32, u110, u111, u112, u113, u114, u115, u116, u117, u118, u119, u120, u121, u122, u123], defers := [] } ∧ BI 33 40 z2 (PhO8 a b c w ab bc ac e0 z2) [] [(4, CanonOf (runsAt a.P)), (7, CanonOf (runsAt b.P)), (13, CanonOf (runsAt a.P)), (28, IsP (mP b.P))] [] l W [v8x0, v8x1, v8x2, v8x3, v8x4, v8x5, v8x6, v8x7, v8x8, v8x9, v8x10, v8x11, v8x12, v8x13, v8x14, v8x15, v8x16, v8x17, v8x18, v8x19, v8x20, v8x21, v8x22, v8x23, v8x24, v8x25, v8x26, v8x27, v8x28, v8x29, v8x30, v8x31, v8x32]) → ∀ i, i ∈ Region.ready .any #[{ dst := some 77, op := Op.move (Operand.tmp 3), type := 3, pos := "law.go:223", after := #[], guard := none }, { dst := some 78, op := Op.binOp BinOp.eql 3 (Operand.tmp 77) (Operand.const (Value.int IntKind.i64 0)) 3, type := 4, pos := "law.go:223", after := #[{ on := 0, ground := Ground.data }], guard := none }, { dst := some 79, op := Op.fieldAddr 28 (Operand.tmp 1) 0, type := 0, pos := "law.go:223", after := #[], guard := none }, { dst := some 80, op := Op.load 25 (Operand.tmp 79), type := 25, pos := "law.go:223", after := #[{ on := 2, ground := Ground.data }], guard := none }, { dst := some 81, op := Op.call { callee := Callee.value (Operand.func 7), args := #[Operand.tmp 80], argTypes := #[25] }, type := 25, pos := "law.go:223", after := #[{ on := 3, ground := Ground.data }], guard := none }, { dst := some 82, op := Op.fieldAddr 28 (Operand.tmp 1) 1, type := 0, pos := "law.go:223", after := #[], guard := none }, { dst := some 83, op := Op.load 25 (Operand.tmp 82), type := 25, pos := "law.go:223", after := #[{ on := 5, ground := Ground.data }], guard := none }, { dst := some 84, op := Op.call { callee := Callee.value (Operand.func 7), args := #[Operand.tmp 83], argTypes := #[25] }, type := 25, pos := "law.go:223", after := #[{ on := 6, ground := Ground.data }, { on := 4, ground := Ground.chain }], guard := none }, { dst := some 85, op := Op.call { callee := Callee.value (Operand.func 20), args := #[Operand.tmp 81, Operand.tmp 84], argTypes := #[25, 25] }, type := 4, pos := "law.go:223", after := #[{ on := 4, ground := Ground.data }, { on := 7, ground := Ground.data }, { on := 7, ground := Ground.chain }], guard := none }, { dst := some 86, op := Op.binOp BinOp.neq 4 (Operand.tmp 78) (Operand.tmp 85) 4, type := 4, pos := "law.go:223", after := #[{ on := 1, ground := Ground.data }, { on := 8, ground := Ground.data }], guard := none }, { dst := some 87, op := Op.move (Operand.tmp 86), type := 4, pos := "law.go:223", after := #[{ on := 9, ground := Ground.data }, { on := 8, ground := Ground.chain }], guard := none }, { dst := some 88, op := Op.fieldAddr 28 (Operand.tmp 1) 0, type := 0, pos := "law.go:223", after := #[{ on := 10, ground := Ground.guard }], guard := some (10, false) }, { dst := some 89, op := Op.load 25 (Operand.tmp 88), type := 25, pos := "law.go:223", after := #[{ on := 11, ground := Ground.data }, { on := 10, ground := Ground.guard }], guard := some (10, false) }, { dst := some 90, op := Op.call { callee := Callee.value (Operand.func 7), args := #[Operand.tmp 89], argTypes := #[25] }, type := 25, pos := "law.go:223", after := #[{ on := 12, ground := Ground.data }, { on := 10, ground := Ground.chain }, { on := 10, ground := Ground.guard }], guard := some (10, false) }, { dst := some 91, op := Op.fieldAddr 28 (Operand.tmp 1) 1, type := 0, pos := "law.go:223", after := #[{ on := 10, ground := Ground.guard }], guard := some (10, false) }, { dst := some 92, op := Op.load 25 (Operand.tmp 91), type := 25, pos := "law.go:223", after := #[{ on := 14, ground := Ground.data }, { on := 10, ground := Ground.guard }], guard := some (10, false) }, { dst := some 93, op := Op.call { callee := Callee.value (Operand.func 19), args := #[Operand.tmp 90, Operand.tmp 92], argTypes := #[25, 25] }, type := 3, pos := "law.go:223", after := #[{ on := 13, ground := Ground.data }, { on := 15, ground := Ground.data }, { on := 13, ground := Ground.chain }, { on := 10, ground := Ground.guard }], guard := some (10, false) }, { dst := some 94, op := Op.move (Operand.tmp 3), type := 3, pos := "law.go:223", after := #[{ on := 10, ground := Ground.guard }], guard := some (10, false) }, { dst := some 95, op := Op.binOp BinOp.neq 3 (Operand.tmp 93) (Operand.tmp 94) 3, type := 4, pos := "law.go:223", after := #[{ on := 16, ground := Ground.data }, { on := 17, ground := Ground.data }, { on := 10, ground := Ground.guard }], guard := some (10, false) }, { dst := some 96, op := Op.pick (Operand.tmp 87) (Operand.const (Value.bool true)) (Operand.tmp 95), type := 4, pos := "law.go:223", after := #[{ on := 10, ground := Ground.data }, { on := 18, ground := Ground.data }], guard := none }, { dst := some 97, op := Op.move (Operand.tmp 96), type := 4, pos := "law.go:223", after := #[{ on := 19, ground := Ground.data }, { on := 16, ground := Ground.chain }], guard := none }, { dst := some 98, op := Op.fieldAddr 28 (Operand.tmp 1) 0, type := 0, pos := "law.go:223", after := #[{ on := 20, ground := Ground.guard }], guard := some (20, false) }, { dst := some 99, op := Op.load 25 (Operand.tmp 98), type := 25, pos := "law.go:223", after := #[{ on := 21, ground := Ground.data }, { on := 20, ground := Ground.guard }], guard := some (20, false) }, { dst := some 100, op := Op.fieldAddr 28 (Operand.tmp 1) 1, type := 0, pos := "law.go:223", after := #[{ on := 20, ground := Ground.guard }], guard := some (20, false) }, { dst := some 101, op := Op.load 25 (Operand.tmp 100), type := 25, pos := "law.go:223", after := #[{ on := 23, ground := Ground.data }, { on := 20, ground := Ground.guard }], guard := some (20, false) }, { dst := some 102, op := Op.fieldAddr 28 (Operand.tmp 1) 1, type := 0, pos := "law.go:223", after := #[{ on := 20, ground := Ground.guard }], guard := some (20, false) }, { dst := some 103, op := Op.load 25 (Operand.tmp 102), type := 25, pos := "law.go:223", after := #[{ on := 25, ground := Ground.data }, { on := 20, ground := Ground.guard }], guard := some (20, false) }, { dst := some 104, op := Op.buildSlice 54 2 #[(0, Operand.tmp 101), (1, Operand.tmp 103)], type := 54, pos := "law.go:223", after := #[{ on := 24, ground := Ground.data }, { on := 26, ground := Ground.data }, { on := 20, ground := Ground.guard }], guard := some (20, false) }, { dst := some 105, op := Op.call { callee := Callee.value (Operand.func 8), args := #[Operand.tmp 104], argTypes := #[54] }, type := 25, pos := "law.go:223", after := #[{ on := 27, ground := Ground.data }, { on := 20, ground := Ground.chain }, { on := 20, ground := Ground.guard }], guard := some (20, false) }, { dst := some 106, op := Op.call { callee := Callee.value (Operand.func 19), args := #[Operand.tmp 99, Operand.tmp 105], argTypes := #[25, 25] }, type := 3, pos := "law.go:223", after := #[{ on := 22, ground := Ground.data }, { on := 28, ground := Ground.data }, { on := 28, ground := Ground.chain }, { on := 20, ground := Ground.guard }], guard := some (20, false) }, { dst := some 107, op := Op.move (Operand.tmp 3), type := 3, pos := "law.go:223", after := #[{ on := 20, ground := Ground.guard }], guard := some (20, false) }, { dst := some 108, op := Op.binOp BinOp.neq 3 (Operand.tmp 106) (Operand.tmp 107) 3, type := 4, pos := "law.go:223", after := #[{ on := 29, ground := Ground.data }, { on := 30, ground := Ground.data }, { on := 20, ground := Ground.guard }], guard := some (20, false) }, { dst := some 109, op := Op.pick (Operand.tmp 97) (Operand.const (Value.bool true)) (Operand.tmp 108), type := 4, pos := "law.go:223", after := #[{ on := 20, ground := Ground.data }, { on := 31, ground := Ground.data }], guard := none }] l → wpOp Try.prog #[{ dst := some 77, op := Op.move (Operand.tmp 3), type := 3, pos := "law.go:223", after := #[], guard := none }, { dst := some 78, op := Op.binOp BinOp.eql 3 (Operand.tmp 77) (Operand.const (Value.int IntKind.i64 0)) 3, type := 4, pos := "law.go:223", after := #[{ on := 0, ground := Ground.data }], guard := none }, { dst := some 79, op := Op.fieldAddr 28 (Operand.tmp 1) 0, type := 0, pos := "law.go:223", after := #[], guard := none }, { dst := some 80, op := Op.load 25 (Operand.tmp 79), type := 25, pos := "law.go:223", after := #[{ on := 2, ground := Ground.data }], guard := none }, { dst := some 81, op := Op.call { callee := Callee.value (Operand.func 7), args := #[Operand.tmp 80], argTypes := #[25] }, type := 25, pos := "law.go:223", after := #[{ on := 3, ground := Ground.data }], guard := none }, { dst := some 82, op := Op.fieldAddr 28 (Operand.tmp 1) 1, type := 0, pos := "law.go:223", after := #[], guard := none }, { dst := some 83, op := Op.load 25 (Operand.tmp 82), type := 25, pos := "law.go:223", after := #[{ on := 5, ground := Ground.data }], guard := none }, { dst := some 84, op := Op.call { callee := Callee.value (Operand.func 7), args := #[Operand.tmp 83], argTypes := #[25] }, type := 25, pos := "law.go:223", after := #[{ on := 6, ground := Ground.data }, { on := 4, ground := Ground.chain }], guard := none }, { dst := some 85, op := Op.call { callee := Callee.value (Operand.func 20), args := #[Operand.tmp 81, Operand.tmp 84], argTypes := #[25, 25] }, type := 4, pos := "law.go:223", after := #[{ on := 4, ground := Ground.data }, { on := 7, ground := Ground.data }, { on := 7, ground := Ground.chain }], guard := none }, { dst := some 86, op := Op.binOp BinOp.neq 4 (Operand.tmp 78) (Operand.tmp 85) 4, type := 4, pos := "law.go:223", after := #[{ on := 1, ground := Ground.data }, { on := 8, ground := Ground.data }], guard := none }, { dst := some 87, op := Op.move (Operand.tmp 86), type := 4, pos := "law.go:223", after := #[{ on := 9, ground := Ground.data }, { on := 8, ground := Ground.chain }], guard := none }, { dst := some 88, op := Op.fieldAddr 28 (Operand.tmp 1) 0, type := 0, pos := "law.go:223", after := #[{ on := 10, ground := Ground.guard }], guard := some (10, false) }, { dst := some 89, op := Op.load 25 (Operand.tmp 88), type := 25, pos := "law.go:223", after := #[{ on := 11, ground := Ground.data }, { on := 10, ground := Ground.guard }], guard := some (10, false) }, { dst := some 90, op := Op.call { callee := Callee.value (Operand.func 7), args := #[Operand.tmp 89], argTypes := #[25] }, type := 25, pos := "law.go:223", after := #[{ on := 12, ground := Ground.data }, { on := 10, ground := Ground.chain }, { on := 10, ground := Ground.guard }], guard := some (10, false) }, { dst := some 91, op := Op.fieldAddr 28 (Operand.tmp 1) 1, type := 0, pos := "law.go:223", after := #[{ on := 10, ground := Ground.guard }], guard := some (10, false) }, { dst := some 92, op := Op.load 25 (Operand.tmp 91), type := 25, pos := "law.go:223", after := #[{ on := 14, ground := Ground.data }, { on := 10, ground := Ground.guard }], guard := some (10, false) }, { dst := some 93, op := Op.call { callee := Callee.value (Operand.func 19), args := #[Operand.tmp 90, Operand.tmp 92], argTypes := #[25, 25] }, type := 3, pos := "law.go:223", after := #[{ on := 13, ground := Ground.data }, { on := 15, ground := Ground.data }, { on := 13, ground := Ground.chain }, { on := 10, ground := Ground.guard }], guard := some (10, false) }, { dst := some 94, op := Op.move (Operand.tmp 3), type := 3, pos := "law.go:223", after := #[{ on := 10, ground := Ground.guard }], guard := some (10, false) }, { dst := some 95, op := Op.binOp BinOp.neq 3 (Operand.tmp 93) (Operand.tmp 94) 3, type := 4, pos := "law.go:223", after := #[{ on := 16, ground := Ground.data }, { on := 17, ground := Ground.data }, { on := 10, ground := Ground.guard }], guard := some (10, false) }, { dst := some 96, op := Op.pick (Operand.tmp 87) (Operand.const (Value.bool true)) (Operand.tmp 95), type := 4, pos := "law.go:223", after := #[{ on := 10, ground := Ground.data }, { on := 18, ground := Ground.data }], guard := none }, { dst := some 97, op := Op.move (Operand.tmp 96), type := 4, pos := "law.go:223", after := #[{ on := 19, ground := Ground.data }, { on := 16, ground := Ground.chain }], guard := none }, { dst := some 98, op := Op.fieldAddr 28 (Operand.tmp 1) 0, type := 0, pos := "law.go:223", after := #[{ on := 20, ground := Ground.guard }], guard := some (20, false) }, { dst := some 99, op := Op.load 25 (Operand.tmp 98), type := 25, pos := "law.go:223", after := #[{ on := 21, ground := Ground.data }, { on := 20, ground := Ground.guard }], guard := some (20, false) }, { dst := some 100, op := Op.fieldAddr 28 (Operand.tmp 1) 1, type := 0, pos := "law.go:223", after := #[{ on := 20, ground := Ground.guard }], guard := some (20, false) }, { dst := some 101, op := Op.load 25 (Operand.tmp 100), type := 25, pos := "law.go:223", after := #[{ on := 23, ground := Ground.data }, { on := 20, ground := Ground.guard }], guard := some (20, false) }, { dst := some 102, op := Op.fieldAddr 28 (Operand.tmp 1) 1, type := 0, pos := "law.go:223", after := #[{ on := 20, ground := Ground.guard }], guard := some (20, false) }, { dst := some 103, op := Op.load 25 (Operand.tmp 102), type := 25, pos := "law.go:223", after := #[{ on := 25, ground := Ground.data }, { on := 20, ground := Ground.guard }], guard := some (20, false) }, { dst := some 104, op := Op.buildSlice 54 2 #[(0, Operand.tmp 101), (1, Operand.tmp 103)], type := 54, pos := "law.go:223", after := #[{ on := 24, ground := Ground.data }, { on := 26, ground := Ground.data }, { on := 20, ground := Ground.guard }], guard := some (20, false) }, { dst := some 105, op := Op.call { callee := Callee.value (Operand.func 8), args := #[Operand.tmp 104], argTypes := #[54] }, type := 25, pos := "law.go:223", after := #[{ on := 27, ground := Ground.data }, { on := 20, ground := Ground.chain }, { on := 20, ground := Ground.guard }], guard := some (20, false) }, { dst := some 106, op := Op.call { callee := Callee.value (Operand.func 19), args := #[Operand.tmp 99, Operand.tmp 105], argTypes := #[25, 25] }, type := 3, pos := "law.go:223", after := #[{ on := 22, ground := Ground.data }, { on := 28, ground := Ground.data }, { on := 28, ground := Ground.chain }, { on := 20, ground := Ground.guard }], guard := some (20, false) }, { dst := some 107, op := Op.move (Operand.tmp 3), type := 3, pos := "law.go:223", after := #[{ on := 20, ground := Ground.guard }], guard := some (20, false) }, { dst := some 108, op := Op.binOp BinOp.neq 3 (Operand.tmp 106) (Operand.tmp 107) 3, type := 4, pos := "law.go:223", after := #[{ on := 29, ground := Ground.data }, { on := 30, ground := Ground.data }, { on := 20, ground := Ground.guard }], guard := some (20, false) }, { dst := some 109, op := Op.pick (Operand.tmp 97) (Operand.const (Value.bool true)) (Operand.tmp 108), type := 4, pos := "law.go:223", after := #[{ on := 20, ground := Ground.data }, { on := 31, ground := Ground.data }], guard := none }] Q i (fun a' w' => ∃ v8x0 v8x1 v8x2 v8x3 v8x4 v8x5 v8x6 v8x7 v8x8 v8x9 v8x10 v8x11 v8x12 v8x13 v8x14 v8x15 v8x16 v8x17 v8x18 v8x19 v8x20 v8x21 v8x22 v8x23 v8x24 v8x25 v8x26 v8x27 v8x28 v8x29 v8x30 v8x31 v8x32, a' = { tmps := #[CasV a b c dv rp ms, ptr w.heap.size, .bool false, .int .i64 ab, .int .i64 bc, .int .i64 ac, u6, u7, u8, u9, u10, u11, u12, u13, u14, u15, u16, u17, u18, u19, u20, u21, u22, u23, u24, u25, u26, u27, u28, u29, u30, u31, u32, u33, u34, u35, u36, u37, u38, u39, u40, u41, u42, u43, u44, u45, u46, u47, u48, u49, u50, u51, u52, u53, u54, u55, u56, u57, u58, u59, u60, u61, u62, u63, u64, u65, u66, u67, u68, u69, u70, u71, u72, u73, u74, u75, .bool false, v8x0, v8x1, v8x2, v8x3, v8x4, v8x5, v8x6, v8x7, v8x8, v8x9, v8x10, v8x11, v8x12, v8x13, v8x14, v8x15, v8x16, v8x17, v8x18, v8x19, v8x20, v8x21, v8x22, v8x23, v8x24, v8x25, v8x26, v8x27, v8x28, v8x29, v8x30, v8x31, v8x32, u110, u111, u112, u113, u114, u115, u116, u117, u118, u119, u120, u121, u122, u123], defers := [] } ∧ BI 33 40 z2 (PhO8 a b c w ab bc ac e0 z2) [] [(4, CanonOf (runsAt a.P)), (7, CanonOf (runsAt b.P)), (13, CanonOf (runsAt a.P)), (28, IsP (mP b.P))] [] (l.setIfInBounds i true) w' [v8x0, v8x1, v8x2, v8x3, v8x4, v8x5, v8x6, v8x7, v8x8, v8x9, v8x10, v8x11, v8x12, v8x13, v8x14, v8x15, v8x16, v8x17, v8x18, v8x19, v8x20, v8x21, v8x22, v8x23, v8x24, v8x25, v8x26, v8x27, v8x28, v8x29, v8x30, v8x31, v8x32]) x W := by
  rintro l x W ⟨v8x0, v8x1, v8x2, v8x3, v8x4, v8x5, v8x6, v8x7, v8x8, v8x9, v8x10, v8x11, v8x12, v8x13, v8x14, v8x15, v8x16, v8x17, v8x18, v8x19, v8x20, v8x21, v8x22, v8x23, v8x24, v8x25, v8x26, v8x27, v8x28, v8x29, v8x30, v8x31, v8x32, rfl, T⟩ i hi
  obtain ⟨hi1, hi2, hi3⟩ := ready_mem hi
  have hi4 := no_true hi2
  have hc : i = 0 ∨ i = 1 ∨ i = 2 ∨ i = 3 ∨ i = 4 ∨ i = 5 ∨ i = 6 ∨ i = 7 ∨ i = 8 ∨ i = 9 ∨ i = 10 ∨ i = 11 ∨ i = 12 ∨ i = 13 ∨ i = 14 ∨ i = 15 ∨ i = 16 ∨ i = 17 ∨ i = 18 ∨ i = 19 ∨ i = 20 ∨ i = 21 ∨ i = 22 ∨ i = 23 ∨ i = 24 ∨ i = 25 ∨ i = 26 ∨ i = 27 ∨ i = 28 ∨ i = 29 ∨ i = 30 ∨ i = 31 ∨ i = 32 := by have h : i < 33 := hi1; omega
  have HT := hide T
  clear T
  rcases hc with rfl | rfl | rfl | rfl | rfl | rfl | rfl | rfl | rfl | rfl | rfl | rfl | rfl | rfl | rfl | rfl | rfl | rfl | rfl | rfl | rfl | rfl | rfl | rfl | rfl | rfl | rfl | rfl | rfl | rfl | rfl | rfl | rfl
  · have HL := hide hi4
    clear hi hi1 hi2 hi3 hi4
    refine wpOp_step (o := { dst := some 77, op := Op.move (Operand.tmp 3), type := 3, pos := "law.go:223", after := #[], guard := none }) rfl (fun K hK => ?_)
    go_simp
    exact hK _ _ ⟨.int .i64 ab, v8x1, v8x2, v8x3, v8x4, v8x5, v8x6, v8x7, v8x8, v8x9, v8x10, v8x11, v8x12, v8x13, v8x14, v8x15, v8x16, v8x17, v8x18, v8x19, v8x20, v8x21, v8x22, v8x23, v8x24, v8x25, v8x26, v8x27, v8x28, v8x29, v8x30, v8x31, v8x32, rfl, HT.out.plain (PhO8_mono a b c w ab bc ac e0 z2) (Below.refl _ _) 0 (by decide) HL.out _ rfl (by simp) (by simp) (by decide)⟩
  · have d0 := hi3 _ rfl { on := 0, ground := Ground.data } (by simp) rfl
    have e0 : v8x0 = .int .i64 ab := HT.out.h 0 (by decide) d0 (fun hm => absurd hm (by decide))
    subst e0
    have HL := hide hi4
    clear hi hi1 hi2 hi3 hi4 d0
    have he := HE0.out
    refine wpOp_step (o := { dst := some 78, op := Op.binOp BinOp.eql 3 (Operand.tmp 77) (Operand.const (Value.int IntKind.i64 0)) 3, type := 4, pos := "law.go:223", after := #[{ on := 0, ground := Ground.data }], guard := none }) rfl (fun K hK => ?_)
    go_simp
    exact hK _ _ ⟨_, .bool e0, v8x2, v8x3, v8x4, v8x5, v8x6, v8x7, v8x8, v8x9, v8x10, v8x11, v8x12, v8x13, v8x14, v8x15, v8x16, v8x17, v8x18, v8x19, v8x20, v8x21, v8x22, v8x23, v8x24, v8x25, v8x26, v8x27, v8x28, v8x29, v8x30, v8x31, v8x32, rfl, HT.out.plain (PhO8_mono a b c w ab bc ac e0 z2) (Below.refl _ _) 1 (by decide) HL.out _ rfl (by simp) (by simp) (by decide)⟩
  · have HL := hide hi4
    clear hi hi1 hi2 hi3 hi4
    refine wpOp_step (o := { dst := some 79, op := Op.fieldAddr 28 (Operand.tmp 1) 0, type := 0, pos := "law.go:223", after := #[], guard := none }) rfl (fun K hK => ?_)
    go_simp
    exact hK _ _ ⟨v8x0, v8x1, .pointer (some ⟨w.heap.size, 0, none⟩), v8x3, v8x4, v8x5, v8x6, v8x7, v8x8, v8x9, v8x10, v8x11, v8x12, v8x13, v8x14, v8x15, v8x16, v8x17, v8x18, v8x19, v8x20, v8x21, v8x22, v8x23, v8x24, v8x25, v8x26, v8x27, v8x28, v8x29, v8x30, v8x31, v8x32, rfl, HT.out.plain (PhO8_mono a b c w ab bc ac e0 z2) (Below.refl _ _) 2 (by decide) HL.out _ rfl (by simp) (by simp) (by decide)⟩
  · have d2 := hi3 _ rfl { on := 2, ground := Ground.data } (by simp) rfl
    have e2 : v8x2 = .pointer (some ⟨w.heap.size, 0, none⟩) := HT.out.h 2 (by decide) d2 (fun hm => absurd hm (by decide))
    subst e2
    have HL := hide hi4
    clear hi hi1 hi2 hi3 hi4 d2
    have l1 := run_ldP (HCB.out.below HT.out.b).pa
    refine wpOp_step (o := { dst := some 80, op := Op.load 25 (Operand.tmp 79), type := 25, pos := "law.go:223", after := #[{ on := 2, ground := Ground.data }], guard := none }) rfl (fun K hK => ?_)
    go_simp
    exact hK _ _ ⟨v8x0, v8x1, _, PV a, v8x4, v8x5, v8x6, v8x7, v8x8, v8x9, v8x10, v8x11, v8x12, v8x13, v8x14, v8x15, v8x16, v8x17, v8x18, v8x19, v8x20, v8x21, v8x22, v8x23, v8x24, v8x25, v8x26, v8x27, v8x28, v8x29, v8x30, v8x31, v8x32, rfl, HT.out.plain (PhO8_mono a b c w ab bc ac e0 z2) (Below.refl _ _) 3 (by decide) HL.out _ rfl (by simp) (by simp) (by decide)⟩
  · have d3 := hi3 _ rfl { on := 3, ground := Ground.data } (by simp) rfl
    have e3 : v8x3 = PV a := HT.out.h 3 (by decide) d3 (fun hm => absurd hm (by decide))
    subst e3
    have HL := hide hi4
    clear hi hi1 hi2 hi3 hi4 d3
    refine wpOp_step (o := { dst := some 81, op := Op.call { callee := Callee.value (Operand.func 7), args := #[Operand.tmp 80], argTypes := #[25] }, type := 25, pos := "law.go:223", after := #[{ on := 3, ground := Ground.data }], guard := none }) rfl (fun K hK => ?_)
    go_simp
    go_wp2_with fail
    refine (pastNorm_any a _ (HA.out.below HT.out.b)).mono ?_
    rintro e w' ⟨pp, rfl, pS, pN, pb, pq⟩
    exact hK _ _ ⟨v8x0, v8x1, v8x2, _, PV pp, v8x5, v8x6, v8x7, v8x8, v8x9, v8x10, v8x11, v8x12, v8x13, v8x14, v8x15, v8x16, v8x17, v8x18, v8x19, v8x20, v8x21, v8x22, v8x23, v8x24, v8x25, v8x26, v8x27, v8x28, v8x29, v8x30, v8x31, v8x32, rfl, HT.out.call (PhO8_mono a b c w ab bc ac e0 z2) pb 4 (CanonOf (runsAt a.P)) (by decide) HL.out (by simp) (by simp) pp pS pN (pq) (fun _ _ => trivial) (by simp) (by decide)⟩
  · have HL := hide hi4
    clear hi hi1 hi2 hi3 hi4
    refine wpOp_step (o := { dst := some 82, op := Op.fieldAddr 28 (Operand.tmp 1) 1, type := 0, pos := "law.go:223", after := #[], guard := none }) rfl (fun K hK => ?_)
    go_simp
    exact hK _ _ ⟨v8x0, v8x1, v8x2, v8x3, v8x4, .pointer (some ⟨w.heap.size, 2, none⟩), v8x6, v8x7, v8x8, v8x9, v8x10, v8x11, v8x12, v8x13, v8x14, v8x15, v8x16, v8x17, v8x18, v8x19, v8x20, v8x21, v8x22, v8x23, v8x24, v8x25, v8x26, v8x27, v8x28, v8x29, v8x30, v8x31, v8x32, rfl, HT.out.plain (PhO8_mono a b c w ab bc ac e0 z2) (Below.refl _ _) 5 (by decide) HL.out _ rfl (by simp) (by simp) (by decide)⟩
  · have d5 := hi3 _ rfl { on := 5, ground := Ground.data } (by simp) rfl
    have e5 : v8x5 = .pointer (some ⟨w.heap.size, 2, none⟩) := HT.out.h 5 (by decide) d5 (fun hm => absurd hm (by decide))
    subst e5
    have HL := hide hi4
    clear hi hi1 hi2 hi3 hi4 d5
    have l1 := run_ldP (HCB.out.below HT.out.b).pb
    refine wpOp_step (o := { dst := some 83, op := Op.load 25 (Operand.tmp 82), type := 25, pos := "law.go:223", after := #[{ on := 5, ground := Ground.data }], guard := none }) rfl (fun K hK => ?_)
    go_simp
    exact hK _ _ ⟨v8x0, v8x1, v8x2, v8x3, v8x4, _, PV b, v8x7, v8x8, v8x9, v8x10, v8x11, v8x12, v8x13, v8x14, v8x15, v8x16, v8x17, v8x18, v8x19, v8x20, v8x21, v8x22, v8x23, v8x24, v8x25, v8x26, v8x27, v8x28, v8x29, v8x30, v8x31, v8x32, rfl, HT.out.plain (PhO8_mono a b c w ab bc ac e0 z2) (Below.refl _ _) 6 (by decide) HL.out _ rfl (by simp) (by simp) (by decide)⟩
  · have d6 := hi3 _ rfl { on := 6, ground := Ground.data } (by simp) rfl
    have e6 : v8x6 = PV b := HT.out.h 6 (by decide) d6 (fun hm => absurd hm (by decide))
    subst e6
    have HL := hide hi4
    clear hi hi1 hi2 hi3 hi4 d6
    refine wpOp_step (o := { dst := some 84, op := Op.call { callee := Callee.value (Operand.func 7), args := #[Operand.tmp 83], argTypes := #[25] }, type := 25, pos := "law.go:223", after := #[{ on := 6, ground := Ground.data }, { on := 4, ground := Ground.chain }], guard := none }) rfl (fun K hK => ?_)
    go_simp
    go_wp2_with fail
    refine (pastNorm_any b _ (HB.out.below HT.out.b)).mono ?_
    rintro e w' ⟨pp, rfl, pS, pN, pb, pq⟩
    exact hK _ _ ⟨v8x0, v8x1, v8x2, v8x3, v8x4, v8x5, _, PV pp, v8x8, v8x9, v8x10, v8x11, v8x12, v8x13, v8x14, v8x15, v8x16, v8x17, v8x18, v8x19, v8x20, v8x21, v8x22, v8x23, v8x24, v8x25, v8x26, v8x27, v8x28, v8x29, v8x30, v8x31, v8x32, rfl, HT.out.call (PhO8_mono a b c w ab bc ac e0 z2) pb 7 (CanonOf (runsAt b.P)) (by decide) HL.out (by simp) (by simp) pp pS pN (pq) (fun _ _ => trivial) (by simp) (by decide)⟩
  · have d4 := hi3 _ rfl { on := 4, ground := Ground.data } (by simp) rfl
    have d7 := hi3 _ rfl { on := 7, ground := Ground.data } (by simp) rfl
    obtain ⟨p4, e4, S4, q4, -⟩ := HT.out.r (4, CanonOf (runsAt a.P)) (by simp) d4
    have f4 : v8x4 = PV p4 := e4
    subst f4
    have HS4 := hide S4
    have HQ4 : Hid (CanonOf (runsAt a.P) p4.P) := q4
    clear e4 S4 q4
    obtain ⟨p7, e7, S7, q7, -⟩ := HT.out.r (7, CanonOf (runsAt b.P)) (by simp) d7
    have f7 : v8x7 = PV p7 := e7
    subst f7
    have HS7 := hide S7
    have HQ7 : Hid (CanonOf (runsAt b.P) p7.P) := q7
    clear e7 S7 q7
    have HL := hide hi4
    clear hi hi1 hi2 hi3 hi4 d4 d7
    refine wpOp_step (o := { dst := some 85, op := Op.call { callee := Callee.value (Operand.func 20), args := #[Operand.tmp 81, Operand.tmp 84], argTypes := #[25, 25] }, type := 4, pos := "law.go:223", after := #[{ on := 4, ground := Ground.data }, { on := 7, ground := Ground.data }, { on := 7, ground := Ground.chain }], guard := none }) rfl (fun K hK => ?_)
    go_simp
    go_wp2_with fail
    refine (samePast_any p4 p7 _ HS4.out HS7.out).mono ?_
    rintro e w' ⟨z, rfl, hz, pb⟩
    obtain rfl : e0 = z := Bool.eq_iff_iff.2 (HEV.out.trans (((isP_norm HQ4.out).iff (isP_norm HQ7.out)).symm.trans hz.symm))
    exact hK _ _ ⟨v8x0, v8x1, v8x2, v8x3, _, v8x5, v8x6, _, .bool e0, v8x9, v8x10, v8x11, v8x12, v8x13, v8x14, v8x15, v8x16, v8x17, v8x18, v8x19, v8x20, v8x21, v8x22, v8x23, v8x24, v8x25, v8x26, v8x27, v8x28, v8x29, v8x30, v8x31, v8x32, rfl, HT.out.plain (PhO8_mono a b c w ab bc ac e0 z2) pb 8 (by decide) HL.out _ rfl (by simp) (by simp) (by decide)⟩
  · have d1 := hi3 _ rfl { on := 1, ground := Ground.data } (by simp) rfl
    have d8 := hi3 _ rfl { on := 8, ground := Ground.data } (by simp) rfl
    have e1 : v8x1 = .bool e0 := HT.out.h 1 (by decide) d1 (fun hm => absurd hm (by decide))
    subst e1
    have e8 : v8x8 = .bool e0 := HT.out.h 8 (by decide) d8 (fun hm => absurd hm (by decide))
    subst e8
    have HL := hide hi4
    clear hi hi1 hi2 hi3 hi4 d1 d8
    refine wpOp_step (o := { dst := some 86, op := Op.binOp BinOp.neq 4 (Operand.tmp 78) (Operand.tmp 85) 4, type := 4, pos := "law.go:223", after := #[{ on := 1, ground := Ground.data }, { on := 8, ground := Ground.data }], guard := none }) rfl (fun K hK => ?_)
    go_simp
    exact hK _ _ ⟨v8x0, _, v8x2, v8x3, v8x4, v8x5, v8x6, v8x7, _, .bool false, v8x10, v8x11, v8x12, v8x13, v8x14, v8x15, v8x16, v8x17, v8x18, v8x19, v8x20, v8x21, v8x22, v8x23, v8x24, v8x25, v8x26, v8x27, v8x28, v8x29, v8x30, v8x31, v8x32, rfl, HT.out.plain (PhO8_mono a b c w ab bc ac e0 z2) (Below.refl _ _) 9 (by decide) HL.out _ rfl (by simp) (by simp) (by decide)⟩
  · have d9 := hi3 _ rfl { on := 9, ground := Ground.data } (by simp) rfl
    have e9 : v8x9 = .bool false := HT.out.h 9 (by decide) d9 (fun hm => absurd hm (by decide))
    subst e9
    have HL := hide hi4
    clear hi hi1 hi2 hi3 hi4 d9
    refine wpOp_step (o := { dst := some 87, op := Op.move (Operand.tmp 86), type := 4, pos := "law.go:223", after := #[{ on := 9, ground := Ground.data }, { on := 8, ground := Ground.chain }], guard := none }) rfl (fun K hK => ?_)
    go_simp
    exact hK _ _ ⟨v8x0, v8x1, v8x2, v8x3, v8x4, v8x5, v8x6, v8x7, v8x8, _, .bool false, v8x11, v8x12, v8x13, v8x14, v8x15, v8x16, v8x17, v8x18, v8x19, v8x20, v8x21, v8x22, v8x23, v8x24, v8x25, v8x26, v8x27, v8x28, v8x29, v8x30, v8x31, v8x32, rfl, HT.out.plain (PhO8_mono a b c w ab bc ac e0 z2) (Below.refl _ _) 10 (by decide) HL.out _ rfl (by simp) (by simp) (by decide)⟩
  · have d10 := hi3 _ rfl { on := 10, ground := Ground.guard } (by simp) rfl
    have e10 : v8x10 = .bool false := HT.out.h 10 (by decide) d10 (fun hm => absurd hm (by decide))
    subst e10
    have HL := hide hi4
    clear hi hi1 hi2 hi3 hi4 d10
    refine wpOp_step (o := { dst := some 88, op := Op.fieldAddr 28 (Operand.tmp 1) 0, type := 0, pos := "law.go:223", after := #[{ on := 10, ground := Ground.guard }], guard := some (10, false) }) rfl (fun K hK => ?_)
    go_simp
    exact hK _ _ ⟨v8x0, v8x1, v8x2, v8x3, v8x4, v8x5, v8x6, v8x7, v8x8, v8x9, _, .pointer (some ⟨w.heap.size, 0, none⟩), v8x12, v8x13, v8x14, v8x15, v8x16, v8x17, v8x18, v8x19, v8x20, v8x21, v8x22, v8x23, v8x24, v8x25, v8x26, v8x27, v8x28, v8x29, v8x30, v8x31, v8x32, rfl, HT.out.plain (PhO8_mono a b c w ab bc ac e0 z2) (Below.refl _ _) 11 (by decide) HL.out _ rfl (by simp) (by simp) (by decide)⟩
  · have d11 := hi3 _ rfl { on := 11, ground := Ground.data } (by simp) rfl
    have d10 := hi3 _ rfl { on := 10, ground := Ground.guard } (by simp) rfl
    have e11 : v8x11 = .pointer (some ⟨w.heap.size, 0, none⟩) := HT.out.h 11 (by decide) d11 (fun hm => absurd hm (by decide))
    subst e11
    have e10 : v8x10 = .bool false := HT.out.h 10 (by decide) d10 (fun hm => absurd hm (by decide))
    subst e10
    have HL := hide hi4
    clear hi hi1 hi2 hi3 hi4 d11 d10
    have l1 := run_ldP (HCB.out.below HT.out.b).pa
    refine wpOp_step (o := { dst := some 89, op := Op.load 25 (Operand.tmp 88), type := 25, pos := "law.go:223", after := #[{ on := 11, ground := Ground.data }, { on := 10, ground := Ground.guard }], guard := some (10, false) }) rfl (fun K hK => ?_)
    go_simp
    exact hK _ _ ⟨v8x0, v8x1, v8x2, v8x3, v8x4, v8x5, v8x6, v8x7, v8x8, v8x9, _, _, PV a, v8x13, v8x14, v8x15, v8x16, v8x17, v8x18, v8x19, v8x20, v8x21, v8x22, v8x23, v8x24, v8x25, v8x26, v8x27, v8x28, v8x29, v8x30, v8x31, v8x32, rfl, HT.out.plain (PhO8_mono a b c w ab bc ac e0 z2) (Below.refl _ _) 12 (by decide) HL.out _ rfl (by simp) (by simp) (by decide)⟩
  · have d12 := hi3 _ rfl { on := 12, ground := Ground.data } (by simp) rfl
    have d10 := hi3 _ rfl { on := 10, ground := Ground.chain } (by simp) rfl
    have e12 : v8x12 = PV a := HT.out.h 12 (by decide) d12 (fun hm => absurd hm (by decide))
    subst e12
    have e10 : v8x10 = .bool false := HT.out.h 10 (by decide) d10 (fun hm => absurd hm (by decide))
    subst e10
    have HL := hide hi4
    clear hi hi1 hi2 hi3 hi4 d12 d10
    refine wpOp_step (o := { dst := some 90, op := Op.call { callee := Callee.value (Operand.func 7), args := #[Operand.tmp 89], argTypes := #[25] }, type := 25, pos := "law.go:223", after := #[{ on := 12, ground := Ground.data }, { on := 10, ground := Ground.chain }, { on := 10, ground := Ground.guard }], guard := some (10, false) }) rfl (fun K hK => ?_)
    go_simp
    go_wp2_with fail
    refine (pastNorm_any a _ (HA.out.below HT.out.b)).mono ?_
    rintro e w' ⟨pp, rfl, pS, pN, pb, pq⟩
    exact hK _ _ ⟨v8x0, v8x1, v8x2, v8x3, v8x4, v8x5, v8x6, v8x7, v8x8, v8x9, _, v8x11, _, PV pp, v8x14, v8x15, v8x16, v8x17, v8x18, v8x19, v8x20, v8x21, v8x22, v8x23, v8x24, v8x25, v8x26, v8x27, v8x28, v8x29, v8x30, v8x31, v8x32, rfl, HT.out.call (PhO8_mono a b c w ab bc ac e0 z2) pb 13 (CanonOf (runsAt a.P)) (by decide) HL.out (by simp) (by simp) pp pS pN (pq) (fun _ _ => trivial) (by simp) (by decide)⟩
  · have d10 := hi3 _ rfl { on := 10, ground := Ground.guard } (by simp) rfl
    have e10 : v8x10 = .bool false := HT.out.h 10 (by decide) d10 (fun hm => absurd hm (by decide))
    subst e10
    have HL := hide hi4
    clear hi hi1 hi2 hi3 hi4 d10
    refine wpOp_step (o := { dst := some 91, op := Op.fieldAddr 28 (Operand.tmp 1) 1, type := 0, pos := "law.go:223", after := #[{ on := 10, ground := Ground.guard }], guard := some (10, false) }) rfl (fun K hK => ?_)
    go_simp
    exact hK _ _ ⟨v8x0, v8x1, v8x2, v8x3, v8x4, v8x5, v8x6, v8x7, v8x8, v8x9, _, v8x11, v8x12, v8x13, .pointer (some ⟨w.heap.size, 2, none⟩), v8x15, v8x16, v8x17, v8x18, v8x19, v8x20, v8x21, v8x22, v8x23, v8x24, v8x25, v8x26, v8x27, v8x28, v8x29, v8x30, v8x31, v8x32, rfl, HT.out.plain (PhO8_mono a b c w ab bc ac e0 z2) (Below.refl _ _) 14 (by decide) HL.out _ rfl (by simp) (by simp) (by decide)⟩
  · have d14 := hi3 _ rfl { on := 14, ground := Ground.data } (by simp) rfl
    have d10 := hi3 _ rfl { on := 10, ground := Ground.guard } (by simp) rfl
    have e14 : v8x14 = .pointer (some ⟨w.heap.size, 2, none⟩) := HT.out.h 14 (by decide) d14 (fun hm => absurd hm (by decide))
    subst e14
    have e10 : v8x10 = .bool false := HT.out.h 10 (by decide) d10 (fun hm => absurd hm (by decide))
    subst e10
    have HL := hide hi4
    clear hi hi1 hi2 hi3 hi4 d14 d10
    have l1 := run_ldP (HCB.out.below HT.out.b).pb
    refine wpOp_step (o := { dst := some 92, op := Op.load 25 (Operand.tmp 91), type := 25, pos := "law.go:223", after := #[{ on := 14, ground := Ground.data }, { on := 10, ground := Ground.guard }], guard := some (10, false) }) rfl (fun K hK => ?_)
    go_simp
    exact hK _ _ ⟨v8x0, v8x1, v8x2, v8x3, v8x4, v8x5, v8x6, v8x7, v8x8, v8x9, _, v8x11, v8x12, v8x13, _, PV b, v8x16, v8x17, v8x18, v8x19, v8x20, v8x21, v8x22, v8x23, v8x24, v8x25, v8x26, v8x27, v8x28, v8x29, v8x30, v8x31, v8x32, rfl, HT.out.plain (PhO8_mono a b c w ab bc ac e0 z2) (Below.refl _ _) 15 (by decide) HL.out _ rfl (by simp) (by simp) (by decide)⟩
  · have d13 := hi3 _ rfl { on := 13, ground := Ground.data } (by simp) rfl
    have d15 := hi3 _ rfl { on := 15, ground := Ground.data } (by simp) rfl
    have d10 := hi3 _ rfl { on := 10, ground := Ground.guard } (by simp) rfl
    obtain ⟨p13, e13, S13, q13, -⟩ := HT.out.r (13, CanonOf (runsAt a.P)) (by simp) d13
    have f13 : v8x13 = PV p13 := e13
    subst f13
    have HS13 := hide S13
    have HQ13 : Hid (CanonOf (runsAt a.P) p13.P) := q13
    clear e13 S13 q13
    have e15 : v8x15 = PV b := HT.out.h 15 (by decide) d15 (fun hm => absurd hm (by decide))
    subst e15
    have e10 : v8x10 = .bool false := HT.out.h 10 (by decide) d10 (fun hm => absurd hm (by decide))
    subst e10
    have HL := hide hi4
    clear hi hi1 hi2 hi3 hi4 d13 d15 d10
    refine wpOp_step (o := { dst := some 93, op := Op.call { callee := Callee.value (Operand.func 19), args := #[Operand.tmp 90, Operand.tmp 92], argTypes := #[25, 25] }, type := 3, pos := "law.go:223", after := #[{ on := 13, ground := Ground.data }, { on := 15, ground := Ground.data }, { on := 13, ground := Ground.chain }, { on := 10, ground := Ground.guard }], guard := some (10, false) }) rfl (fun K hK => ?_)
    go_simp
    go_wp2_with fail
    refine (pastCompare_any p13 b _ HS13.out (HB.out.below HT.out.b)).mono ?_
    rintro e w' ⟨z, rfl, hz, pb⟩
    obtain rfl : ab = z := CmpOf.unique (Hab.out.congr (isP_norm HQ13.out).mem.symm' (fun _ _ _ => Iff.rfl)) hz
    exact hK _ _ ⟨v8x0, v8x1, v8x2, v8x3, v8x4, v8x5, v8x6, v8x7, v8x8, v8x9, _, v8x11, v8x12, _, v8x14, _, .int .i64 ab, v8x17, v8x18, v8x19, v8x20, v8x21, v8x22, v8x23, v8x24, v8x25, v8x26, v8x27, v8x28, v8x29, v8x30, v8x31, v8x32, rfl, HT.out.plain (PhO8_mono a b c w ab bc ac e0 z2) pb 16 (by decide) HL.out _ rfl (by simp) (by simp) (by decide)⟩
  · have d10 := hi3 _ rfl { on := 10, ground := Ground.guard } (by simp) rfl
    have e10 : v8x10 = .bool false := HT.out.h 10 (by decide) d10 (fun hm => absurd hm (by decide))
    subst e10
    have HL := hide hi4
    clear hi hi1 hi2 hi3 hi4 d10
    refine wpOp_step (o := { dst := some 94, op := Op.move (Operand.tmp 3), type := 3, pos := "law.go:223", after := #[{ on := 10, ground := Ground.guard }], guard := some (10, false) }) rfl (fun K hK => ?_)
    go_simp
    exact hK _ _ ⟨v8x0, v8x1, v8x2, v8x3, v8x4, v8x5, v8x6, v8x7, v8x8, v8x9, _, v8x11, v8x12, v8x13, v8x14, v8x15, v8x16, .int .i64 ab, v8x18, v8x19, v8x20, v8x21, v8x22, v8x23, v8x24, v8x25, v8x26, v8x27, v8x28, v8x29, v8x30, v8x31, v8x32, rfl, HT.out.plain (PhO8_mono a b c w ab bc ac e0 z2) (Below.refl _ _) 17 (by decide) HL.out _ rfl (by simp) (by simp) (by decide)⟩
  · have d16 := hi3 _ rfl { on := 16, ground := Ground.data } (by simp) rfl
    have d17 := hi3 _ rfl { on := 17, ground := Ground.data } (by simp) rfl
    have d10 := hi3 _ rfl { on := 10, ground := Ground.guard } (by simp) rfl
    have e16 : v8x16 = .int .i64 ab := HT.out.h 16 (by decide) d16 (fun hm => absurd hm (by decide))
    subst e16
    have e17 : v8x17 = .int .i64 ab := HT.out.h 17 (by decide) d17 (fun hm => absurd hm (by decide))
    subst e17
    have e10 : v8x10 = .bool false := HT.out.h 10 (by decide) d10 (fun hm => absurd hm (by decide))
    subst e10
    have HL := hide hi4
    clear hi hi1 hi2 hi3 hi4 d16 d17 d10
    refine wpOp_step (o := { dst := some 95, op := Op.binOp BinOp.neq 3 (Operand.tmp 93) (Operand.tmp 94) 3, type := 4, pos := "law.go:223", after := #[{ on := 16, ground := Ground.data }, { on := 17, ground := Ground.data }, { on := 10, ground := Ground.guard }], guard := some (10, false) }) rfl (fun K hK => ?_)
    go_simp
    exact hK _ _ ⟨v8x0, v8x1, v8x2, v8x3, v8x4, v8x5, v8x6, v8x7, v8x8, v8x9, _, v8x11, v8x12, v8x13, v8x14, v8x15, _, _, .bool false, v8x19, v8x20, v8x21, v8x22, v8x23, v8x24, v8x25, v8x26, v8x27, v8x28, v8x29, v8x30, v8x31, v8x32, rfl, HT.out.plain (PhO8_mono a b c w ab bc ac e0 z2) (Below.refl _ _) 18 (by decide) HL.out _ rfl (by simp) (by simp) (by decide)⟩
  · have d10 := hi3 _ rfl { on := 10, ground := Ground.data } (by simp) rfl
    have d18 := hi3 _ rfl { on := 18, ground := Ground.data } (by simp) rfl
    have e10 : v8x10 = .bool false := HT.out.h 10 (by decide) d10 (fun hm => absurd hm (by decide))
    subst e10
    have e18 : v8x18 = .bool false := HT.out.h 18 (by decide) d18 (fun hm => absurd hm (by decide))
    subst e18
    have HL := hide hi4
    clear hi hi1 hi2 hi3 hi4 d10 d18
    refine wpOp_step (o := { dst := some 96, op := Op.pick (Operand.tmp 87) (Operand.const (Value.bool true)) (Operand.tmp 95), type := 4, pos := "law.go:223", after := #[{ on := 10, ground := Ground.data }, { on := 18, ground := Ground.data }], guard := none }) rfl (fun K hK => ?_)
    go_simp
    exact hK _ _ ⟨v8x0, v8x1, v8x2, v8x3, v8x4, v8x5, v8x6, v8x7, v8x8, v8x9, _, v8x11, v8x12, v8x13, v8x14, v8x15, v8x16, v8x17, _, .bool false, v8x20, v8x21, v8x22, v8x23, v8x24, v8x25, v8x26, v8x27, v8x28, v8x29, v8x30, v8x31, v8x32, rfl, HT.out.plain (PhO8_mono a b c w ab bc ac e0 z2) (Below.refl _ _) 19 (by decide) HL.out _ rfl (by simp) (by simp) (by decide)⟩
  · have d19 := hi3 _ rfl { on := 19, ground := Ground.data } (by simp) rfl
    have e19 : v8x19 = .bool false := HT.out.h 19 (by decide) d19 (fun hm => absurd hm (by decide))
    subst e19
    have HL := hide hi4
    clear hi hi1 hi2 hi3 hi4 d19
    refine wpOp_step (o := { dst := some 97, op := Op.move (Operand.tmp 96), type := 4, pos := "law.go:223", after := #[{ on := 19, ground := Ground.data }, { on := 16, ground := Ground.chain }], guard := none }) rfl (fun K hK => ?_)
    go_simp
    exact hK _ _ ⟨v8x0, v8x1, v8x2, v8x3, v8x4, v8x5, v8x6, v8x7, v8x8, v8x9, v8x10, v8x11, v8x12, v8x13, v8x14, v8x15, v8x16, v8x17, v8x18, _, .bool false, v8x21, v8x22, v8x23, v8x24, v8x25, v8x26, v8x27, v8x28, v8x29, v8x30, v8x31, v8x32, rfl, HT.out.plain (PhO8_mono a b c w ab bc ac e0 z2) (Below.refl _ _) 20 (by decide) HL.out _ rfl (by simp) (by simp) (by decide)⟩
  · have d20 := hi3 _ rfl { on := 20, ground := Ground.guard } (by simp) rfl
    have e20 : v8x20 = .bool false := HT.out.h 20 (by decide) d20 (fun hm => absurd hm (by decide))
    subst e20
    have HL := hide hi4
    clear hi hi1 hi2 hi3 hi4 d20
    refine wpOp_step (o := { dst := some 98, op := Op.fieldAddr 28 (Operand.tmp 1) 0, type := 0, pos := "law.go:223", after := #[{ on := 20, ground := Ground.guard }], guard := some (20, false) }) rfl (fun K hK => ?_)
    go_simp
    exact hK _ _ ⟨v8x0, v8x1, v8x2, v8x3, v8x4, v8x5, v8x6, v8x7, v8x8, v8x9, v8x10, v8x11, v8x12, v8x13, v8x14, v8x15, v8x16, v8x17, v8x18, v8x19, _, .pointer (some ⟨w.heap.size, 0, none⟩), v8x22, v8x23, v8x24, v8x25, v8x26, v8x27, v8x28, v8x29, v8x30, v8x31, v8x32, rfl, HT.out.plain (PhO8_mono a b c w ab bc ac e0 z2) (Below.refl _ _) 21 (by decide) HL.out _ rfl (by simp) (by simp) (by decide)⟩
  · have d21 := hi3 _ rfl { on := 21, ground := Ground.data } (by simp) rfl
    have d20 := hi3 _ rfl { on := 20, ground := Ground.guard } (by simp) rfl
    have e21 : v8x21 = .pointer (some ⟨w.heap.size, 0, none⟩) := HT.out.h 21 (by decide) d21 (fun hm => absurd hm (by decide))
    subst e21
    have e20 : v8x20 = .bool false := HT.out.h 20 (by decide) d20 (fun hm => absurd hm (by decide))
    subst e20
    have HL := hide hi4
    clear hi hi1 hi2 hi3 hi4 d21 d20
    have l1 := run_ldP (HCB.out.below HT.out.b).pa
    refine wpOp_step (o := { dst := some 99, op := Op.load 25 (Operand.tmp 98), type := 25, pos := "law.go:223", after := #[{ on := 21, ground := Ground.data }, { on := 20, ground := Ground.guard }], guard := some (20, false) }) rfl (fun K hK => ?_)
    go_simp
    exact hK _ _ ⟨v8x0, v8x1, v8x2, v8x3, v8x4, v8x5, v8x6, v8x7, v8x8, v8x9, v8x10, v8x11, v8x12, v8x13, v8x14, v8x15, v8x16, v8x17, v8x18, v8x19, _, _, PV a, v8x23, v8x24, v8x25, v8x26, v8x27, v8x28, v8x29, v8x30, v8x31, v8x32, rfl, HT.out.plain (PhO8_mono a b c w ab bc ac e0 z2) (Below.refl _ _) 22 (by decide) HL.out _ rfl (by simp) (by simp) (by decide)⟩
  · have d20 := hi3 _ rfl { on := 20, ground := Ground.guard } (by simp) rfl
    have e20 : v8x20 = .bool false := HT.out.h 20 (by decide) d20 (fun hm => absurd hm (by decide))
    subst e20
    have HL := hide hi4
    clear hi hi1 hi2 hi3 hi4 d20
    refine wpOp_step (o := { dst := some 100, op := Op.fieldAddr 28 (Operand.tmp 1) 1, type := 0, pos := "law.go:223", after := #[{ on := 20, ground := Ground.guard }], guard := some (20, false) }) rfl (fun K hK => ?_)
    go_simp
    exact hK _ _ ⟨v8x0, v8x1, v8x2, v8x3, v8x4, v8x5, v8x6, v8x7, v8x8, v8x9, v8x10, v8x11, v8x12, v8x13, v8x14, v8x15, v8x16, v8x17, v8x18, v8x19, _, v8x21, v8x22, .pointer (some ⟨w.heap.size, 2, none⟩), v8x24, v8x25, v8x26, v8x27, v8x28, v8x29, v8x30, v8x31, v8x32, rfl, HT.out.plain (PhO8_mono a b c w ab bc ac e0 z2) (Below.refl _ _) 23 (by decide) HL.out _ rfl (by simp) (by simp) (by decide)⟩
  · have d23 := hi3 _ rfl { on := 23, ground := Ground.data } (by simp) rfl
    have d20 := hi3 _ rfl { on := 20, ground := Ground.guard } (by simp) rfl
    have e23 : v8x23 = .pointer (some ⟨w.heap.size, 2, none⟩) := HT.out.h 23 (by decide) d23 (fun hm => absurd hm (by decide))
    subst e23
    have e20 : v8x20 = .bool false := HT.out.h 20 (by decide) d20 (fun hm => absurd hm (by decide))
    subst e20
    have HL := hide hi4
    clear hi hi1 hi2 hi3 hi4 d23 d20
    have l1 := run_ldP (HCB.out.below HT.out.b).pb
    refine wpOp_step (o := { dst := some 101, op := Op.load 25 (Operand.tmp 100), type := 25, pos := "law.go:223", after := #[{ on := 23, ground := Ground.data }, { on := 20, ground := Ground.guard }], guard := some (20, false) }) rfl (fun K hK => ?_)
    go_simp
    exact hK _ _ ⟨v8x0, v8x1, v8x2, v8x3, v8x4, v8x5, v8x6, v8x7, v8x8, v8x9, v8x10, v8x11, v8x12, v8x13, v8x14, v8x15, v8x16, v8x17, v8x18, v8x19, _, v8x21, v8x22, _, PV b, v8x25, v8x26, v8x27, v8x28, v8x29, v8x30, v8x31, v8x32, rfl, HT.out.plain (PhO8_mono a b c w ab bc ac e0 z2) (Below.refl _ _) 24 (by decide) HL.out _ rfl (by simp) (by simp) (by decide)⟩
  · have d20 := hi3 _ rfl { on := 20, ground := Ground.guard } (by simp) rfl
    have e20 : v8x20 = .bool false := HT.out.h 20 (by decide) d20 (fun hm => absurd hm (by decide))
    subst e20
    have HL := hide hi4
    clear hi hi1 hi2 hi3 hi4 d20
    refine wpOp_step (o := { dst := some 102, op := Op.fieldAddr 28 (Operand.tmp 1) 1, type := 0, pos := "law.go:223", after := #[{ on := 20, ground := Ground.guard }], guard := some (20, false) }) rfl (fun K hK => ?_)
    go_simp
    exact hK _ _ ⟨v8x0, v8x1, v8x2, v8x3, v8x4, v8x5, v8x6, v8x7, v8x8, v8x9, v8x10, v8x11, v8x12, v8x13, v8x14, v8x15, v8x16, v8x17, v8x18, v8x19, _, v8x21, v8x22, v8x23, v8x24, .pointer (some ⟨w.heap.size, 2, none⟩), v8x26, v8x27, v8x28, v8x29, v8x30, v8x31, v8x32, rfl, HT.out.plain (PhO8_mono a b c w ab bc ac e0 z2) (Below.refl _ _) 25 (by decide) HL.out _ rfl (by simp) (by simp) (by decide)⟩
  · have d25 := hi3 _ rfl { on := 25, ground := Ground.data } (by simp) rfl
    have d20 := hi3 _ rfl { on := 20, ground := Ground.guard } (by simp) rfl
    have e25 : v8x25 = .pointer (some ⟨w.heap.size, 2, none⟩) := HT.out.h 25 (by decide) d25 (fun hm => absurd hm (by decide))
    subst e25
    have e20 : v8x20 = .bool false := HT.out.h 20 (by decide) d20 (fun hm => absurd hm (by decide))
    subst e20
    have HL := hide hi4
    clear hi hi1 hi2 hi3 hi4 d25 d20
    have l1 := run_ldP (HCB.out.below HT.out.b).pb
    refine wpOp_step (o := { dst := some 103, op := Op.load 25 (Operand.tmp 102), type := 25, pos := "law.go:223", after := #[{ on := 25, ground := Ground.data }, { on := 20, ground := Ground.guard }], guard := some (20, false) }) rfl (fun K hK => ?_)
    go_simp
    exact hK _ _ ⟨v8x0, v8x1, v8x2, v8x3, v8x4, v8x5, v8x6, v8x7, v8x8, v8x9, v8x10, v8x11, v8x12, v8x13, v8x14, v8x15, v8x16, v8x17, v8x18, v8x19, _, v8x21, v8x22, v8x23, v8x24, _, PV b, v8x27, v8x28, v8x29, v8x30, v8x31, v8x32, rfl, HT.out.plain (PhO8_mono a b c w ab bc ac e0 z2) (Below.refl _ _) 26 (by decide) HL.out _ rfl (by simp) (by simp) (by decide)⟩
  · have d24 := hi3 _ rfl { on := 24, ground := Ground.data } (by simp) rfl
    have d26 := hi3 _ rfl { on := 26, ground := Ground.data } (by simp) rfl
    have d20 := hi3 _ rfl { on := 20, ground := Ground.guard } (by simp) rfl
    have e24 : v8x24 = PV b := HT.out.h 24 (by decide) d24 (fun hm => absurd hm (by decide))
    subst e24
    have e26 : v8x26 = PV b := HT.out.h 26 (by decide) d26 (fun hm => absurd hm (by decide))
    subst e26
    have e20 : v8x20 = .bool false := HT.out.h 20 (by decide) d20 (fun hm => absurd hm (by decide))
    subst e20
    have HL := hide hi4
    clear hi hi1 hi2 hi3 hi4 d24 d26 d20
    refine wpOp_step (o := { dst := some 104, op := Op.buildSlice 54 2 #[(0, Operand.tmp 101), (1, Operand.tmp 103)], type := 54, pos := "law.go:223", after := #[{ on := 24, ground := Ground.data }, { on := 26, ground := Ground.data }, { on := 20, ground := Ground.guard }], guard := some (20, false) }) rfl (fun K hK => ?_)
    go_simp
    exact hK _ _ ⟨v8x0, v8x1, v8x2, v8x3, v8x4, v8x5, v8x6, v8x7, v8x8, v8x9, v8x10, v8x11, v8x12, v8x13, v8x14, v8x15, v8x16, v8x17, v8x18, v8x19, _, v8x21, v8x22, v8x23, _, v8x25, _, .slice (some ⟨W.heap.size, 0, none⟩) 2 2, v8x28, v8x29, v8x30, v8x31, v8x32, rfl, HT.out.plain (PhO8_mono a b c w ab bc ac e0 z2) (below_new _ _) 27 (by decide) HL.out _ ⟨_, rfl, prow_two W b b (HB.out.below HT.out.b) (HB.out.below HT.out.b)⟩ (by simp) (by simp) (by decide)⟩
  · have d27 := hi3 _ rfl { on := 27, ground := Ground.data } (by simp) rfl
    have d20 := hi3 _ rfl { on := 20, ground := Ground.chain } (by simp) rfl
    obtain ⟨g27, e27, R27⟩ : ∃ g, v8x27 = .slice (some ⟨g, 0, none⟩) 2 2 ∧ PRow W (some ⟨g, 0, none⟩) 2 [b, b] := HT.out.h 27 (by decide) d27 (fun hm => absurd hm (by decide))
    subst e27
    have HR27 := hide R27
    clear R27
    have e20 : v8x20 = .bool false := HT.out.h 20 (by decide) d20 (fun hm => absurd hm (by decide))
    subst e20
    have HL := hide hi4
    clear hi hi1 hi2 hi3 hi4 d27 d20
    refine wpOp_step (o := { dst := some 105, op := Op.call { callee := Callee.value (Operand.func 8), args := #[Operand.tmp 104], argTypes := #[54] }, type := 25, pos := "law.go:223", after := #[{ on := 27, ground := Ground.data }, { on := 20, ground := Ground.chain }, { on := 20, ground := Ground.guard }], guard := some (20, false) }) rfl (fun K hK => ?_)
    go_simp
    go_wp2_with fail
    refine (pastJoin_any _ 2 2 [b, b] _ HR27.out (by have h := HBL.out; simp only [wt]; omega) (by omega)).mono ?_
    rintro e w' ⟨pp, rfl, pS, pN, pb, pq⟩
    exact hK _ _ ⟨v8x0, v8x1, v8x2, v8x3, v8x4, v8x5, v8x6, v8x7, v8x8, v8x9, v8x10, v8x11, v8x12, v8x13, v8x14, v8x15, v8x16, v8x17, v8x18, v8x19, _, v8x21, v8x22, v8x23, v8x24, v8x25, v8x26, _, PV pp, v8x29, v8x30, v8x31, v8x32, rfl, HT.out.call (PhO8_mono a b c w ab bc ac e0 z2) pb 28 (IsP (mP b.P)) (by decide) HL.out (by simp) (by simp) pp pS pN ((isP_join2 pq).congr (fun _ _ _ => or_self_iff)) (fun _ _ => trivial) (by simp) (by decide)⟩
  · have d22 := hi3 _ rfl { on := 22, ground := Ground.data } (by simp) rfl
    have d28 := hi3 _ rfl { on := 28, ground := Ground.data } (by simp) rfl
    have d20 := hi3 _ rfl { on := 20, ground := Ground.guard } (by simp) rfl
    have e22 : v8x22 = PV a := HT.out.h 22 (by decide) d22 (fun hm => absurd hm (by decide))
    subst e22
    obtain ⟨p28, e28, S28, q28, -⟩ := HT.out.r (28, IsP (mP b.P)) (by simp) d28
    have f28 : v8x28 = PV p28 := e28
    subst f28
    have HS28 := hide S28
    have HQ28 : Hid (IsP (mP b.P) p28.P) := q28
    clear e28 S28 q28
    have e20 : v8x20 = .bool false := HT.out.h 20 (by decide) d20 (fun hm => absurd hm (by decide))
    subst e20
    have HL := hide hi4
    clear hi hi1 hi2 hi3 hi4 d22 d28 d20
    refine wpOp_step (o := { dst := some 106, op := Op.call { callee := Callee.value (Operand.func 19), args := #[Operand.tmp 99, Operand.tmp 105], argTypes := #[25, 25] }, type := 3, pos := "law.go:223", after := #[{ on := 22, ground := Ground.data }, { on := 28, ground := Ground.data }, { on := 28, ground := Ground.chain }, { on := 20, ground := Ground.guard }], guard := some (20, false) }) rfl (fun K hK => ?_)
    go_simp
    go_wp2_with fail
    refine (pastCompare_any a p28 _ (HA.out.below HT.out.b) HS28.out).mono ?_
    rintro e w' ⟨z, rfl, hz, pb⟩
    obtain rfl : ab = z := CmpOf.unique (Hab.out.congr (fun _ _ _ => Iff.rfl) HQ28.out.mem.symm') hz
    exact hK _ _ ⟨v8x0, v8x1, v8x2, v8x3, v8x4, v8x5, v8x6, v8x7, v8x8, v8x9, v8x10, v8x11, v8x12, v8x13, v8x14, v8x15, v8x16, v8x17, v8x18, v8x19, _, v8x21, _, v8x23, v8x24, v8x25, v8x26, v8x27, _, .int .i64 ab, v8x30, v8x31, v8x32, rfl, HT.out.plain (PhO8_mono a b c w ab bc ac e0 z2) pb 29 (by decide) HL.out _ rfl (by simp) (by simp) (by decide)⟩
  · have d20 := hi3 _ rfl { on := 20, ground := Ground.guard } (by simp) rfl
    have e20 : v8x20 = .bool false := HT.out.h 20 (by decide) d20 (fun hm => absurd hm (by decide))
    subst e20
    have HL := hide hi4
    clear hi hi1 hi2 hi3 hi4 d20
    refine wpOp_step (o := { dst := some 107, op := Op.move (Operand.tmp 3), type := 3, pos := "law.go:223", after := #[{ on := 20, ground := Ground.guard }], guard := some (20, false) }) rfl (fun K hK => ?_)
    go_simp
    exact hK _ _ ⟨v8x0, v8x1, v8x2, v8x3, v8x4, v8x5, v8x6, v8x7, v8x8, v8x9, v8x10, v8x11, v8x12, v8x13, v8x14, v8x15, v8x16, v8x17, v8x18, v8x19, _, v8x21, v8x22, v8x23, v8x24, v8x25, v8x26, v8x27, v8x28, v8x29, .int .i64 ab, v8x31, v8x32, rfl, HT.out.plain (PhO8_mono a b c w ab bc ac e0 z2) (Below.refl _ _) 30 (by decide) HL.out _ rfl (by simp) (by simp) (by decide)⟩
  · have d29 := hi3 _ rfl { on := 29, ground := Ground.data } (by simp) rfl
    have d30 := hi3 _ rfl { on := 30, ground := Ground.data } (by simp) rfl
    have d20 := hi3 _ rfl { on := 20, ground := Ground.guard } (by simp) rfl
    have e29 : v8x29 = .int .i64 ab := HT.out.h 29 (by decide) d29 (fun hm => absurd hm (by decide))
    subst e29
    have e30 : v8x30 = .int .i64 ab := HT.out.h 30 (by decide) d30 (fun hm => absurd hm (by decide))
    subst e30
    have e20 : v8x20 = .bool false := HT.out.h 20 (by decide) d20 (fun hm => absurd hm (by decide))
    subst e20
    have HL := hide hi4
    clear hi hi1 hi2 hi3 hi4 d29 d30 d20
    refine wpOp_step (o := { dst := some 108, op := Op.binOp BinOp.neq 3 (Operand.tmp 106) (Operand.tmp 107) 3, type := 4, pos := "law.go:223", after := #[{ on := 29, ground := Ground.data }, { on := 30, ground := Ground.data }, { on := 20, ground := Ground.guard }], guard := some (20, false) }) rfl (fun K hK => ?_)
    go_simp
    exact hK _ _ ⟨v8x0, v8x1, v8x2, v8x3, v8x4, v8x5, v8x6, v8x7, v8x8, v8x9, v8x10, v8x11, v8x12, v8x13, v8x14, v8x15, v8x16, v8x17, v8x18, v8x19, _, v8x21, v8x22, v8x23, v8x24, v8x25, v8x26, v8x27, v8x28, _, _, .bool false, v8x32, rfl, HT.out.plain (PhO8_mono a b c w ab bc ac e0 z2) (Below.refl _ _) 31 (by decide) HL.out _ rfl (by simp) (by simp) (by decide)⟩
  · have d20 := hi3 _ rfl { on := 20, ground := Ground.data } (by simp) rfl
    have d31 := hi3 _ rfl { on := 31, ground := Ground.data } (by simp) rfl
    have e20 : v8x20 = .bool false := HT.out.h 20 (by decide) d20 (fun hm => absurd hm (by decide))
    subst e20
    have e31 : v8x31 = .bool false := HT.out.h 31 (by decide) d31 (fun hm => absurd hm (by decide))
    subst e31
    have HL := hide hi4
    clear hi hi1 hi2 hi3 hi4 d20 d31
    refine wpOp_step (o := { dst := some 109, op := Op.pick (Operand.tmp 97) (Operand.const (Value.bool true)) (Operand.tmp 108), type := 4, pos := "law.go:223", after := #[{ on := 20, ground := Ground.data }, { on := 31, ground := Ground.data }], guard := none }) rfl (fun K hK => ?_)
    go_simp
    exact hK _ _ ⟨v8x0, v8x1, v8x2, v8x3, v8x4, v8x5, v8x6, v8x7, v8x8, v8x9, v8x10, v8x11, v8x12, v8x13, v8x14, v8x15, v8x16, v8x17, v8x18, v8x19, _, v8x21, v8x22, v8x23, v8x24, v8x25, v8x26, v8x27, v8x28, v8x29, v8x30, _, .bool false, rfl, HT.out.plain (PhO8_mono a b c w ab bc ac e0 z2) (Below.refl _ _) 32 (by decide) HL.out _ rfl (by simp) (by simp) (by decide)⟩
end Go.Proofs.Ytlnhafjpmkopgaa
