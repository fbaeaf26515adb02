import Derived.Test.YtiogmeaianogmaaPY3
/- PastSets: the steps of a region that draws its order. -/
namespace Go.Proofs.Ytiogmeaianogmaa
open Go.RowKit
attribute [local go_sem ↓] ldP_eq stP_eq
attribute [local go_sem] zero_PC cells_PV fold_PC PC_size fold_PC1 fold_PC2 fold_PC3
def Ph13 (px py : Pv) (_ : World) (_ : World) : Nat → Value → World → Prop
  | 0, x, _ => x = PV px
  | 1, x, _ => x = PV py
  | 2, x, W => ∃ g, x = .slice (some ⟨g, 0, none⟩) 2 2 ∧ PRow W (some ⟨g, 0, none⟩) 2 [px, py]
  | 4, x, _ => x = PV px
  | 5, x, _ => x = PV py
  | 6, x, W => ∃ g, x = .slice (some ⟨g, 0, none⟩) 2 2 ∧ PRow W (some ⟨g, 0, none⟩) 2 [px, py]
  | 8, x, _ => x = .bool true
  | 9, x, _ => x = .bool false
  | 10, x, _ => x = .bool false
  | 11, x, _ => x = PV px
  | 12, x, _ => x = PV py
  | 14, x, _ => x = PV px
  | 15, x, _ => x = PV py
  | 17, x, _ => x = .bool true
  | 18, x, _ => x = .bool false
  | 19, x, _ => x = .bool false
  | 20, x, _ => x = .bool false
  | 21, x, _ => x = PV px
  | 22, x, _ => x = PV py
  | 24, x, _ => x = PV px
  | 25, x, _ => x = PV py
  | 27, x, _ => x = .bool true
  | 28, x, _ => x = .bool false
  | 29, x, _ => x = .bool false
  | _, _, _ => True
theorem Ph13_mono (px py : Pv) (w : World) (W0 : World) : Mono (Ph13 px py w W0) := fun i x W W' h hb => match i with
  | 0 => h
  | 1 => h
  | 2 => by obtain ⟨g, e, R⟩ := h; exact ⟨g, e, R.below hb⟩
  | 4 => h
  | 5 => h
  | 6 => by obtain ⟨g, e, R⟩ := h; exact ⟨g, e, R.below hb⟩
  | 8 => h
  | 9 => h
  | 10 => h
  | 11 => h
  | 12 => h
  | 14 => h
  | 15 => h
  | 17 => h
  | 18 => h
  | 19 => h
  | 20 => h
  | 21 => h
  | 22 => h
  | 24 => h
  | 25 => h
  | 27 => h
  | 28 => h
  | 29 => h
  | 3 => trivial
  | 7 => trivial
  | 13 => trivial
  | 16 => trivial
  | 23 => trivial
  | 26 => trivial
  | _ + 30 => trivial
set_option maxRecDepth 100000 in
set_option maxHeartbeats 4000000 in
theorem st13 {a b c px py : Pv} {dv : Value} {rp ms : Int} {w y2 : World} {ad : Addr} {gx gy k1 k2 : Nat} {u100 u101 u102 u103 u104 u105 u106 u107 u108 u109 u110 u111 u112 u113 u114 u115 u116 u2 u47 u48 u49 u51 u52 u53 u92 u93 u94 u95 u96 u97 u98 u99 v4x21 v4x6 : Value} {p4_13 p4_22 p4_25 p4_7 p4_9 : Pv} (HSx : Hid (PSrc y2 px)) (HSy : Hid (PSrc y2 py)) (HXgx : Hid (PBox y2 gx px)) (HXgy : Hid (PBox y2 gy py)) (HLxy : Hid (px.P.cloud.length ≤ 4000000000000 ∧ py.P.cloud.length ≤ 4000000000000)) {Q : Exit → Act → World → Prop} :
    ∀ (l : Array Bool) (x : Act) (W : World), (∃ v13x0 v13x1 v13x2 v13x3 v13x4 v13x5 v13x6 v13x7 v13x8 v13x9 v13x10 v13x11 v13x12 v13x13 v13x14 v13x15 v13x16 v13x17 v13x18 v13x19 v13x20 v13x21 v13x22 v13x23 v13x24 v13x25 v13x26 v13x27 v13x28 v13x29, x = { tmps := #[CaseV a b c dv rp ms, ptr w.heap.size, u2, .slice (some ad) 3 3, .int .i64 k1, .int .i64 k2, ptr gx, ptr gy, .bool true, .bool false, .pointer (some ⟨w.heap.size, 0, none⟩), PV a, .pointer (some ⟨w.heap.size, 2, none⟩), PV b, .pointer (some ⟨w.heap.size, 4, none⟩), PV c, .slice (some ad) 3 3, .pointer (some ⟨w.heap.size, 0, none⟩), PV a, .pointer (some ⟨w.heap.size, 2, none⟩), PV b, .pointer (some ⟨w.heap.size, 4, none⟩), PV c, v4x6, PV p4_7, .slice (some ad) 3 3, PV p4_9, .bool true, .bool false, .bool false, PV p4_13, PV pv0, .bool true, .bool false, .bool false, .bool false, .pointer (some ⟨w.heap.size, 2, none⟩), PV b, v4x21, PV p4_22, .pointer (some ⟨w.heap.size, 2, none⟩), PV b, PV p4_25, .bool true, .bool false, .bool false, .int .i64 k1, u47, u48, u49, .int .i64 k2, u51, u52, u53, .slice (some ad) 3 3, .int .i64 k1, .pointer (some (ad.add (k1 * 2))), PV px, .slice (some ad) 3 3, .int .i64 k2, .pointer (some (ad.add (k2 * 2))), PV py, v13x0, v13x1, v13x2, v13x3, v13x4, v13x5, v13x6, v13x7, v13x8, v13x9, v13x10, v13x11, v13x12, v13x13, v13x14, v13x15, v13x16, v13x17, v13x18, v13x19, v13x20, v13x21, v13x22, v13x23, v13x24, v13x25, v13x26, v13x27, v13x28, v13x29, u92, u93, u94, u95, u96, u97, u98, u99, u100, u101, u102, u103, u104, u105, u106, u107, u108, u109, u110, u111, u112, u113, u114, u115, u116], defers := [] } ∧ BI 30 37 y2 (Ph13 px py w y2) [] [(3, IsP (mOr (mP px.P) (mP py.P))), (7, IsP (mOr (mP px.P) (mP py.P))), (13, IsP (mAnd (mP px.P) (mP py.P))), (16, IsP (mAnd (mP px.P) (mP py.P))), (23, IsP (mNot (mP px.P) (mP py.P))), (26, IsP (mNot (mP px.P) (mP py.P)))] [] l W [v13x0, v13x1, v13x2, v13x3, v13x4, v13x5, v13x6, v13x7, v13x8, v13x9, v13x10, v13x11, v13x12, v13x13, v13x14, v13x15, v13x16, v13x17, v13x18, v13x19, v13x20, v13x21, v13x22, v13x23, v13x24, v13x25, v13x26, v13x27, v13x28, v13x29]) → ∀ i, i ∈ Region.ready .any #[{ dst := some 62, op := Op.load 25 (Operand.tmp 6), type := 25, pos := "law.go:127", after := #[], guard := none }, { dst := some 63, op := Op.load 25 (Operand.tmp 7), type := 25, pos := "law.go:127", after := #[], guard := none }, { dst := some 64, op := Op.buildSlice 30 2 #[(0, Operand.tmp 62), (1, Operand.tmp 63)], type := 30, pos := "law.go:127", after := #[{ on := 0, ground := Ground.data }, { on := 1, ground := Ground.data }], guard := none }, { dst := some 65, op := Op.call { callee := Callee.value (Operand.func 8), args := #[Operand.tmp 64], argTypes := #[30] }, type := 25, pos := "law.go:127", after := #[{ on := 2, ground := Ground.data }], guard := none }, { dst := some 66, op := Op.load 25 (Operand.tmp 6), type := 25, pos := "law.go:127", after := #[], guard := none }, { dst := some 67, op := Op.load 25 (Operand.tmp 7), type := 25, pos := "law.go:127", after := #[], guard := none }, { dst := some 68, op := Op.buildSlice 30 2 #[(0, Operand.tmp 66), (1, Operand.tmp 67)], type := 30, pos := "law.go:127", after := #[{ on := 4, ground := Ground.data }, { on := 5, ground := Ground.data }], guard := none }, { dst := some 69, op := Op.call { callee := Callee.value (Operand.func 9), args := #[Operand.tmp 68], argTypes := #[30] }, type := 25, pos := "law.go:127", after := #[{ on := 6, ground := Ground.data }, { on := 3, ground := Ground.chain }], guard := none }, { dst := some 70, op := Op.call { callee := Callee.value (Operand.func 7), args := #[Operand.tmp 65, Operand.tmp 69], argTypes := #[25, 25] }, type := 4, pos := "law.go:127", after := #[{ on := 3, ground := Ground.data }, { on := 7, ground := Ground.data }, { on := 7, ground := Ground.chain }], guard := none }, { dst := some 71, op := Op.unOp UnOp.not 4 (Operand.tmp 70), type := 4, pos := "law.go:127", after := #[{ on := 8, ground := Ground.data }], guard := none }, { dst := some 72, op := Op.move (Operand.tmp 71), type := 4, pos := "law.go:127", after := #[{ on := 9, ground := Ground.data }, { on := 8, ground := Ground.chain }], guard := none }, { dst := some 73, op := Op.load 25 (Operand.tmp 6), type := 25, pos := "law.go:127", after := #[{ on := 10, ground := Ground.guard }], guard := some (10, false) }, { dst := some 74, op := Op.load 25 (Operand.tmp 7), type := 25, pos := "law.go:127", after := #[{ on := 10, ground := Ground.guard }], guard := some (10, false) }, { dst := some 75, op := Op.call { callee := Callee.value (Operand.func 11), args := #[Operand.tmp 73, Operand.tmp 74], argTypes := #[25, 25] }, type := 25, pos := "law.go:127", after := #[{ on := 11, ground := Ground.data }, { on := 12, ground := Ground.data }, { on := 10, ground := Ground.chain }, { on := 10, ground := Ground.guard }], guard := some (10, false) }, { dst := some 76, op := Op.load 25 (Operand.tmp 6), type := 25, pos := "law.go:127", after := #[{ on := 10, ground := Ground.guard }], guard := some (10, false) }, { dst := some 77, op := Op.load 25 (Operand.tmp 7), type := 25, pos := "law.go:127", after := #[{ on := 10, ground := Ground.guard }], guard := some (10, false) }, { dst := some 78, op := Op.call { callee := Callee.value (Operand.func 12), args := #[Operand.tmp 76, Operand.tmp 77], argTypes := #[25, 25] }, type := 25, pos := "law.go:127", after := #[{ on := 14, ground := Ground.data }, { on := 15, ground := Ground.data }, { on := 13, ground := Ground.chain }, { on := 10, ground := Ground.guard }], guard := some (10, false) }, { dst := some 79, op := Op.call { callee := Callee.value (Operand.func 7), args := #[Operand.tmp 75, Operand.tmp 78], argTypes := #[25, 25] }, type := 4, pos := "law.go:127", after := #[{ on := 13, ground := Ground.data }, { on := 16, ground := Ground.data }, { on := 16, ground := Ground.chain }, { on := 10, ground := Ground.guard }], guard := some (10, false) }, { dst := some 80, op := Op.unOp UnOp.not 4 (Operand.tmp 79), type := 4, pos := "law.go:127", after := #[{ on := 17, ground := Ground.data }, { on := 10, ground := Ground.guard }], guard := some (10, false) }, { dst := some 81, op := Op.pick (Operand.tmp 72) (Operand.const (Value.bool true)) (Operand.tmp 80), type := 4, pos := "law.go:127", after := #[{ on := 10, ground := Ground.data }, { on := 18, ground := Ground.data }], guard := none }, { dst := some 82, op := Op.move (Operand.tmp 81), type := 4, pos := "law.go:127", after := #[{ on := 19, ground := Ground.data }, { on := 17, ground := Ground.chain }], guard := none }, { dst := some 83, op := Op.load 25 (Operand.tmp 6), type := 25, pos := "law.go:127", after := #[{ on := 20, ground := Ground.guard }], guard := some (20, false) }, { dst := some 84, op := Op.load 25 (Operand.tmp 7), type := 25, pos := "law.go:127", after := #[{ on := 20, ground := Ground.guard }], guard := some (20, false) }, { dst := some 85, op := Op.call { callee := Callee.value (Operand.func 13), args := #[Operand.tmp 83, Operand.tmp 84], argTypes := #[25, 25] }, type := 25, pos := "law.go:127", after := #[{ on := 21, ground := Ground.data }, { on := 22, ground := Ground.data }, { on := 20, ground := Ground.chain }, { on := 20, ground := Ground.guard }], guard := some (20, false) }, { dst := some 86, op := Op.load 25 (Operand.tmp 6), type := 25, pos := "law.go:127", after := #[{ on := 20, ground := Ground.guard }], guard := some (20, false) }, { dst := some 87, op := Op.load 25 (Operand.tmp 7), type := 25, pos := "law.go:127", after := #[{ on := 20, ground := Ground.guard }], guard := some (20, false) }, { dst := some 88, op := Op.call { callee := Callee.value (Operand.func 14), args := #[Operand.tmp 86, Operand.tmp 87], argTypes := #[25, 25] }, type := 25, pos := "law.go:127", after := #[{ on := 24, ground := Ground.data }, { on := 25, ground := Ground.data }, { on := 23, ground := Ground.chain }, { on := 20, ground := Ground.guard }], guard := some (20, false) }, { dst := some 89, op := Op.call { callee := Callee.value (Operand.func 7), args := #[Operand.tmp 85, Operand.tmp 88], argTypes := #[25, 25] }, type := 4, pos := "law.go:127", after := #[{ on := 23, ground := Ground.data }, { on := 26, ground := Ground.data }, { on := 26, ground := Ground.chain }, { on := 20, ground := Ground.guard }], guard := some (20, false) }, { dst := some 90, op := Op.unOp UnOp.not 4 (Operand.tmp 89), type := 4, pos := "law.go:127", after := #[{ on := 27, ground := Ground.data }, { on := 20, ground := Ground.guard }], guard := some (20, false) }, { dst := some 91, op := Op.pick (Operand.tmp 82) (Operand.const (Value.bool true)) (Operand.tmp 90), type := 4, pos := "law.go:127", after := #[{ on := 20, ground := Ground.data }, { on := 28, ground := Ground.data }], guard := none }] l → wpOp Try.prog #[{ dst := some 62, op := Op.load 25 (Operand.tmp 6), type := 25, pos := "law.go:127", after := #[], guard := none }, { dst := some 63, op := Op.load 25 (Operand.tmp 7), type := 25, pos := "law.go:127", after := #[], guard := none }, { dst := some 64, op := Op.buildSlice 30 2 #[(0, Operand.tmp 62), (1, Operand.tmp 63)], type := 30, pos := "law.go:127", after := #[{ on := 0, ground := Ground.data }, { on := 1, ground := Ground.data }], guard := none }, { dst := some 65, op := Op.call { callee := Callee.value (Operand.func 8), args := #[Operand.tmp 64], argTypes := #[30] }, type := 25, pos := "law.go:127", after := #[{ on := 2, ground := Ground.data }], guard := none }, { dst := some 66, op := Op.load 25 (Operand.tmp 6), type := 25, pos := "law.go:127", after := #[], guard := none }, { dst := some 67, op := Op.load 25 (Operand.tmp 7), type := 25, pos := "law.go:127", after := #[], guard := none }, { dst := some 68, op := Op.buildSlice 30 2 #[(0, Operand.tmp 66), (1, Operand.tmp 67)], type := 30, pos := "law.go:127", after := #[{ on := 4, ground := Ground.data }, { on := 5, ground := Ground.data }], guard := none }, { dst := some 69, op := Op.call { callee := Callee.value (Operand.func 9), args := #[Operand.tmp 68], argTypes := #[30] }, type := 25, pos := "law.go:127", after := #[{ on := 6, ground := Ground.data }, { on := 3, ground := Ground.chain }], guard := none }, { dst := some 70, op := Op.call { callee := Callee.value (Operand.func 7), args := #[Operand.tmp 65, Operand.tmp 69], argTypes := #[25, 25] }, type := 4, pos := "law.go:127", after := #[{ on := 3, ground := Ground.data }, { on := 7, ground := Ground.data }, { on := 7, ground := Ground.chain }], guard := none }, { dst := some 71, op := Op.unOp UnOp.not 4 (Operand.tmp 70), type := 4, pos := "law.go:127", after := #[{ on := 8, ground := Ground.data }], guard := none }, { dst := some 72, op := Op.move (Operand.tmp 71), type := 4, pos := "law.go:127", after := #[{ on := 9, ground := Ground.data }, { on := 8, ground := Ground.chain }], guard := none }, { dst := some 73, op := Op.load 25 (Operand.tmp 6), type := 25, pos := "law.go:127", after := #[{ on := 10, ground := Ground.guard }], guard := some (10, false) }, { dst := some 74, op := Op.load 25 (Operand.tmp 7), type := 25, pos := "law.go:127", after := #[{ on := 10, ground := Ground.guard }], guard := some (10, false) }, { dst := some 75, op := Op.call { callee := Callee.value (Operand.func 11), args := #[Operand.tmp 73, Operand.tmp 74], argTypes := #[25, 25] }, type := 25, pos := "law.go:127", after := #[{ on := 11, ground := Ground.data }, { on := 12, ground := Ground.data }, { on := 10, ground := Ground.chain }, { on := 10, ground := Ground.guard }], guard := some (10, false) }, { dst := some 76, op := Op.load 25 (Operand.tmp 6), type := 25, pos := "law.go:127", after := #[{ on := 10, ground := Ground.guard }], guard := some (10, false) }, { dst := some 77, op := Op.load 25 (Operand.tmp 7), type := 25, pos := "law.go:127", after := #[{ on := 10, ground := Ground.guard }], guard := some (10, false) }, { dst := some 78, op := Op.call { callee := Callee.value (Operand.func 12), args := #[Operand.tmp 76, Operand.tmp 77], argTypes := #[25, 25] }, type := 25, pos := "law.go:127", after := #[{ on := 14, ground := Ground.data }, { on := 15, ground := Ground.data }, { on := 13, ground := Ground.chain }, { on := 10, ground := Ground.guard }], guard := some (10, false) }, { dst := some 79, op := Op.call { callee := Callee.value (Operand.func 7), args := #[Operand.tmp 75, Operand.tmp 78], argTypes := #[25, 25] }, type := 4, pos := "law.go:127", after := #[{ on := 13, ground := Ground.data }, { on := 16, ground := Ground.data }, { on := 16, ground := Ground.chain }, { on := 10, ground := Ground.guard }], guard := some (10, false) }, { dst := some 80, op := Op.unOp UnOp.not 4 (Operand.tmp 79), type := 4, pos := "law.go:127", after := #[{ on := 17, ground := Ground.data }, { on := 10, ground := Ground.guard }], guard := some (10, false) }, { dst := some 81, op := Op.pick (Operand.tmp 72) (Operand.const (Value.bool true)) (Operand.tmp 80), type := 4, pos := "law.go:127", after := #[{ on := 10, ground := Ground.data }, { on := 18, ground := Ground.data }], guard := none }, { dst := some 82, op := Op.move (Operand.tmp 81), type := 4, pos := "law.go:127", after := #[{ on := 19, ground := Ground.data }, { on := 17, ground := Ground.chain }], guard := none }, { dst := some 83, op := Op.load 25 (Operand.tmp 6), type := 25, pos := "law.go:127", after := #[{ on := 20, ground := Ground.guard }], guard := some (20, false) }, { dst := some 84, op := Op.load 25 (Operand.tmp 7), type := 25, pos := "law.go:127", after := #[{ on := 20, ground := Ground.guard }], guard := some (20, false) }, { dst := some 85, op := Op.call { callee := Callee.value (Operand.func 13), args := #[Operand.tmp 83, Operand.tmp 84], argTypes := #[25, 25] }, type := 25, pos := "law.go:127", after := #[{ on := 21, ground := Ground.data }, { on := 22, ground := Ground.data }, { on := 20, ground := Ground.chain }, { on := 20, ground := Ground.guard }], guard := some (20, false) }, { dst := some 86, op := Op.load 25 (Operand.tmp 6), type := 25, pos := "law.go:127", after := #[{ on := 20, ground := Ground.guard }], guard := some (20, false) }, { dst := some 87, op := Op.load 25 (Operand.tmp 7), type := 25, pos := "law.go:127", after := #[{ on := 20, ground := Ground.guard }], guard := some (20, false) }, { dst := some 88, op := Op.call { callee := Callee.value (Operand.func 14), args := #[Operand.tmp 86, Operand.tmp 87], argTypes := #[25, 25] }, type := 25, pos := "law.go:127", after := #[{ on := 24, ground := Ground.data }, { on := 25, ground := Ground.data }, { on := 23, ground := Ground.chain }, { on := 20, ground := Ground.guard }], guard := some (20, false) }, { dst := some 89, op := Op.call { callee := Callee.value (Operand.func 7), args := #[Operand.tmp 85, Operand.tmp 88], argTypes := #[25, 25] }, type := 4, pos := "law.go:127", after := #[{ on := 23, ground := Ground.data }, { on := 26, ground := Ground.data }, { on := 26, ground := Ground.chain }, { on := 20, ground := Ground.guard }], guard := some (20, false) }, { dst := some 90, op := Op.unOp UnOp.not 4 (Operand.tmp 89), type := 4, pos := "law.go:127", after := #[{ on := 27, ground := Ground.data }, { on := 20, ground := Ground.guard }], guard := some (20, false) }, { dst := some 91, op := Op.pick (Operand.tmp 82) (Operand.const (Value.bool true)) (Operand.tmp 90), type := 4, pos := "law.go:127", after := #[{ on := 20, ground := Ground.data }, { on := 28, ground := Ground.data }], guard := none }] Q i (fun a' w' => ∃ v13x0 v13x1 v13x2 v13x3 v13x4 v13x5 v13x6 v13x7 v13x8 v13x9 v13x10 v13x11 v13x12 v13x13 v13x14 v13x15 v13x16 v13x17 v13x18 v13x19 v13x20 v13x21 v13x22 v13x23 v13x24 v13x25 v13x26 v13x27 v13x28 v13x29, a' = { tmps := #[CaseV a b c dv rp ms, ptr w.heap.size, u2, .slice (some ad) 3 3, .int .i64 k1, .int .i64 k2, ptr gx, ptr gy, .bool true, .bool false, .pointer (some ⟨w.heap.size, 0, none⟩), PV a, .pointer (some ⟨w.heap.size, 2, none⟩), PV b, .pointer (some ⟨w.heap.size, 4, none⟩), PV c, .slice (some ad) 3 3, .pointer (some ⟨w.heap.size, 0, none⟩), PV a, .pointer (some ⟨w.heap.size, 2, none⟩), PV b, .pointer (some ⟨w.heap.size, 4, none⟩), PV c, v4x6, PV p4_7, .slice (some ad) 3 3, PV p4_9, .bool true, .bool false, .bool false, PV p4_13, PV pv0, .bool true, .bool false, .bool false, .bool false, .pointer (some ⟨w.heap.size, 2, none⟩), PV b, v4x21, PV p4_22, .pointer (some ⟨w.heap.size, 2, none⟩), PV b, PV p4_25, .bool true, .bool false, .bool false, .int .i64 k1, u47, u48, u49, .int .i64 k2, u51, u52, u53, .slice (some ad) 3 3, .int .i64 k1, .pointer (some (ad.add (k1 * 2))), PV px, .slice (some ad) 3 3, .int .i64 k2, .pointer (some (ad.add (k2 * 2))), PV py, v13x0, v13x1, v13x2, v13x3, v13x4, v13x5, v13x6, v13x7, v13x8, v13x9, v13x10, v13x11, v13x12, v13x13, v13x14, v13x15, v13x16, v13x17, v13x18, v13x19, v13x20, v13x21, v13x22, v13x23, v13x24, v13x25, v13x26, v13x27, v13x28, v13x29, u92, u93, u94, u95, u96, u97, u98, u99, u100, u101, u102, u103, u104, u105, u106, u107, u108, u109, u110, u111, u112, u113, u114, u115, u116], defers := [] } ∧ BI 30 37 y2 (Ph13 px py w y2) [] [(3, IsP (mOr (mP px.P) (mP py.P))), (7, IsP (mOr (mP px.P) (mP py.P))), (13, IsP (mAnd (mP px.P) (mP py.P))), (16, IsP (mAnd (mP px.P) (mP py.P))), (23, IsP (mNot (mP px.P) (mP py.P))), (26, IsP (mNot (mP px.P) (mP py.P)))] [] (l.setIfInBounds i true) w' [v13x0, v13x1, v13x2, v13x3, v13x4, v13x5, v13x6, v13x7, v13x8, v13x9, v13x10, v13x11, v13x12, v13x13, v13x14, v13x15, v13x16, v13x17, v13x18, v13x19, v13x20, v13x21, v13x22, v13x23, v13x24, v13x25, v13x26, v13x27, v13x28, v13x29]) x W := by
  rintro l x W ⟨v13x0, v13x1, v13x2, v13x3, v13x4, v13x5, v13x6, v13x7, v13x8, v13x9, v13x10, v13x11, v13x12, v13x13, v13x14, v13x15, v13x16, v13x17, v13x18, v13x19, v13x20, v13x21, v13x22, v13x23, v13x24, v13x25, v13x26, v13x27, v13x28, v13x29, rfl, T⟩ i hi
  obtain ⟨hi1, hi2, hi3⟩ := ready_mem hi
  have hi4 := no_true hi2
  have hc : i = 0 ∨ i = 1 ∨ i = 2 ∨ i = 3 ∨ i = 4 ∨ i = 5 ∨ i = 6 ∨ i = 7 ∨ i = 8 ∨ i = 9 ∨ i = 10 ∨ i = 11 ∨ i = 12 ∨ i = 13 ∨ i = 14 ∨ i = 15 ∨ i = 16 ∨ i = 17 ∨ i = 18 ∨ i = 19 ∨ i = 20 ∨ i = 21 ∨ i = 22 ∨ i = 23 ∨ i = 24 ∨ i = 25 ∨ i = 26 ∨ i = 27 ∨ i = 28 ∨ i = 29 := by have h : i < 30 := hi1; omega
  have HT := hide T
  clear T
  rcases hc with rfl | rfl | rfl | rfl | rfl | rfl | rfl | rfl | rfl | rfl | rfl | rfl | rfl | rfl | rfl | rfl | rfl | rfl | rfl | rfl | rfl | rfl | rfl | rfl | rfl | rfl | rfl | rfl | rfl | rfl
  · have HL := hide hi4
    clear hi hi1 hi2 hi3 hi4
    have l1 := run_ldP (HXgx.out.below HT.out.b).at
    refine wpOp_step (o := { dst := some 62, op := Op.load 25 (Operand.tmp 6), type := 25, pos := "law.go:127", after := #[], guard := none }) rfl (fun K hK => ?_)
    go_simp
    exact hK _ _ ⟨PV px, v13x1, v13x2, v13x3, v13x4, v13x5, v13x6, v13x7, v13x8, v13x9, v13x10, v13x11, v13x12, v13x13, v13x14, v13x15, v13x16, v13x17, v13x18, v13x19, v13x20, v13x21, v13x22, v13x23, v13x24, v13x25, v13x26, v13x27, v13x28, v13x29, rfl, HT.out.plain (Ph13_mono px py w y2) (Below.refl _ _) 0 (by decide) HL.out _ rfl (by simp) (by simp) (by decide)⟩
  · have HL := hide hi4
    clear hi hi1 hi2 hi3 hi4
    have l1 := run_ldP (HXgy.out.below HT.out.b).at
    refine wpOp_step (o := { dst := some 63, op := Op.load 25 (Operand.tmp 7), type := 25, pos := "law.go:127", after := #[], guard := none }) rfl (fun K hK => ?_)
    go_simp
    exact hK _ _ ⟨v13x0, PV py, v13x2, v13x3, v13x4, v13x5, v13x6, v13x7, v13x8, v13x9, v13x10, v13x11, v13x12, v13x13, v13x14, v13x15, v13x16, v13x17, v13x18, v13x19, v13x20, v13x21, v13x22, v13x23, v13x24, v13x25, v13x26, v13x27, v13x28, v13x29, rfl, HT.out.plain (Ph13_mono px py w y2) (Below.refl _ _) 1 (by decide) HL.out _ rfl (by simp) (by simp) (by decide)⟩
  · have d0 := hi3 _ rfl { on := 0, ground := Ground.data } (by simp) rfl
    have d1 := hi3 _ rfl { on := 1, ground := Ground.data } (by simp) rfl
    have e0 : v13x0 = PV px := HT.out.h 0 (by decide) d0 (fun hm => absurd hm (by decide))
    subst e0
    have e1 : v13x1 = PV py := HT.out.h 1 (by decide) d1 (fun hm => absurd hm (by decide))
    subst e1
    have HL := hide hi4
    clear hi hi1 hi2 hi3 hi4 d0 d1
    refine wpOp_step (o := { dst := some 64, op := Op.buildSlice 30 2 #[(0, Operand.tmp 62), (1, Operand.tmp 63)], type := 30, pos := "law.go:127", after := #[{ on := 0, ground := Ground.data }, { on := 1, ground := Ground.data }], guard := none }) rfl (fun K hK => ?_)
    go_simp
    exact hK _ _ ⟨_, _, .slice (some ⟨W.heap.size, 0, none⟩) 2 2, v13x3, v13x4, v13x5, v13x6, v13x7, v13x8, v13x9, v13x10, v13x11, v13x12, v13x13, v13x14, v13x15, v13x16, v13x17, v13x18, v13x19, v13x20, v13x21, v13x22, v13x23, v13x24, v13x25, v13x26, v13x27, v13x28, v13x29, rfl, HT.out.plain (Ph13_mono px py w y2) (below_new _ _) 2 (by decide) HL.out _ ⟨_, rfl, prow_two W px py (HSx.out.below HT.out.b) (HSy.out.below HT.out.b)⟩ (by simp) (by simp) (by decide)⟩
  · have d2 := hi3 _ rfl { on := 2, ground := Ground.data } (by simp) rfl
    obtain ⟨g2, e2, R2⟩ : ∃ g, v13x2 = .slice (some ⟨g, 0, none⟩) 2 2 ∧ PRow W (some ⟨g, 0, none⟩) 2 [px, py] := HT.out.h 2 (by decide) d2 (fun hm => absurd hm (by decide))
    subst e2
    have HR2 := hide R2
    clear R2
    have HL := hide hi4
    clear hi hi1 hi2 hi3 hi4 d2
    refine wpOp_step (o := { dst := some 65, op := Op.call { callee := Callee.value (Operand.func 8), args := #[Operand.tmp 64], argTypes := #[30] }, type := 25, pos := "law.go:127", after := #[{ on := 2, ground := Ground.data }], guard := none }) rfl (fun K hK => ?_)
    go_simp
    go_wp2_with fail
    refine (pastJoin_any _ 2 2 [px, py] _ HR2.out (by have h := HLxy.out; simp only [wt]; omega) (by omega)).mono ?_
    rintro e w' ⟨pp, rfl, pS, pN, pb, pq⟩
    exact hK _ _ ⟨v13x0, v13x1, _, PV pp, v13x4, v13x5, v13x6, v13x7, v13x8, v13x9, v13x10, v13x11, v13x12, v13x13, v13x14, v13x15, v13x16, v13x17, v13x18, v13x19, v13x20, v13x21, v13x22, v13x23, v13x24, v13x25, v13x26, v13x27, v13x28, v13x29, rfl, HT.out.call (Ph13_mono px py w y2) pb 3 (IsP (mOr (mP px.P) (mP py.P))) (by decide) HL.out (by simp) (by simp) pp pS pN (isP_join2 pq) (fun _ _ => trivial) (by simp) (by decide)⟩
  · have HL := hide hi4
    clear hi hi1 hi2 hi3 hi4
    have l1 := run_ldP (HXgx.out.below HT.out.b).at
    refine wpOp_step (o := { dst := some 66, op := Op.load 25 (Operand.tmp 6), type := 25, pos := "law.go:127", after := #[], guard := none }) rfl (fun K hK => ?_)
    go_simp
    exact hK _ _ ⟨v13x0, v13x1, v13x2, v13x3, PV px, v13x5, v13x6, v13x7, v13x8, v13x9, v13x10, v13x11, v13x12, v13x13, v13x14, v13x15, v13x16, v13x17, v13x18, v13x19, v13x20, v13x21, v13x22, v13x23, v13x24, v13x25, v13x26, v13x27, v13x28, v13x29, rfl, HT.out.plain (Ph13_mono px py w y2) (Below.refl _ _) 4 (by decide) HL.out _ rfl (by simp) (by simp) (by decide)⟩
  · have HL := hide hi4
    clear hi hi1 hi2 hi3 hi4
    have l1 := run_ldP (HXgy.out.below HT.out.b).at
    refine wpOp_step (o := { dst := some 67, op := Op.load 25 (Operand.tmp 7), type := 25, pos := "law.go:127", after := #[], guard := none }) rfl (fun K hK => ?_)
    go_simp
    exact hK _ _ ⟨v13x0, v13x1, v13x2, v13x3, v13x4, PV py, v13x6, v13x7, v13x8, v13x9, v13x10, v13x11, v13x12, v13x13, v13x14, v13x15, v13x16, v13x17, v13x18, v13x19, v13x20, v13x21, v13x22, v13x23, v13x24, v13x25, v13x26, v13x27, v13x28, v13x29, rfl, HT.out.plain (Ph13_mono px py w y2) (Below.refl _ _) 5 (by decide) HL.out _ rfl (by simp) (by simp) (by decide)⟩
  · have d4 := hi3 _ rfl { on := 4, ground := Ground.data } (by simp) rfl
    have d5 := hi3 _ rfl { on := 5, ground := Ground.data } (by simp) rfl
    have e4 : v13x4 = PV px := HT.out.h 4 (by decide) d4 (fun hm => absurd hm (by decide))
    subst e4
    have e5 : v13x5 = PV py := HT.out.h 5 (by decide) d5 (fun hm => absurd hm (by decide))
    subst e5
    have HL := hide hi4
    clear hi hi1 hi2 hi3 hi4 d4 d5
    refine wpOp_step (o := { dst := some 68, op := Op.buildSlice 30 2 #[(0, Operand.tmp 66), (1, Operand.tmp 67)], type := 30, pos := "law.go:127", after := #[{ on := 4, ground := Ground.data }, { on := 5, ground := Ground.data }], guard := none }) rfl (fun K hK => ?_)
    go_simp
    exact hK _ _ ⟨v13x0, v13x1, v13x2, v13x3, _, _, .slice (some ⟨W.heap.size, 0, none⟩) 2 2, v13x7, v13x8, v13x9, v13x10, v13x11, v13x12, v13x13, v13x14, v13x15, v13x16, v13x17, v13x18, v13x19, v13x20, v13x21, v13x22, v13x23, v13x24, v13x25, v13x26, v13x27, v13x28, v13x29, rfl, HT.out.plain (Ph13_mono px py w y2) (below_new _ _) 6 (by decide) HL.out _ ⟨_, rfl, prow_two W px py (HSx.out.below HT.out.b) (HSy.out.below HT.out.b)⟩ (by simp) (by simp) (by decide)⟩
  · have d6 := hi3 _ rfl { on := 6, ground := Ground.data } (by simp) rfl
    obtain ⟨g6, e6, R6⟩ : ∃ g, v13x6 = .slice (some ⟨g, 0, none⟩) 2 2 ∧ PRow W (some ⟨g, 0, none⟩) 2 [px, py] := HT.out.h 6 (by decide) d6 (fun hm => absurd hm (by decide))
    subst e6
    have HR6 := hide R6
    clear R6
    have HL := hide hi4
    clear hi hi1 hi2 hi3 hi4 d6
    refine wpOp_step (o := { dst := some 69, op := Op.call { callee := Callee.value (Operand.func 9), args := #[Operand.tmp 68], argTypes := #[30] }, type := 25, pos := "law.go:127", after := #[{ on := 6, ground := Ground.data }, { on := 3, ground := Ground.chain }], guard := none }) rfl (fun K hK => ?_)
    go_simp
    go_wp2_with fail
    refine (refJoin_any _ 2 2 [px, py] _ HR6.out (by have h := HLxy.out; simp only [wt]; omega) (by omega)).mono ?_
    rintro e w' ⟨pp, rfl, pS, pN, pb, pq⟩
    exact hK _ _ ⟨v13x0, v13x1, v13x2, v13x3, v13x4, v13x5, _, PV pp, v13x8, v13x9, v13x10, v13x11, v13x12, v13x13, v13x14, v13x15, v13x16, v13x17, v13x18, v13x19, v13x20, v13x21, v13x22, v13x23, v13x24, v13x25, v13x26, v13x27, v13x28, v13x29, rfl, HT.out.call (Ph13_mono px py w y2) pb 7 (IsP (mOr (mP px.P) (mP py.P))) (by decide) HL.out (by simp) (by simp) pp pS pN (isP_join2 pq) (fun _ _ => trivial) (by simp) (by decide)⟩
  · have d3 := hi3 _ rfl { on := 3, ground := Ground.data } (by simp) rfl
    have d7 := hi3 _ rfl { on := 7, ground := Ground.data } (by simp) rfl
    obtain ⟨p3, e3, S3, q3, -⟩ := HT.out.r (3, IsP (mOr (mP px.P) (mP py.P))) (by simp) d3
    have f3 : v13x3 = PV p3 := e3
    subst f3
    have HS3 := hide S3
    have HQ3 : Hid (IsP (mOr (mP px.P) (mP py.P)) p3.P) := q3
    clear e3 S3 q3
    obtain ⟨p7, e7, S7, q7, -⟩ := HT.out.r (7, IsP (mOr (mP px.P) (mP py.P))) (by simp) d7
    have f7 : v13x7 = PV p7 := e7
    subst f7
    have HS7 := hide S7
    have HQ7 : Hid (IsP (mOr (mP px.P) (mP py.P)) p7.P) := q7
    clear e7 S7 q7
    have HL := hide hi4
    clear hi hi1 hi2 hi3 hi4 d3 d7
    refine wpOp_step (o := { dst := some 70, op := Op.call { callee := Callee.value (Operand.func 7), args := #[Operand.tmp 65, Operand.tmp 69], argTypes := #[25, 25] }, type := 4, pos := "law.go:127", after := #[{ on := 3, ground := Ground.data }, { on := 7, ground := Ground.data }, { on := 7, ground := Ground.chain }], guard := none }) rfl (fun K hK => ?_)
    go_simp
    go_wp2_with fail
    refine (samePast_any p3 p7 _ HS3.out HS7.out).mono ?_
    rintro e w' ⟨bz, rfl, hx, pb⟩
    obtain rfl : bz = true := hx.2 (IsP.unique HQ3.out HQ7.out (fun _ _ _ => Iff.rfl))
    exact hK _ _ ⟨v13x0, v13x1, v13x2, _, v13x4, v13x5, v13x6, _, .bool true, v13x9, v13x10, v13x11, v13x12, v13x13, v13x14, v13x15, v13x16, v13x17, v13x18, v13x19, v13x20, v13x21, v13x22, v13x23, v13x24, v13x25, v13x26, v13x27, v13x28, v13x29, rfl, HT.out.plain (Ph13_mono px py w y2) pb 8 (by decide) HL.out _ rfl (by simp) (by simp) (by decide)⟩
  · have d8 := hi3 _ rfl { on := 8, ground := Ground.data } (by simp) rfl
    have e8 : v13x8 = .bool true := HT.out.h 8 (by decide) d8 (fun hm => absurd hm (by decide))
    subst e8
    have HL := hide hi4
    clear hi hi1 hi2 hi3 hi4 d8
    refine wpOp_step (o := { dst := some 71, op := Op.unOp UnOp.not 4 (Operand.tmp 70), type := 4, pos := "law.go:127", after := #[{ on := 8, ground := Ground.data }], guard := none }) rfl (fun K hK => ?_)
    go_simp
    exact hK _ _ ⟨v13x0, v13x1, v13x2, v13x3, v13x4, v13x5, v13x6, v13x7, _, .bool false, v13x10, v13x11, v13x12, v13x13, v13x14, v13x15, v13x16, v13x17, v13x18, v13x19, v13x20, v13x21, v13x22, v13x23, v13x24, v13x25, v13x26, v13x27, v13x28, v13x29, rfl, HT.out.plain (Ph13_mono px py w y2) (Below.refl _ _) 9 (by decide) HL.out _ rfl (by simp) (by simp) (by decide)⟩
  · have d9 := hi3 _ rfl { on := 9, ground := Ground.data } (by simp) rfl
    have e9 : v13x9 = .bool false := HT.out.h 9 (by decide) d9 (fun hm => absurd hm (by decide))
    subst e9
    have HL := hide hi4
    clear hi hi1 hi2 hi3 hi4 d9
    refine wpOp_step (o := { dst := some 72, op := Op.move (Operand.tmp 71), type := 4, pos := "law.go:127", after := #[{ on := 9, ground := Ground.data }, { on := 8, ground := Ground.chain }], guard := none }) rfl (fun K hK => ?_)
    go_simp
    exact hK _ _ ⟨v13x0, v13x1, v13x2, v13x3, v13x4, v13x5, v13x6, v13x7, v13x8, _, .bool false, v13x11, v13x12, v13x13, v13x14, v13x15, v13x16, v13x17, v13x18, v13x19, v13x20, v13x21, v13x22, v13x23, v13x24, v13x25, v13x26, v13x27, v13x28, v13x29, rfl, HT.out.plain (Ph13_mono px py w y2) (Below.refl _ _) 10 (by decide) HL.out _ rfl (by simp) (by simp) (by decide)⟩
  · have d10 := hi3 _ rfl { on := 10, ground := Ground.guard } (by simp) rfl
    have e10 : v13x10 = .bool false := HT.out.h 10 (by decide) d10 (fun hm => absurd hm (by decide))
    subst e10
    have HL := hide hi4
    clear hi hi1 hi2 hi3 hi4 d10
    have l1 := run_ldP (HXgx.out.below HT.out.b).at
    refine wpOp_step (o := { dst := some 73, op := Op.load 25 (Operand.tmp 6), type := 25, pos := "law.go:127", after := #[{ on := 10, ground := Ground.guard }], guard := some (10, false) }) rfl (fun K hK => ?_)
    go_simp
    exact hK _ _ ⟨v13x0, v13x1, v13x2, v13x3, v13x4, v13x5, v13x6, v13x7, v13x8, v13x9, _, PV px, v13x12, v13x13, v13x14, v13x15, v13x16, v13x17, v13x18, v13x19, v13x20, v13x21, v13x22, v13x23, v13x24, v13x25, v13x26, v13x27, v13x28, v13x29, rfl, HT.out.plain (Ph13_mono px py w y2) (Below.refl _ _) 11 (by decide) HL.out _ rfl (by simp) (by simp) (by decide)⟩
  · have d10 := hi3 _ rfl { on := 10, ground := Ground.guard } (by simp) rfl
    have e10 : v13x10 = .bool false := HT.out.h 10 (by decide) d10 (fun hm => absurd hm (by decide))
    subst e10
    have HL := hide hi4
    clear hi hi1 hi2 hi3 hi4 d10
    have l1 := run_ldP (HXgy.out.below HT.out.b).at
    refine wpOp_step (o := { dst := some 74, op := Op.load 25 (Operand.tmp 7), type := 25, pos := "law.go:127", after := #[{ on := 10, ground := Ground.guard }], guard := some (10, false) }) rfl (fun K hK => ?_)
    go_simp
    exact hK _ _ ⟨v13x0, v13x1, v13x2, v13x3, v13x4, v13x5, v13x6, v13x7, v13x8, v13x9, _, v13x11, PV py, v13x13, v13x14, v13x15, v13x16, v13x17, v13x18, v13x19, v13x20, v13x21, v13x22, v13x23, v13x24, v13x25, v13x26, v13x27, v13x28, v13x29, rfl, HT.out.plain (Ph13_mono px py w y2) (Below.refl _ _) 12 (by decide) HL.out _ rfl (by simp) (by simp) (by decide)⟩
  · have d11 := hi3 _ rfl { on := 11, ground := Ground.data } (by simp) rfl
    have d12 := hi3 _ rfl { on := 12, ground := Ground.data } (by simp) rfl
    have d10 := hi3 _ rfl { on := 10, ground := Ground.chain } (by simp) rfl
    have e11 : v13x11 = PV px := HT.out.h 11 (by decide) d11 (fun hm => absurd hm (by decide))
    subst e11
    have e12 : v13x12 = PV py := HT.out.h 12 (by decide) d12 (fun hm => absurd hm (by decide))
    subst e12
    have e10 : v13x10 = .bool false := HT.out.h 10 (by decide) d10 (fun hm => absurd hm (by decide))
    subst e10
    have HL := hide hi4
    clear hi hi1 hi2 hi3 hi4 d11 d12 d10
    refine wpOp_step (o := { dst := some 75, op := Op.call { callee := Callee.value (Operand.func 11), args := #[Operand.tmp 73, Operand.tmp 74], argTypes := #[25, 25] }, type := 25, pos := "law.go:127", after := #[{ on := 11, ground := Ground.data }, { on := 12, ground := Ground.data }, { on := 10, ground := Ground.chain }, { on := 10, ground := Ground.guard }], guard := some (10, false) }) rfl (fun K hK => ?_)
    go_simp
    go_wp2_with fail
    refine (pastMeet_any px py _ (HSx.out.below HT.out.b) (HSy.out.below HT.out.b)).mono ?_
    rintro e w' ⟨pp, rfl, pS, pN, pb, pq⟩
    exact hK _ _ ⟨v13x0, v13x1, v13x2, v13x3, v13x4, v13x5, v13x6, v13x7, v13x8, v13x9, _, _, _, PV pp, v13x14, v13x15, v13x16, v13x17, v13x18, v13x19, v13x20, v13x21, v13x22, v13x23, v13x24, v13x25, v13x26, v13x27, v13x28, v13x29, rfl, HT.out.call (Ph13_mono px py w y2) pb 13 (IsP (mAnd (mP px.P) (mP py.P))) (by decide) HL.out (by simp) (by simp) pp pS pN (isP_meet pq) (fun _ _ => trivial) (by simp) (by decide)⟩
  · have d10 := hi3 _ rfl { on := 10, ground := Ground.guard } (by simp) rfl
    have e10 : v13x10 = .bool false := HT.out.h 10 (by decide) d10 (fun hm => absurd hm (by decide))
    subst e10
    have HL := hide hi4
    clear hi hi1 hi2 hi3 hi4 d10
    have l1 := run_ldP (HXgx.out.below HT.out.b).at
    refine wpOp_step (o := { dst := some 76, op := Op.load 25 (Operand.tmp 6), type := 25, pos := "law.go:127", after := #[{ on := 10, ground := Ground.guard }], guard := some (10, false) }) rfl (fun K hK => ?_)
    go_simp
    exact hK _ _ ⟨v13x0, v13x1, v13x2, v13x3, v13x4, v13x5, v13x6, v13x7, v13x8, v13x9, _, v13x11, v13x12, v13x13, PV px, v13x15, v13x16, v13x17, v13x18, v13x19, v13x20, v13x21, v13x22, v13x23, v13x24, v13x25, v13x26, v13x27, v13x28, v13x29, rfl, HT.out.plain (Ph13_mono px py w y2) (Below.refl _ _) 14 (by decide) HL.out _ rfl (by simp) (by simp) (by decide)⟩
  · have d10 := hi3 _ rfl { on := 10, ground := Ground.guard } (by simp) rfl
    have e10 : v13x10 = .bool false := HT.out.h 10 (by decide) d10 (fun hm => absurd hm (by decide))
    subst e10
    have HL := hide hi4
    clear hi hi1 hi2 hi3 hi4 d10
    have l1 := run_ldP (HXgy.out.below HT.out.b).at
    refine wpOp_step (o := { dst := some 77, op := Op.load 25 (Operand.tmp 7), type := 25, pos := "law.go:127", after := #[{ on := 10, ground := Ground.guard }], guard := some (10, false) }) rfl (fun K hK => ?_)
    go_simp
    exact hK _ _ ⟨v13x0, v13x1, v13x2, v13x3, v13x4, v13x5, v13x6, v13x7, v13x8, v13x9, _, v13x11, v13x12, v13x13, v13x14, PV py, v13x16, v13x17, v13x18, v13x19, v13x20, v13x21, v13x22, v13x23, v13x24, v13x25, v13x26, v13x27, v13x28, v13x29, rfl, HT.out.plain (Ph13_mono px py w y2) (Below.refl _ _) 15 (by decide) HL.out _ rfl (by simp) (by simp) (by decide)⟩
  · have d14 := hi3 _ rfl { on := 14, ground := Ground.data } (by simp) rfl
    have d15 := hi3 _ rfl { on := 15, ground := Ground.data } (by simp) rfl
    have d10 := hi3 _ rfl { on := 10, ground := Ground.guard } (by simp) rfl
    have e14 : v13x14 = PV px := HT.out.h 14 (by decide) d14 (fun hm => absurd hm (by decide))
    subst e14
    have e15 : v13x15 = PV py := HT.out.h 15 (by decide) d15 (fun hm => absurd hm (by decide))
    subst e15
    have e10 : v13x10 = .bool false := HT.out.h 10 (by decide) d10 (fun hm => absurd hm (by decide))
    subst e10
    have HL := hide hi4
    clear hi hi1 hi2 hi3 hi4 d14 d15 d10
    refine wpOp_step (o := { dst := some 78, op := Op.call { callee := Callee.value (Operand.func 12), args := #[Operand.tmp 76, Operand.tmp 77], argTypes := #[25, 25] }, type := 25, pos := "law.go:127", after := #[{ on := 14, ground := Ground.data }, { on := 15, ground := Ground.data }, { on := 13, ground := Ground.chain }, { on := 10, ground := Ground.guard }], guard := some (10, false) }) rfl (fun K hK => ?_)
    go_simp
    go_wp2_with fail
    refine (refMeet_any px py _ (HSx.out.below HT.out.b) (HSy.out.below HT.out.b)).mono ?_
    rintro e w' ⟨pp, rfl, pS, pN, pb, pq⟩
    exact hK _ _ ⟨v13x0, v13x1, v13x2, v13x3, v13x4, v13x5, v13x6, v13x7, v13x8, v13x9, _, v13x11, v13x12, v13x13, _, _, PV pp, v13x17, v13x18, v13x19, v13x20, v13x21, v13x22, v13x23, v13x24, v13x25, v13x26, v13x27, v13x28, v13x29, rfl, HT.out.call (Ph13_mono px py w y2) pb 16 (IsP (mAnd (mP px.P) (mP py.P))) (by decide) HL.out (by simp) (by simp) pp pS pN (isP_meet pq) (fun _ _ => trivial) (by simp) (by decide)⟩
  · have d13 := hi3 _ rfl { on := 13, ground := Ground.data } (by simp) rfl
    have d16 := hi3 _ rfl { on := 16, ground := Ground.data } (by simp) rfl
    have d10 := hi3 _ rfl { on := 10, ground := Ground.guard } (by simp) rfl
    obtain ⟨p13, e13, S13, q13, -⟩ := HT.out.r (13, IsP (mAnd (mP px.P) (mP py.P))) (by simp) d13
    have f13 : v13x13 = PV p13 := e13
    subst f13
    have HS13 := hide S13
    have HQ13 : Hid (IsP (mAnd (mP px.P) (mP py.P)) p13.P) := q13
    clear e13 S13 q13
    obtain ⟨p16, e16, S16, q16, -⟩ := HT.out.r (16, IsP (mAnd (mP px.P) (mP py.P))) (by simp) d16
    have f16 : v13x16 = PV p16 := e16
    subst f16
    have HS16 := hide S16
    have HQ16 : Hid (IsP (mAnd (mP px.P) (mP py.P)) p16.P) := q16
    clear e16 S16 q16
    have e10 : v13x10 = .bool false := HT.out.h 10 (by decide) d10 (fun hm => absurd hm (by decide))
    subst e10
    have HL := hide hi4
    clear hi hi1 hi2 hi3 hi4 d13 d16 d10
    refine wpOp_step (o := { dst := some 79, op := Op.call { callee := Callee.value (Operand.func 7), args := #[Operand.tmp 75, Operand.tmp 78], argTypes := #[25, 25] }, type := 4, pos := "law.go:127", after := #[{ on := 13, ground := Ground.data }, { on := 16, ground := Ground.data }, { on := 16, ground := Ground.chain }, { on := 10, ground := Ground.guard }], guard := some (10, false) }) rfl (fun K hK => ?_)
    go_simp
    go_wp2_with fail
    refine (samePast_any p13 p16 _ HS13.out HS16.out).mono ?_
    rintro e w' ⟨bz, rfl, hx, pb⟩
    obtain rfl : bz = true := hx.2 (IsP.unique HQ13.out HQ16.out (fun _ _ _ => Iff.rfl))
    exact hK _ _ ⟨v13x0, v13x1, v13x2, v13x3, v13x4, v13x5, v13x6, v13x7, v13x8, v13x9, _, v13x11, v13x12, _, v13x14, v13x15, _, .bool true, v13x18, v13x19, v13x20, v13x21, v13x22, v13x23, v13x24, v13x25, v13x26, v13x27, v13x28, v13x29, rfl, HT.out.plain (Ph13_mono px py w y2) pb 17 (by decide) HL.out _ rfl (by simp) (by simp) (by decide)⟩
  · have d17 := hi3 _ rfl { on := 17, ground := Ground.data } (by simp) rfl
    have d10 := hi3 _ rfl { on := 10, ground := Ground.guard } (by simp) rfl
    have e17 : v13x17 = .bool true := HT.out.h 17 (by decide) d17 (fun hm => absurd hm (by decide))
    subst e17
    have e10 : v13x10 = .bool false := HT.out.h 10 (by decide) d10 (fun hm => absurd hm (by decide))
    subst e10
    have HL := hide hi4
    clear hi hi1 hi2 hi3 hi4 d17 d10
    refine wpOp_step (o := { dst := some 80, op := Op.unOp UnOp.not 4 (Operand.tmp 79), type := 4, pos := "law.go:127", after := #[{ on := 17, ground := Ground.data }, { on := 10, ground := Ground.guard }], guard := some (10, false) }) rfl (fun K hK => ?_)
    go_simp
    exact hK _ _ ⟨v13x0, v13x1, v13x2, v13x3, v13x4, v13x5, v13x6, v13x7, v13x8, v13x9, _, v13x11, v13x12, v13x13, v13x14, v13x15, v13x16, _, .bool false, v13x19, v13x20, v13x21, v13x22, v13x23, v13x24, v13x25, v13x26, v13x27, v13x28, v13x29, rfl, HT.out.plain (Ph13_mono px py w y2) (Below.refl _ _) 18 (by decide) HL.out _ rfl (by simp) (by simp) (by decide)⟩
  · have d10 := hi3 _ rfl { on := 10, ground := Ground.data } (by simp) rfl
    have d18 := hi3 _ rfl { on := 18, ground := Ground.data } (by simp) rfl
    have e10 : v13x10 = .bool false := HT.out.h 10 (by decide) d10 (fun hm => absurd hm (by decide))
    subst e10
    have e18 : v13x18 = .bool false := HT.out.h 18 (by decide) d18 (fun hm => absurd hm (by decide))
    subst e18
    have HL := hide hi4
    clear hi hi1 hi2 hi3 hi4 d10 d18
    refine wpOp_step (o := { dst := some 81, op := Op.pick (Operand.tmp 72) (Operand.const (Value.bool true)) (Operand.tmp 80), type := 4, pos := "law.go:127", after := #[{ on := 10, ground := Ground.data }, { on := 18, ground := Ground.data }], guard := none }) rfl (fun K hK => ?_)
    go_simp
    exact hK _ _ ⟨v13x0, v13x1, v13x2, v13x3, v13x4, v13x5, v13x6, v13x7, v13x8, v13x9, _, v13x11, v13x12, v13x13, v13x14, v13x15, v13x16, v13x17, _, .bool false, v13x20, v13x21, v13x22, v13x23, v13x24, v13x25, v13x26, v13x27, v13x28, v13x29, rfl, HT.out.plain (Ph13_mono px py w y2) (Below.refl _ _) 19 (by decide) HL.out _ rfl (by simp) (by simp) (by decide)⟩
  · have d19 := hi3 _ rfl { on := 19, ground := Ground.data } (by simp) rfl
    have e19 : v13x19 = .bool false := HT.out.h 19 (by decide) d19 (fun hm => absurd hm (by decide))
    subst e19
    have HL := hide hi4
    clear hi hi1 hi2 hi3 hi4 d19
    refine wpOp_step (o := { dst := some 82, op := Op.move (Operand.tmp 81), type := 4, pos := "law.go:127", after := #[{ on := 19, ground := Ground.data }, { on := 17, ground := Ground.chain }], guard := none }) rfl (fun K hK => ?_)
    go_simp
    exact hK _ _ ⟨v13x0, v13x1, v13x2, v13x3, v13x4, v13x5, v13x6, v13x7, v13x8, v13x9, v13x10, v13x11, v13x12, v13x13, v13x14, v13x15, v13x16, v13x17, v13x18, _, .bool false, v13x21, v13x22, v13x23, v13x24, v13x25, v13x26, v13x27, v13x28, v13x29, rfl, HT.out.plain (Ph13_mono px py w y2) (Below.refl _ _) 20 (by decide) HL.out _ rfl (by simp) (by simp) (by decide)⟩
  · have d20 := hi3 _ rfl { on := 20, ground := Ground.guard } (by simp) rfl
    have e20 : v13x20 = .bool false := HT.out.h 20 (by decide) d20 (fun hm => absurd hm (by decide))
    subst e20
    have HL := hide hi4
    clear hi hi1 hi2 hi3 hi4 d20
    have l1 := run_ldP (HXgx.out.below HT.out.b).at
    refine wpOp_step (o := { dst := some 83, op := Op.load 25 (Operand.tmp 6), type := 25, pos := "law.go:127", after := #[{ on := 20, ground := Ground.guard }], guard := some (20, false) }) rfl (fun K hK => ?_)
    go_simp
    exact hK _ _ ⟨v13x0, v13x1, v13x2, v13x3, v13x4, v13x5, v13x6, v13x7, v13x8, v13x9, v13x10, v13x11, v13x12, v13x13, v13x14, v13x15, v13x16, v13x17, v13x18, v13x19, _, PV px, v13x22, v13x23, v13x24, v13x25, v13x26, v13x27, v13x28, v13x29, rfl, HT.out.plain (Ph13_mono px py w y2) (Below.refl _ _) 21 (by decide) HL.out _ rfl (by simp) (by simp) (by decide)⟩
  · have d20 := hi3 _ rfl { on := 20, ground := Ground.guard } (by simp) rfl
    have e20 : v13x20 = .bool false := HT.out.h 20 (by decide) d20 (fun hm => absurd hm (by decide))
    subst e20
    have HL := hide hi4
    clear hi hi1 hi2 hi3 hi4 d20
    have l1 := run_ldP (HXgy.out.below HT.out.b).at
    refine wpOp_step (o := { dst := some 84, op := Op.load 25 (Operand.tmp 7), type := 25, pos := "law.go:127", after := #[{ on := 20, ground := Ground.guard }], guard := some (20, false) }) rfl (fun K hK => ?_)
    go_simp
    exact hK _ _ ⟨v13x0, v13x1, v13x2, v13x3, v13x4, v13x5, v13x6, v13x7, v13x8, v13x9, v13x10, v13x11, v13x12, v13x13, v13x14, v13x15, v13x16, v13x17, v13x18, v13x19, _, v13x21, PV py, v13x23, v13x24, v13x25, v13x26, v13x27, v13x28, v13x29, rfl, HT.out.plain (Ph13_mono px py w y2) (Below.refl _ _) 22 (by decide) HL.out _ rfl (by simp) (by simp) (by decide)⟩
  · have d21 := hi3 _ rfl { on := 21, ground := Ground.data } (by simp) rfl
    have d22 := hi3 _ rfl { on := 22, ground := Ground.data } (by simp) rfl
    have d20 := hi3 _ rfl { on := 20, ground := Ground.chain } (by simp) rfl
    have e21 : v13x21 = PV px := HT.out.h 21 (by decide) d21 (fun hm => absurd hm (by decide))
    subst e21
    have e22 : v13x22 = PV py := HT.out.h 22 (by decide) d22 (fun hm => absurd hm (by decide))
    subst e22
    have e20 : v13x20 = .bool false := HT.out.h 20 (by decide) d20 (fun hm => absurd hm (by decide))
    subst e20
    have HL := hide hi4
    clear hi hi1 hi2 hi3 hi4 d21 d22 d20
    refine wpOp_step (o := { dst := some 85, op := Op.call { callee := Callee.value (Operand.func 13), args := #[Operand.tmp 83, Operand.tmp 84], argTypes := #[25, 25] }, type := 25, pos := "law.go:127", after := #[{ on := 21, ground := Ground.data }, { on := 22, ground := Ground.data }, { on := 20, ground := Ground.chain }, { on := 20, ground := Ground.guard }], guard := some (20, false) }) rfl (fun K hK => ?_)
    go_simp
    go_wp2_with fail
    refine (pastMinus_any px py _ (HSx.out.below HT.out.b) (HSy.out.below HT.out.b)).mono ?_
    rintro e w' ⟨pp, rfl, pS, pN, pb, pq⟩
    exact hK _ _ ⟨v13x0, v13x1, v13x2, v13x3, v13x4, v13x5, v13x6, v13x7, v13x8, v13x9, v13x10, v13x11, v13x12, v13x13, v13x14, v13x15, v13x16, v13x17, v13x18, v13x19, _, _, _, PV pp, v13x24, v13x25, v13x26, v13x27, v13x28, v13x29, rfl, HT.out.call (Ph13_mono px py w y2) pb 23 (IsP (mNot (mP px.P) (mP py.P))) (by decide) HL.out (by simp) (by simp) pp pS pN (isP_minus pq) (fun _ _ => trivial) (by simp) (by decide)⟩
  · have d20 := hi3 _ rfl { on := 20, ground := Ground.guard } (by simp) rfl
    have e20 : v13x20 = .bool false := HT.out.h 20 (by decide) d20 (fun hm => absurd hm (by decide))
    subst e20
    have HL := hide hi4
    clear hi hi1 hi2 hi3 hi4 d20
    have l1 := run_ldP (HXgx.out.below HT.out.b).at
    refine wpOp_step (o := { dst := some 86, op := Op.load 25 (Operand.tmp 6), type := 25, pos := "law.go:127", after := #[{ on := 20, ground := Ground.guard }], guard := some (20, false) }) rfl (fun K hK => ?_)
    go_simp
    exact hK _ _ ⟨v13x0, v13x1, v13x2, v13x3, v13x4, v13x5, v13x6, v13x7, v13x8, v13x9, v13x10, v13x11, v13x12, v13x13, v13x14, v13x15, v13x16, v13x17, v13x18, v13x19, _, v13x21, v13x22, v13x23, PV px, v13x25, v13x26, v13x27, v13x28, v13x29, rfl, HT.out.plain (Ph13_mono px py w y2) (Below.refl _ _) 24 (by decide) HL.out _ rfl (by simp) (by simp) (by decide)⟩
  · have d20 := hi3 _ rfl { on := 20, ground := Ground.guard } (by simp) rfl
    have e20 : v13x20 = .bool false := HT.out.h 20 (by decide) d20 (fun hm => absurd hm (by decide))
    subst e20
    have HL := hide hi4
    clear hi hi1 hi2 hi3 hi4 d20
    have l1 := run_ldP (HXgy.out.below HT.out.b).at
    refine wpOp_step (o := { dst := some 87, op := Op.load 25 (Operand.tmp 7), type := 25, pos := "law.go:127", after := #[{ on := 20, ground := Ground.guard }], guard := some (20, false) }) rfl (fun K hK => ?_)
    go_simp
    exact hK _ _ ⟨v13x0, v13x1, v13x2, v13x3, v13x4, v13x5, v13x6, v13x7, v13x8, v13x9, v13x10, v13x11, v13x12, v13x13, v13x14, v13x15, v13x16, v13x17, v13x18, v13x19, _, v13x21, v13x22, v13x23, v13x24, PV py, v13x26, v13x27, v13x28, v13x29, rfl, HT.out.plain (Ph13_mono px py w y2) (Below.refl _ _) 25 (by decide) HL.out _ rfl (by simp) (by simp) (by decide)⟩
  · have d24 := hi3 _ rfl { on := 24, ground := Ground.data } (by simp) rfl
    have d25 := hi3 _ rfl { on := 25, ground := Ground.data } (by simp) rfl
    have d20 := hi3 _ rfl { on := 20, ground := Ground.guard } (by simp) rfl
    have e24 : v13x24 = PV px := HT.out.h 24 (by decide) d24 (fun hm => absurd hm (by decide))
    subst e24
    have e25 : v13x25 = PV py := HT.out.h 25 (by decide) d25 (fun hm => absurd hm (by decide))
    subst e25
    have e20 : v13x20 = .bool false := HT.out.h 20 (by decide) d20 (fun hm => absurd hm (by decide))
    subst e20
    have HL := hide hi4
    clear hi hi1 hi2 hi3 hi4 d24 d25 d20
    refine wpOp_step (o := { dst := some 88, op := Op.call { callee := Callee.value (Operand.func 14), args := #[Operand.tmp 86, Operand.tmp 87], argTypes := #[25, 25] }, type := 25, pos := "law.go:127", after := #[{ on := 24, ground := Ground.data }, { on := 25, ground := Ground.data }, { on := 23, ground := Ground.chain }, { on := 20, ground := Ground.guard }], guard := some (20, false) }) rfl (fun K hK => ?_)
    go_simp
    go_wp2_with fail
    refine (refMinus_any px py _ (HSx.out.below HT.out.b) (HSy.out.below HT.out.b)).mono ?_
    rintro e w' ⟨pp, rfl, pS, pN, pb, pq⟩
    exact hK _ _ ⟨v13x0, v13x1, v13x2, v13x3, v13x4, v13x5, v13x6, v13x7, v13x8, v13x9, v13x10, v13x11, v13x12, v13x13, v13x14, v13x15, v13x16, v13x17, v13x18, v13x19, _, v13x21, v13x22, v13x23, _, _, PV pp, v13x27, v13x28, v13x29, rfl, HT.out.call (Ph13_mono px py w y2) pb 26 (IsP (mNot (mP px.P) (mP py.P))) (by decide) HL.out (by simp) (by simp) pp pS pN (isP_minus pq) (fun _ _ => trivial) (by simp) (by decide)⟩
  · have d23 := hi3 _ rfl { on := 23, ground := Ground.data } (by simp) rfl
    have d26 := hi3 _ rfl { on := 26, ground := Ground.data } (by simp) rfl
    have d20 := hi3 _ rfl { on := 20, ground := Ground.guard } (by simp) rfl
    obtain ⟨p23, e23, S23, q23, -⟩ := HT.out.r (23, IsP (mNot (mP px.P) (mP py.P))) (by simp) d23
    have f23 : v13x23 = PV p23 := e23
    subst f23
    have HS23 := hide S23
    have HQ23 : Hid (IsP (mNot (mP px.P) (mP py.P)) p23.P) := q23
    clear e23 S23 q23
    obtain ⟨p26, e26, S26, q26, -⟩ := HT.out.r (26, IsP (mNot (mP px.P) (mP py.P))) (by simp) d26
    have f26 : v13x26 = PV p26 := e26
    subst f26
    have HS26 := hide S26
    have HQ26 : Hid (IsP (mNot (mP px.P) (mP py.P)) p26.P) := q26
    clear e26 S26 q26
    have e20 : v13x20 = .bool false := HT.out.h 20 (by decide) d20 (fun hm => absurd hm (by decide))
    subst e20
    have HL := hide hi4
    clear hi hi1 hi2 hi3 hi4 d23 d26 d20
    refine wpOp_step (o := { dst := some 89, op := Op.call { callee := Callee.value (Operand.func 7), args := #[Operand.tmp 85, Operand.tmp 88], argTypes := #[25, 25] }, type := 4, pos := "law.go:127", after := #[{ on := 23, ground := Ground.data }, { on := 26, ground := Ground.data }, { on := 26, ground := Ground.chain }, { on := 20, ground := Ground.guard }], guard := some (20, false) }) rfl (fun K hK => ?_)
    go_simp
    go_wp2_with fail
    refine (samePast_any p23 p26 _ HS23.out HS26.out).mono ?_
    rintro e w' ⟨bz, rfl, hx, pb⟩
    obtain rfl : bz = true := hx.2 (IsP.unique HQ23.out HQ26.out (fun _ _ _ => Iff.rfl))
    exact hK _ _ ⟨v13x0, v13x1, v13x2, v13x3, v13x4, v13x5, v13x6, v13x7, v13x8, v13x9, v13x10, v13x11, v13x12, v13x13, v13x14, v13x15, v13x16, v13x17, v13x18, v13x19, _, v13x21, v13x22, _, v13x24, v13x25, _, .bool true, v13x28, v13x29, rfl, HT.out.plain (Ph13_mono px py w y2) pb 27 (by decide) HL.out _ rfl (by simp) (by simp) (by decide)⟩
  · have d27 := hi3 _ rfl { on := 27, ground := Ground.data } (by simp) rfl
    have d20 := hi3 _ rfl { on := 20, ground := Ground.guard } (by simp) rfl
    have e27 : v13x27 = .bool true := HT.out.h 27 (by decide) d27 (fun hm => absurd hm (by decide))
    subst e27
    have e20 : v13x20 = .bool false := HT.out.h 20 (by decide) d20 (fun hm => absurd hm (by decide))
    subst e20
    have HL := hide hi4
    clear hi hi1 hi2 hi3 hi4 d27 d20
    refine wpOp_step (o := { dst := some 90, op := Op.unOp UnOp.not 4 (Operand.tmp 89), type := 4, pos := "law.go:127", after := #[{ on := 27, ground := Ground.data }, { on := 20, ground := Ground.guard }], guard := some (20, false) }) rfl (fun K hK => ?_)
    go_simp
    exact hK _ _ ⟨v13x0, v13x1, v13x2, v13x3, v13x4, v13x5, v13x6, v13x7, v13x8, v13x9, v13x10, v13x11, v13x12, v13x13, v13x14, v13x15, v13x16, v13x17, v13x18, v13x19, _, v13x21, v13x22, v13x23, v13x24, v13x25, v13x26, _, .bool false, v13x29, rfl, HT.out.plain (Ph13_mono px py w y2) (Below.refl _ _) 28 (by decide) HL.out _ rfl (by simp) (by simp) (by decide)⟩
  · have d20 := hi3 _ rfl { on := 20, ground := Ground.data } (by simp) rfl
    have d28 := hi3 _ rfl { on := 28, ground := Ground.data } (by simp) rfl
    have e20 : v13x20 = .bool false := HT.out.h 20 (by decide) d20 (fun hm => absurd hm (by decide))
    subst e20
    have e28 : v13x28 = .bool false := HT.out.h 28 (by decide) d28 (fun hm => absurd hm (by decide))
    subst e28
    have HL := hide hi4
    clear hi hi1 hi2 hi3 hi4 d20 d28
    refine wpOp_step (o := { dst := some 91, op := Op.pick (Operand.tmp 82) (Operand.const (Value.bool true)) (Operand.tmp 90), type := 4, pos := "law.go:127", after := #[{ on := 20, ground := Ground.data }, { on := 28, ground := Ground.data }], guard := none }) rfl (fun K hK => ?_)
    go_simp
    exact hK _ _ ⟨v13x0, v13x1, v13x2, v13x3, v13x4, v13x5, v13x6, v13x7, v13x8, v13x9, v13x10, v13x11, v13x12, v13x13, v13x14, v13x15, v13x16, v13x17, v13x18, v13x19, _, v13x21, v13x22, v13x23, v13x24, v13x25, v13x26, v13x27, _, .bool false, rfl, HT.out.plain (Ph13_mono px py w y2) (Below.refl _ _) 29 (by decide) HL.out _ rfl (by simp) (by simp) (by decide)⟩
end Go.Proofs.Ytiogmeaianogmaa
/- PastSets: the steps of a region that draws its order. -/
namespace Go.Proofs.Ytiogmeaianogmaa
open Go.RowKit
attribute [local go_sem ↓] ldP_eq stP_eq
attribute [local go_sem] zero_PC cells_PV fold_PC PC_size fold_PC1 fold_PC2 fold_PC3
def Ph15 (px py : Pv) (zw zv : Bool) (zc : Int) (_ : World) (_ : World) : Nat → Value → World → Prop
  | 0, x, _ => x = PV px
  | 1, x, _ => x = PV py
  | 2, x, _ => x = .bool zw
  | 3, x, _ => x = PV px
  | 4, x, _ => x = PV py
  | 5, x, _ => x = .bool zw
  | 6, x, _ => x = .bool false
  | 7, x, _ => x = .bool false
  | 8, x, _ => x = PV px
  | 9, x, _ => x = PV py
  | 10, x, _ => x = .int .i64 (ordv zw zv)
  | 11, x, _ => x = PV px
  | 12, x, _ => x = PV py
  | 13, x, _ => x = .int .i64 (ordv zw zv)
  | 14, x, _ => x = .bool false
  | 15, x, _ => x = .bool false
  | 16, x, _ => x = .bool false
  | 17, x, _ => x = PV px
  | 18, x, _ => x = PV py
  | 19, x, _ => x = .int .i64 zc
  | 20, x, _ => x = PV px
  | 21, x, _ => x = PV py
  | 22, x, _ => x = .int .i64 zc
  | 23, x, _ => x = .bool false
  | 24, x, _ => x = .bool false
  | _, _, _ => True
theorem Ph15_mono (px py : Pv) (zw zv : Bool) (zc : Int) (w : World) (W0 : World) : Mono (Ph15 px py zw zv zc w W0) := fun i _ _ _ h _ => match i with
  | 0 => h
  | 1 => h
  | 2 => h
  | 3 => h
  | 4 => h
  | 5 => h
  | 6 => h
  | 7 => h
  | 8 => h
  | 9 => h
  | 10 => h
  | 11 => h
  | 12 => h
  | 13 => h
  | 14 => h
  | 15 => h
  | 16 => h
  | 17 => h
  | 18 => h
  | 19 => h
  | 20 => h
  | 21 => h
  | 22 => h
  | 23 => h
  | 24 => h
  | _ + 25 => trivial
set_option maxRecDepth 100000 in
set_option maxHeartbeats 4000000 in
theorem st15 {a b c px py : Pv} {dv : Value} {rp ms : Int} {w y3 : World} {ad : Addr} {gx gy k1 k2 : Nat} {zw zv : Bool} {zc : Int} {u2 u47 u48 u49 u51 u52 u53 v13x2 v13x6 v4x21 v4x6 : Value} {p13_13 p13_16 p13_23 p13_26 p13_3 p13_7 p4_13 p4_22 p4_25 p4_7 p4_9 : Pv} (HSx : Hid (PSrc y3 px)) (HSy : Hid (PSrc y3 py)) (HXgx : Hid (PBox y3 gx px)) (HXgy : Hid (PBox y3 gy py)) (HZW : Hid (BIff zw (∀ r, r < 16 → ∀ n, mem (runsAt px.P r) n → mem (runsAt py.P r) n))) (HZV : Hid (BIff zv (∀ r, r < 16 → ∀ n, mem (runsAt py.P r) n → mem (runsAt px.P r) n))) (HZC : Hid (CmpOf px.P py.P zc)) {Q : Exit → Act → World → Prop} :
    ∀ (l : Array Bool) (x : Act) (W : World), (∃ v15x0 v15x1 v15x2 v15x3 v15x4 v15x5 v15x6 v15x7 v15x8 v15x9 v15x10 v15x11 v15x12 v15x13 v15x14 v15x15 v15x16 v15x17 v15x18 v15x19 v15x20 v15x21 v15x22 v15x23 v15x24, x = { tmps := #[CaseV a b c dv rp ms, ptr w.heap.size, u2, .slice (some ad) 3 3, .int .i64 k1, .int .i64 k2, ptr gx, ptr gy, .bool true, .bool false, .pointer (some ⟨w.heap.size, 0, none⟩), PV a, .pointer (some ⟨w.heap.size, 2, none⟩), PV b, .pointer (some ⟨w.heap.size, 4, none⟩), PV c, .slice (some ad) 3 3, .pointer (some ⟨w.heap.size, 0, none⟩), PV a, .pointer (some ⟨w.heap.size, 2, none⟩), PV b, .pointer (some ⟨w.heap.size, 4, none⟩), PV c, v4x6, PV p4_7, .slice (some ad) 3 3, PV p4_9, .bool true, .bool false, .bool false, PV p4_13, PV pv0, .bool true, .bool false, .bool false, .bool false, .pointer (some ⟨w.heap.size, 2, none⟩), PV b, v4x21, PV p4_22, .pointer (some ⟨w.heap.size, 2, none⟩), PV b, PV p4_25, .bool true, .bool false, .bool false, .int .i64 k1, u47, u48, u49, .int .i64 k2, u51, u52, u53, .slice (some ad) 3 3, .int .i64 k1, .pointer (some (ad.add (k1 * 2))), PV px, .slice (some ad) 3 3, .int .i64 k2, .pointer (some (ad.add (k2 * 2))), PV py, PV px, PV py, v13x2, PV p13_3, PV px, PV py, v13x6, PV p13_7, .bool true, .bool false, .bool false, PV px, PV py, PV p13_13, PV px, PV py, PV p13_16, .bool true, .bool false, .bool false, .bool false, PV px, PV py, PV p13_23, PV px, PV py, PV p13_26, .bool true, .bool false, .bool false, v15x0, v15x1, v15x2, v15x3, v15x4, v15x5, v15x6, v15x7, v15x8, v15x9, v15x10, v15x11, v15x12, v15x13, v15x14, v15x15, v15x16, v15x17, v15x18, v15x19, v15x20, v15x21, v15x22, v15x23, v15x24], defers := [] } ∧ BI 25 32 y3 (Ph15 px py zw zv zc w y3) [] [] [] l W [v15x0, v15x1, v15x2, v15x3, v15x4, v15x5, v15x6, v15x7, v15x8, v15x9, v15x10, v15x11, v15x12, v15x13, v15x14, v15x15, v15x16, v15x17, v15x18, v15x19, v15x20, v15x21, v15x22, v15x23, v15x24]) → ∀ i, i ∈ Region.ready .any #[{ dst := some 92, op := Op.load 25 (Operand.tmp 6), type := 25, pos := "law.go:130", after := #[], guard := none }, { dst := some 93, op := Op.load 25 (Operand.tmp 7), type := 25, pos := "law.go:130", after := #[], guard := none }, { dst := some 94, op := Op.call { callee := Callee.value (Operand.func 15), args := #[Operand.tmp 92, Operand.tmp 93], argTypes := #[25, 25] }, type := 4, pos := "law.go:130", after := #[{ on := 0, ground := Ground.data }, { on := 1, ground := Ground.data }], guard := none }, { dst := some 95, op := Op.load 25 (Operand.tmp 6), type := 25, pos := "law.go:130", after := #[], guard := none }, { dst := some 96, op := Op.load 25 (Operand.tmp 7), type := 25, pos := "law.go:130", after := #[], guard := none }, { dst := some 97, op := Op.call { callee := Callee.value (Operand.func 16), args := #[Operand.tmp 95, Operand.tmp 96], argTypes := #[25, 25] }, type := 4, pos := "law.go:130", after := #[{ on := 3, ground := Ground.data }, { on := 4, ground := Ground.data }, { on := 2, ground := Ground.chain }], guard := none }, { dst := some 98, op := Op.binOp BinOp.neq 4 (Operand.tmp 94) (Operand.tmp 97) 4, type := 4, pos := "law.go:130", after := #[{ on := 2, ground := Ground.data }, { on := 5, ground := Ground.data }], guard := none }, { dst := some 99, op := Op.move (Operand.tmp 98), type := 4, pos := "law.go:130", after := #[{ on := 6, ground := Ground.data }, { on := 5, ground := Ground.chain }], guard := none }, { dst := some 100, op := Op.load 25 (Operand.tmp 6), type := 25, pos := "law.go:130", after := #[{ on := 7, ground := Ground.guard }], guard := some (7, false) }, { dst := some 101, op := Op.load 25 (Operand.tmp 7), type := 25, pos := "law.go:130", after := #[{ on := 7, ground := Ground.guard }], guard := some (7, false) }, { dst := some 102, op := Op.call { callee := Callee.value (Operand.func 17), args := #[Operand.tmp 100, Operand.tmp 101], argTypes := #[25, 25] }, type := 3, pos := "law.go:130", after := #[{ on := 8, ground := Ground.data }, { on := 9, ground := Ground.data }, { on := 7, ground := Ground.chain }, { on := 7, ground := Ground.guard }], guard := some (7, false) }, { dst := some 103, op := Op.load 25 (Operand.tmp 6), type := 25, pos := "law.go:130", after := #[{ on := 7, ground := Ground.guard }], guard := some (7, false) }, { dst := some 104, op := Op.load 25 (Operand.tmp 7), type := 25, pos := "law.go:130", after := #[{ on := 7, ground := Ground.guard }], guard := some (7, false) }, { dst := some 105, op := Op.call { callee := Callee.value (Operand.func 18), args := #[Operand.tmp 103, Operand.tmp 104], argTypes := #[25, 25] }, type := 3, pos := "law.go:130", after := #[{ on := 11, ground := Ground.data }, { on := 12, ground := Ground.data }, { on := 10, ground := Ground.chain }, { on := 7, ground := Ground.guard }], guard := some (7, false) }, { dst := some 106, op := Op.binOp BinOp.neq 3 (Operand.tmp 102) (Operand.tmp 105) 3, type := 4, pos := "law.go:130", after := #[{ on := 10, ground := Ground.data }, { on := 13, ground := Ground.data }, { on := 7, ground := Ground.guard }], guard := some (7, false) }, { dst := some 107, op := Op.pick (Operand.tmp 99) (Operand.const (Value.bool true)) (Operand.tmp 106), type := 4, pos := "law.go:130", after := #[{ on := 7, ground := Ground.data }, { on := 14, ground := Ground.data }], guard := none }, { dst := some 108, op := Op.move (Operand.tmp 107), type := 4, pos := "law.go:130", after := #[{ on := 15, ground := Ground.data }, { on := 13, ground := Ground.chain }], guard := none }, { dst := some 109, op := Op.load 25 (Operand.tmp 6), type := 25, pos := "law.go:130", after := #[{ on := 16, ground := Ground.guard }], guard := some (16, false) }, { dst := some 110, op := Op.load 25 (Operand.tmp 7), type := 25, pos := "law.go:130", after := #[{ on := 16, ground := Ground.guard }], guard := some (16, false) }, { dst := some 111, op := Op.call { callee := Callee.value (Operand.func 19), args := #[Operand.tmp 109, Operand.tmp 110], argTypes := #[25, 25] }, type := 3, pos := "law.go:130", after := #[{ on := 17, ground := Ground.data }, { on := 18, ground := Ground.data }, { on := 16, ground := Ground.chain }, { on := 16, ground := Ground.guard }], guard := some (16, false) }, { dst := some 112, op := Op.load 25 (Operand.tmp 6), type := 25, pos := "law.go:130", after := #[{ on := 16, ground := Ground.guard }], guard := some (16, false) }, { dst := some 113, op := Op.load 25 (Operand.tmp 7), type := 25, pos := "law.go:130", after := #[{ on := 16, ground := Ground.guard }], guard := some (16, false) }, { dst := some 114, op := Op.call { callee := Callee.value (Operand.func 20), args := #[Operand.tmp 112, Operand.tmp 113], argTypes := #[25, 25] }, type := 3, pos := "law.go:130", after := #[{ on := 20, ground := Ground.data }, { on := 21, ground := Ground.data }, { on := 19, ground := Ground.chain }, { on := 16, ground := Ground.guard }], guard := some (16, false) }, { dst := some 115, op := Op.binOp BinOp.neq 3 (Operand.tmp 111) (Operand.tmp 114) 3, type := 4, pos := "law.go:130", after := #[{ on := 19, ground := Ground.data }, { on := 22, ground := Ground.data }, { on := 16, ground := Ground.guard }], guard := some (16, false) }, { dst := some 116, op := Op.pick (Operand.tmp 108) (Operand.const (Value.bool true)) (Operand.tmp 115), type := 4, pos := "law.go:130", after := #[{ on := 16, ground := Ground.data }, { on := 23, ground := Ground.data }], guard := none }] l → wpOp Try.prog #[{ dst := some 92, op := Op.load 25 (Operand.tmp 6), type := 25, pos := "law.go:130", after := #[], guard := none }, { dst := some 93, op := Op.load 25 (Operand.tmp 7), type := 25, pos := "law.go:130", after := #[], guard := none }, { dst := some 94, op := Op.call { callee := Callee.value (Operand.func 15), args := #[Operand.tmp 92, Operand.tmp 93], argTypes := #[25, 25] }, type := 4, pos := "law.go:130", after := #[{ on := 0, ground := Ground.data }, { on := 1, ground := Ground.data }], guard := none }, { dst := some 95, op := Op.load 25 (Operand.tmp 6), type := 25, pos := "law.go:130", after := #[], guard := none }, { dst := some 96, op := Op.load 25 (Operand.tmp 7), type := 25, pos := "law.go:130", after := #[], guard := none }, { dst := some 97, op := Op.call { callee := Callee.value (Operand.func 16), args := #[Operand.tmp 95, Operand.tmp 96], argTypes := #[25, 25] }, type := 4, pos := "law.go:130", after := #[{ on := 3, ground := Ground.data }, { on := 4, ground := Ground.data }, { on := 2, ground := Ground.chain }], guard := none }, { dst := some 98, op := Op.binOp BinOp.neq 4 (Operand.tmp 94) (Operand.tmp 97) 4, type := 4, pos := "law.go:130", after := #[{ on := 2, ground := Ground.data }, { on := 5, ground := Ground.data }], guard := none }, { dst := some 99, op := Op.move (Operand.tmp 98), type := 4, pos := "law.go:130", after := #[{ on := 6, ground := Ground.data }, { on := 5, ground := Ground.chain }], guard := none }, { dst := some 100, op := Op.load 25 (Operand.tmp 6), type := 25, pos := "law.go:130", after := #[{ on := 7, ground := Ground.guard }], guard := some (7, false) }, { dst := some 101, op := Op.load 25 (Operand.tmp 7), type := 25, pos := "law.go:130", after := #[{ on := 7, ground := Ground.guard }], guard := some (7, false) }, { dst := some 102, op := Op.call { callee := Callee.value (Operand.func 17), args := #[Operand.tmp 100, Operand.tmp 101], argTypes := #[25, 25] }, type := 3, pos := "law.go:130", after := #[{ on := 8, ground := Ground.data }, { on := 9, ground := Ground.data }, { on := 7, ground := Ground.chain }, { on := 7, ground := Ground.guard }], guard := some (7, false) }, { dst := some 103, op := Op.load 25 (Operand.tmp 6), type := 25, pos := "law.go:130", after := #[{ on := 7, ground := Ground.guard }], guard := some (7, false) }, { dst := some 104, op := Op.load 25 (Operand.tmp 7), type := 25, pos := "law.go:130", after := #[{ on := 7, ground := Ground.guard }], guard := some (7, false) }, { dst := some 105, op := Op.call { callee := Callee.value (Operand.func 18), args := #[Operand.tmp 103, Operand.tmp 104], argTypes := #[25, 25] }, type := 3, pos := "law.go:130", after := #[{ on := 11, ground := Ground.data }, { on := 12, ground := Ground.data }, { on := 10, ground := Ground.chain }, { on := 7, ground := Ground.guard }], guard := some (7, false) }, { dst := some 106, op := Op.binOp BinOp.neq 3 (Operand.tmp 102) (Operand.tmp 105) 3, type := 4, pos := "law.go:130", after := #[{ on := 10, ground := Ground.data }, { on := 13, ground := Ground.data }, { on := 7, ground := Ground.guard }], guard := some (7, false) }, { dst := some 107, op := Op.pick (Operand.tmp 99) (Operand.const (Value.bool true)) (Operand.tmp 106), type := 4, pos := "law.go:130", after := #[{ on := 7, ground := Ground.data }, { on := 14, ground := Ground.data }], guard := none }, { dst := some 108, op := Op.move (Operand.tmp 107), type := 4, pos := "law.go:130", after := #[{ on := 15, ground := Ground.data }, { on := 13, ground := Ground.chain }], guard := none }, { dst := some 109, op := Op.load 25 (Operand.tmp 6), type := 25, pos := "law.go:130", after := #[{ on := 16, ground := Ground.guard }], guard := some (16, false) }, { dst := some 110, op := Op.load 25 (Operand.tmp 7), type := 25, pos := "law.go:130", after := #[{ on := 16, ground := Ground.guard }], guard := some (16, false) }, { dst := some 111, op := Op.call { callee := Callee.value (Operand.func 19), args := #[Operand.tmp 109, Operand.tmp 110], argTypes := #[25, 25] }, type := 3, pos := "law.go:130", after := #[{ on := 17, ground := Ground.data }, { on := 18, ground := Ground.data }, { on := 16, ground := Ground.chain }, { on := 16, ground := Ground.guard }], guard := some (16, false) }, { dst := some 112, op := Op.load 25 (Operand.tmp 6), type := 25, pos := "law.go:130", after := #[{ on := 16, ground := Ground.guard }], guard := some (16, false) }, { dst := some 113, op := Op.load 25 (Operand.tmp 7), type := 25, pos := "law.go:130", after := #[{ on := 16, ground := Ground.guard }], guard := some (16, false) }, { dst := some 114, op := Op.call { callee := Callee.value (Operand.func 20), args := #[Operand.tmp 112, Operand.tmp 113], argTypes := #[25, 25] }, type := 3, pos := "law.go:130", after := #[{ on := 20, ground := Ground.data }, { on := 21, ground := Ground.data }, { on := 19, ground := Ground.chain }, { on := 16, ground := Ground.guard }], guard := some (16, false) }, { dst := some 115, op := Op.binOp BinOp.neq 3 (Operand.tmp 111) (Operand.tmp 114) 3, type := 4, pos := "law.go:130", after := #[{ on := 19, ground := Ground.data }, { on := 22, ground := Ground.data }, { on := 16, ground := Ground.guard }], guard := some (16, false) }, { dst := some 116, op := Op.pick (Operand.tmp 108) (Operand.const (Value.bool true)) (Operand.tmp 115), type := 4, pos := "law.go:130", after := #[{ on := 16, ground := Ground.data }, { on := 23, ground := Ground.data }], guard := none }] Q i (fun a' w' => ∃ v15x0 v15x1 v15x2 v15x3 v15x4 v15x5 v15x6 v15x7 v15x8 v15x9 v15x10 v15x11 v15x12 v15x13 v15x14 v15x15 v15x16 v15x17 v15x18 v15x19 v15x20 v15x21 v15x22 v15x23 v15x24, a' = { tmps := #[CaseV a b c dv rp ms, ptr w.heap.size, u2, .slice (some ad) 3 3, .int .i64 k1, .int .i64 k2, ptr gx, ptr gy, .bool true, .bool false, .pointer (some ⟨w.heap.size, 0, none⟩), PV a, .pointer (some ⟨w.heap.size, 2, none⟩), PV b, .pointer (some ⟨w.heap.size, 4, none⟩), PV c, .slice (some ad) 3 3, .pointer (some ⟨w.heap.size, 0, none⟩), PV a, .pointer (some ⟨w.heap.size, 2, none⟩), PV b, .pointer (some ⟨w.heap.size, 4, none⟩), PV c, v4x6, PV p4_7, .slice (some ad) 3 3, PV p4_9, .bool true, .bool false, .bool false, PV p4_13, PV pv0, .bool true, .bool false, .bool false, .bool false, .pointer (some ⟨w.heap.size, 2, none⟩), PV b, v4x21, PV p4_22, .pointer (some ⟨w.heap.size, 2, none⟩), PV b, PV p4_25, .bool true, .bool false, .bool false, .int .i64 k1, u47, u48, u49, .int .i64 k2, u51, u52, u53, .slice (some ad) 3 3, .int .i64 k1, .pointer (some (ad.add (k1 * 2))), PV px, .slice (some ad) 3 3, .int .i64 k2, .pointer (some (ad.add (k2 * 2))), PV py, PV px, PV py, v13x2, PV p13_3, PV px, PV py, v13x6, PV p13_7, .bool true, .bool false, .bool false, PV px, PV py, PV p13_13, PV px, PV py, PV p13_16, .bool true, .bool false, .bool false, .bool false, PV px, PV py, PV p13_23, PV px, PV py, PV p13_26, .bool true, .bool false, .bool false, v15x0, v15x1, v15x2, v15x3, v15x4, v15x5, v15x6, v15x7, v15x8, v15x9, v15x10, v15x11, v15x12, v15x13, v15x14, v15x15, v15x16, v15x17, v15x18, v15x19, v15x20, v15x21, v15x22, v15x23, v15x24], defers := [] } ∧ BI 25 32 y3 (Ph15 px py zw zv zc w y3) [] [] [] (l.setIfInBounds i true) w' [v15x0, v15x1, v15x2, v15x3, v15x4, v15x5, v15x6, v15x7, v15x8, v15x9, v15x10, v15x11, v15x12, v15x13, v15x14, v15x15, v15x16, v15x17, v15x18, v15x19, v15x20, v15x21, v15x22, v15x23, v15x24]) x W := by
  rintro l x W ⟨v15x0, v15x1, v15x2, v15x3, v15x4, v15x5, v15x6, v15x7, v15x8, v15x9, v15x10, v15x11, v15x12, v15x13, v15x14, v15x15, v15x16, v15x17, v15x18, v15x19, v15x20, v15x21, v15x22, v15x23, v15x24, rfl, T⟩ i hi
  obtain ⟨hi1, hi2, hi3⟩ := ready_mem hi
  have hi4 := no_true hi2
  have hc : i = 0 ∨ i = 1 ∨ i = 2 ∨ i = 3 ∨ i = 4 ∨ i = 5 ∨ i = 6 ∨ i = 7 ∨ i = 8 ∨ i = 9 ∨ i = 10 ∨ i = 11 ∨ i = 12 ∨ i = 13 ∨ i = 14 ∨ i = 15 ∨ i = 16 ∨ i = 17 ∨ i = 18 ∨ i = 19 ∨ i = 20 ∨ i = 21 ∨ i = 22 ∨ i = 23 ∨ i = 24 := by have h : i < 25 := hi1; omega
  have HT := hide T
  clear T
  rcases hc with rfl | rfl | rfl | rfl | rfl | rfl | rfl | rfl | rfl | rfl | rfl | rfl | rfl | rfl | rfl | rfl | rfl | rfl | rfl | rfl | rfl | rfl | rfl | rfl | rfl
  · have HL := hide hi4
    clear hi hi1 hi2 hi3 hi4
    have l1 := run_ldP (HXgx.out.below HT.out.b).at
    refine wpOp_step (o := { dst := some 92, op := Op.load 25 (Operand.tmp 6), type := 25, pos := "law.go:130", after := #[], guard := none }) rfl (fun K hK => ?_)
    go_simp
    exact hK _ _ ⟨PV px, v15x1, v15x2, v15x3, v15x4, v15x5, v15x6, v15x7, v15x8, v15x9, v15x10, v15x11, v15x12, v15x13, v15x14, v15x15, v15x16, v15x17, v15x18, v15x19, v15x20, v15x21, v15x22, v15x23, v15x24, rfl, HT.out.plain (Ph15_mono px py zw zv zc w y3) (Below.refl _ _) 0 (by decide) HL.out _ rfl (by simp) (by simp) (by decide)⟩
  · have HL := hide hi4
    clear hi hi1 hi2 hi3 hi4
    have l1 := run_ldP (HXgy.out.below HT.out.b).at
    refine wpOp_step (o := { dst := some 93, op := Op.load 25 (Operand.tmp 7), type := 25, pos := "law.go:130", after := #[], guard := none }) rfl (fun K hK => ?_)
    go_simp
    exact hK _ _ ⟨v15x0, PV py, v15x2, v15x3, v15x4, v15x5, v15x6, v15x7, v15x8, v15x9, v15x10, v15x11, v15x12, v15x13, v15x14, v15x15, v15x16, v15x17, v15x18, v15x19, v15x20, v15x21, v15x22, v15x23, v15x24, rfl, HT.out.plain (Ph15_mono px py zw zv zc w y3) (Below.refl _ _) 1 (by decide) HL.out _ rfl (by simp) (by simp) (by decide)⟩
  · have d0 := hi3 _ rfl { on := 0, ground := Ground.data } (by simp) rfl
    have d1 := hi3 _ rfl { on := 1, ground := Ground.data } (by simp) rfl
    have e0 : v15x0 = PV px := HT.out.h 0 (by decide) d0 (fun hm => absurd hm (by decide))
    subst e0
    have e1 : v15x1 = PV py := HT.out.h 1 (by decide) d1 (fun hm => absurd hm (by decide))
    subst e1
    have HL := hide hi4
    clear hi hi1 hi2 hi3 hi4 d0 d1
    refine wpOp_step (o := { dst := some 94, op := Op.call { callee := Callee.value (Operand.func 15), args := #[Operand.tmp 92, Operand.tmp 93], argTypes := #[25, 25] }, type := 4, pos := "law.go:130", after := #[{ on := 0, ground := Ground.data }, { on := 1, ground := Ground.data }], guard := none }) rfl (fun K hK => ?_)
    go_simp
    go_wp2_with fail
    refine (pastWithin_any px py _ (HSx.out.below HT.out.b) (HSy.out.below HT.out.b)).mono ?_
    rintro e w' ⟨z, rfl, hz, pb⟩
    obtain rfl : zw = z := (biff_eq hz HZW.out).symm
    exact hK _ _ ⟨_, _, .bool zw, v15x3, v15x4, v15x5, v15x6, v15x7, v15x8, v15x9, v15x10, v15x11, v15x12, v15x13, v15x14, v15x15, v15x16, v15x17, v15x18, v15x19, v15x20, v15x21, v15x22, v15x23, v15x24, rfl, HT.out.plain (Ph15_mono px py zw zv zc w y3) pb 2 (by decide) HL.out _ rfl (by simp) (by simp) (by decide)⟩
  · have HL := hide hi4
    clear hi hi1 hi2 hi3 hi4
    have l1 := run_ldP (HXgx.out.below HT.out.b).at
    refine wpOp_step (o := { dst := some 95, op := Op.load 25 (Operand.tmp 6), type := 25, pos := "law.go:130", after := #[], guard := none }) rfl (fun K hK => ?_)
    go_simp
    exact hK _ _ ⟨v15x0, v15x1, v15x2, PV px, v15x4, v15x5, v15x6, v15x7, v15x8, v15x9, v15x10, v15x11, v15x12, v15x13, v15x14, v15x15, v15x16, v15x17, v15x18, v15x19, v15x20, v15x21, v15x22, v15x23, v15x24, rfl, HT.out.plain (Ph15_mono px py zw zv zc w y3) (Below.refl _ _) 3 (by decide) HL.out _ rfl (by simp) (by simp) (by decide)⟩
  · have HL := hide hi4
    clear hi hi1 hi2 hi3 hi4
    have l1 := run_ldP (HXgy.out.below HT.out.b).at
    refine wpOp_step (o := { dst := some 96, op := Op.load 25 (Operand.tmp 7), type := 25, pos := "law.go:130", after := #[], guard := none }) rfl (fun K hK => ?_)
    go_simp
    exact hK _ _ ⟨v15x0, v15x1, v15x2, v15x3, PV py, v15x5, v15x6, v15x7, v15x8, v15x9, v15x10, v15x11, v15x12, v15x13, v15x14, v15x15, v15x16, v15x17, v15x18, v15x19, v15x20, v15x21, v15x22, v15x23, v15x24, rfl, HT.out.plain (Ph15_mono px py zw zv zc w y3) (Below.refl _ _) 4 (by decide) HL.out _ rfl (by simp) (by simp) (by decide)⟩
  · have d3 := hi3 _ rfl { on := 3, ground := Ground.data } (by simp) rfl
    have d4 := hi3 _ rfl { on := 4, ground := Ground.data } (by simp) rfl
    have e3 : v15x3 = PV px := HT.out.h 3 (by decide) d3 (fun hm => absurd hm (by decide))
    subst e3
    have e4 : v15x4 = PV py := HT.out.h 4 (by decide) d4 (fun hm => absurd hm (by decide))
    subst e4
    have HL := hide hi4
    clear hi hi1 hi2 hi3 hi4 d3 d4
    refine wpOp_step (o := { dst := some 97, op := Op.call { callee := Callee.value (Operand.func 16), args := #[Operand.tmp 95, Operand.tmp 96], argTypes := #[25, 25] }, type := 4, pos := "law.go:130", after := #[{ on := 3, ground := Ground.data }, { on := 4, ground := Ground.data }, { on := 2, ground := Ground.chain }], guard := none }) rfl (fun K hK => ?_)
    go_simp
    go_wp2_with fail
    refine (refWithin_any px py _ (HSx.out.below HT.out.b) (HSy.out.below HT.out.b)).mono ?_
    rintro e w' ⟨z, rfl, hz, pb⟩
    obtain rfl : zw = z := (biff_eq hz HZW.out).symm
    exact hK _ _ ⟨v15x0, v15x1, v15x2, _, _, .bool zw, v15x6, v15x7, v15x8, v15x9, v15x10, v15x11, v15x12, v15x13, v15x14, v15x15, v15x16, v15x17, v15x18, v15x19, v15x20, v15x21, v15x22, v15x23, v15x24, rfl, HT.out.plain (Ph15_mono px py zw zv zc w y3) pb 5 (by decide) HL.out _ rfl (by simp) (by simp) (by decide)⟩
  · have d2 := hi3 _ rfl { on := 2, ground := Ground.data } (by simp) rfl
    have d5 := hi3 _ rfl { on := 5, ground := Ground.data } (by simp) rfl
    have e2 : v15x2 = .bool zw := HT.out.h 2 (by decide) d2 (fun hm => absurd hm (by decide))
    subst e2
    have e5 : v15x5 = .bool zw := HT.out.h 5 (by decide) d5 (fun hm => absurd hm (by decide))
    subst e5
    have HL := hide hi4
    clear hi hi1 hi2 hi3 hi4 d2 d5
    refine wpOp_step (o := { dst := some 98, op := Op.binOp BinOp.neq 4 (Operand.tmp 94) (Operand.tmp 97) 4, type := 4, pos := "law.go:130", after := #[{ on := 2, ground := Ground.data }, { on := 5, ground := Ground.data }], guard := none }) rfl (fun K hK => ?_)
    go_simp
    exact hK _ _ ⟨v15x0, v15x1, _, v15x3, v15x4, _, .bool false, v15x7, v15x8, v15x9, v15x10, v15x11, v15x12, v15x13, v15x14, v15x15, v15x16, v15x17, v15x18, v15x19, v15x20, v15x21, v15x22, v15x23, v15x24, rfl, HT.out.plain (Ph15_mono px py zw zv zc w y3) (Below.refl _ _) 6 (by decide) HL.out _ rfl (by simp) (by simp) (by decide)⟩
  · have d6 := hi3 _ rfl { on := 6, ground := Ground.data } (by simp) rfl
    have e6 : v15x6 = .bool false := HT.out.h 6 (by decide) d6 (fun hm => absurd hm (by decide))
    subst e6
    have HL := hide hi4
    clear hi hi1 hi2 hi3 hi4 d6
    refine wpOp_step (o := { dst := some 99, op := Op.move (Operand.tmp 98), type := 4, pos := "law.go:130", after := #[{ on := 6, ground := Ground.data }, { on := 5, ground := Ground.chain }], guard := none }) rfl (fun K hK => ?_)
    go_simp
    exact hK _ _ ⟨v15x0, v15x1, v15x2, v15x3, v15x4, v15x5, _, .bool false, v15x8, v15x9, v15x10, v15x11, v15x12, v15x13, v15x14, v15x15, v15x16, v15x17, v15x18, v15x19, v15x20, v15x21, v15x22, v15x23, v15x24, rfl, HT.out.plain (Ph15_mono px py zw zv zc w y3) (Below.refl _ _) 7 (by decide) HL.out _ rfl (by simp) (by simp) (by decide)⟩
  · have d7 := hi3 _ rfl { on := 7, ground := Ground.guard } (by simp) rfl
    have e7 : v15x7 = .bool false := HT.out.h 7 (by decide) d7 (fun hm => absurd hm (by decide))
    subst e7
    have HL := hide hi4
    clear hi hi1 hi2 hi3 hi4 d7
    have l1 := run_ldP (HXgx.out.below HT.out.b).at
    refine wpOp_step (o := { dst := some 100, op := Op.load 25 (Operand.tmp 6), type := 25, pos := "law.go:130", after := #[{ on := 7, ground := Ground.guard }], guard := some (7, false) }) rfl (fun K hK => ?_)
    go_simp
    exact hK _ _ ⟨v15x0, v15x1, v15x2, v15x3, v15x4, v15x5, v15x6, _, PV px, v15x9, v15x10, v15x11, v15x12, v15x13, v15x14, v15x15, v15x16, v15x17, v15x18, v15x19, v15x20, v15x21, v15x22, v15x23, v15x24, rfl, HT.out.plain (Ph15_mono px py zw zv zc w y3) (Below.refl _ _) 8 (by decide) HL.out _ rfl (by simp) (by simp) (by decide)⟩
  · have d7 := hi3 _ rfl { on := 7, ground := Ground.guard } (by simp) rfl
    have e7 : v15x7 = .bool false := HT.out.h 7 (by decide) d7 (fun hm => absurd hm (by decide))
    subst e7
    have HL := hide hi4
    clear hi hi1 hi2 hi3 hi4 d7
    have l1 := run_ldP (HXgy.out.below HT.out.b).at
    refine wpOp_step (o := { dst := some 101, op := Op.load 25 (Operand.tmp 7), type := 25, pos := "law.go:130", after := #[{ on := 7, ground := Ground.guard }], guard := some (7, false) }) rfl (fun K hK => ?_)
    go_simp
    exact hK _ _ ⟨v15x0, v15x1, v15x2, v15x3, v15x4, v15x5, v15x6, _, v15x8, PV py, v15x10, v15x11, v15x12, v15x13, v15x14, v15x15, v15x16, v15x17, v15x18, v15x19, v15x20, v15x21, v15x22, v15x23, v15x24, rfl, HT.out.plain (Ph15_mono px py zw zv zc w y3) (Below.refl _ _) 9 (by decide) HL.out _ rfl (by simp) (by simp) (by decide)⟩
  · have d8 := hi3 _ rfl { on := 8, ground := Ground.data } (by simp) rfl
    have d9 := hi3 _ rfl { on := 9, ground := Ground.data } (by simp) rfl
    have d7 := hi3 _ rfl { on := 7, ground := Ground.chain } (by simp) rfl
    have e8 : v15x8 = PV px := HT.out.h 8 (by decide) d8 (fun hm => absurd hm (by decide))
    subst e8
    have e9 : v15x9 = PV py := HT.out.h 9 (by decide) d9 (fun hm => absurd hm (by decide))
    subst e9
    have e7 : v15x7 = .bool false := HT.out.h 7 (by decide) d7 (fun hm => absurd hm (by decide))
    subst e7
    have HL := hide hi4
    clear hi hi1 hi2 hi3 hi4 d8 d9 d7
    refine wpOp_step (o := { dst := some 102, op := Op.call { callee := Callee.value (Operand.func 17), args := #[Operand.tmp 100, Operand.tmp 101], argTypes := #[25, 25] }, type := 3, pos := "law.go:130", after := #[{ on := 8, ground := Ground.data }, { on := 9, ground := Ground.data }, { on := 7, ground := Ground.chain }, { on := 7, ground := Ground.guard }], guard := some (7, false) }) rfl (fun K hK => ?_)
    go_simp
    go_wp2_with fail
    refine (pastOrder_any px py _ (HSx.out.below HT.out.b) (HSy.out.below HT.out.b)).mono ?_
    rintro e w' ⟨z, z', rfl, hz, pb⟩
    obtain rfl : zw = z := (biff_eq hz.1 HZW.out).symm
    obtain rfl : zv = z' := (biff_eq hz.2 HZV.out).symm
    exact hK _ _ ⟨v15x0, v15x1, v15x2, v15x3, v15x4, v15x5, v15x6, _, _, _, .int .i64 (ordv zw zv), v15x11, v15x12, v15x13, v15x14, v15x15, v15x16, v15x17, v15x18, v15x19, v15x20, v15x21, v15x22, v15x23, v15x24, rfl, HT.out.plain (Ph15_mono px py zw zv zc w y3) pb 10 (by decide) HL.out _ rfl (by simp) (by simp) (by decide)⟩
  · have d7 := hi3 _ rfl { on := 7, ground := Ground.guard } (by simp) rfl
    have e7 : v15x7 = .bool false := HT.out.h 7 (by decide) d7 (fun hm => absurd hm (by decide))
    subst e7
    have HL := hide hi4
    clear hi hi1 hi2 hi3 hi4 d7
    have l1 := run_ldP (HXgx.out.below HT.out.b).at
    refine wpOp_step (o := { dst := some 103, op := Op.load 25 (Operand.tmp 6), type := 25, pos := "law.go:130", after := #[{ on := 7, ground := Ground.guard }], guard := some (7, false) }) rfl (fun K hK => ?_)
    go_simp
    exact hK _ _ ⟨v15x0, v15x1, v15x2, v15x3, v15x4, v15x5, v15x6, _, v15x8, v15x9, v15x10, PV px, v15x12, v15x13, v15x14, v15x15, v15x16, v15x17, v15x18, v15x19, v15x20, v15x21, v15x22, v15x23, v15x24, rfl, HT.out.plain (Ph15_mono px py zw zv zc w y3) (Below.refl _ _) 11 (by decide) HL.out _ rfl (by simp) (by simp) (by decide)⟩
  · have d7 := hi3 _ rfl { on := 7, ground := Ground.guard } (by simp) rfl
    have e7 : v15x7 = .bool false := HT.out.h 7 (by decide) d7 (fun hm => absurd hm (by decide))
    subst e7
    have HL := hide hi4
    clear hi hi1 hi2 hi3 hi4 d7
    have l1 := run_ldP (HXgy.out.below HT.out.b).at
    refine wpOp_step (o := { dst := some 104, op := Op.load 25 (Operand.tmp 7), type := 25, pos := "law.go:130", after := #[{ on := 7, ground := Ground.guard }], guard := some (7, false) }) rfl (fun K hK => ?_)
    go_simp
    exact hK _ _ ⟨v15x0, v15x1, v15x2, v15x3, v15x4, v15x5, v15x6, _, v15x8, v15x9, v15x10, v15x11, PV py, v15x13, v15x14, v15x15, v15x16, v15x17, v15x18, v15x19, v15x20, v15x21, v15x22, v15x23, v15x24, rfl, HT.out.plain (Ph15_mono px py zw zv zc w y3) (Below.refl _ _) 12 (by decide) HL.out _ rfl (by simp) (by simp) (by decide)⟩
  · have d11 := hi3 _ rfl { on := 11, ground := Ground.data } (by simp) rfl
    have d12 := hi3 _ rfl { on := 12, ground := Ground.data } (by simp) rfl
    have d7 := hi3 _ rfl { on := 7, ground := Ground.guard } (by simp) rfl
    have e11 : v15x11 = PV px := HT.out.h 11 (by decide) d11 (fun hm => absurd hm (by decide))
    subst e11
    have e12 : v15x12 = PV py := HT.out.h 12 (by decide) d12 (fun hm => absurd hm (by decide))
    subst e12
    have e7 : v15x7 = .bool false := HT.out.h 7 (by decide) d7 (fun hm => absurd hm (by decide))
    subst e7
    have HL := hide hi4
    clear hi hi1 hi2 hi3 hi4 d11 d12 d7
    refine wpOp_step (o := { dst := some 105, op := Op.call { callee := Callee.value (Operand.func 18), args := #[Operand.tmp 103, Operand.tmp 104], argTypes := #[25, 25] }, type := 3, pos := "law.go:130", after := #[{ on := 11, ground := Ground.data }, { on := 12, ground := Ground.data }, { on := 10, ground := Ground.chain }, { on := 7, ground := Ground.guard }], guard := some (7, false) }) rfl (fun K hK => ?_)
    go_simp
    go_wp2_with fail
    refine (refOrder_any px py _ (HSx.out.below HT.out.b) (HSy.out.below HT.out.b)).mono ?_
    rintro e w' ⟨z, z', rfl, hz, pb⟩
    obtain rfl : zw = z := (biff_eq hz.1 HZW.out).symm
    obtain rfl : zv = z' := (biff_eq hz.2 HZV.out).symm
    exact hK _ _ ⟨v15x0, v15x1, v15x2, v15x3, v15x4, v15x5, v15x6, _, v15x8, v15x9, v15x10, _, _, .int .i64 (ordv zw zv), v15x14, v15x15, v15x16, v15x17, v15x18, v15x19, v15x20, v15x21, v15x22, v15x23, v15x24, rfl, HT.out.plain (Ph15_mono px py zw zv zc w y3) pb 13 (by decide) HL.out _ rfl (by simp) (by simp) (by decide)⟩
  · have d10 := hi3 _ rfl { on := 10, ground := Ground.data } (by simp) rfl
    have d13 := hi3 _ rfl { on := 13, ground := Ground.data } (by simp) rfl
    have d7 := hi3 _ rfl { on := 7, ground := Ground.guard } (by simp) rfl
    have e10 : v15x10 = .int .i64 (ordv zw zv) := HT.out.h 10 (by decide) d10 (fun hm => absurd hm (by decide))
    subst e10
    have e13 : v15x13 = .int .i64 (ordv zw zv) := HT.out.h 13 (by decide) d13 (fun hm => absurd hm (by decide))
    subst e13
    have e7 : v15x7 = .bool false := HT.out.h 7 (by decide) d7 (fun hm => absurd hm (by decide))
    subst e7
    have HL := hide hi4
    clear hi hi1 hi2 hi3 hi4 d10 d13 d7
    refine wpOp_step (o := { dst := some 106, op := Op.binOp BinOp.neq 3 (Operand.tmp 102) (Operand.tmp 105) 3, type := 4, pos := "law.go:130", after := #[{ on := 10, ground := Ground.data }, { on := 13, ground := Ground.data }, { on := 7, ground := Ground.guard }], guard := some (7, false) }) rfl (fun K hK => ?_)
    go_simp
    exact hK _ _ ⟨v15x0, v15x1, v15x2, v15x3, v15x4, v15x5, v15x6, _, v15x8, v15x9, _, v15x11, v15x12, _, .bool false, v15x15, v15x16, v15x17, v15x18, v15x19, v15x20, v15x21, v15x22, v15x23, v15x24, rfl, HT.out.plain (Ph15_mono px py zw zv zc w y3) (Below.refl _ _) 14 (by decide) HL.out _ rfl (by simp) (by simp) (by decide)⟩
  · have d7 := hi3 _ rfl { on := 7, ground := Ground.data } (by simp) rfl
    have d14 := hi3 _ rfl { on := 14, ground := Ground.data } (by simp) rfl
    have e7 : v15x7 = .bool false := HT.out.h 7 (by decide) d7 (fun hm => absurd hm (by decide))
    subst e7
    have e14 : v15x14 = .bool false := HT.out.h 14 (by decide) d14 (fun hm => absurd hm (by decide))
    subst e14
    have HL := hide hi4
    clear hi hi1 hi2 hi3 hi4 d7 d14
    refine wpOp_step (o := { dst := some 107, op := Op.pick (Operand.tmp 99) (Operand.const (Value.bool true)) (Operand.tmp 106), type := 4, pos := "law.go:130", after := #[{ on := 7, ground := Ground.data }, { on := 14, ground := Ground.data }], guard := none }) rfl (fun K hK => ?_)
    go_simp
    exact hK _ _ ⟨v15x0, v15x1, v15x2, v15x3, v15x4, v15x5, v15x6, _, v15x8, v15x9, v15x10, v15x11, v15x12, v15x13, _, .bool false, v15x16, v15x17, v15x18, v15x19, v15x20, v15x21, v15x22, v15x23, v15x24, rfl, HT.out.plain (Ph15_mono px py zw zv zc w y3) (Below.refl _ _) 15 (by decide) HL.out _ rfl (by simp) (by simp) (by decide)⟩
  · have d15 := hi3 _ rfl { on := 15, ground := Ground.data } (by simp) rfl
    have e15 : v15x15 = .bool false := HT.out.h 15 (by decide) d15 (fun hm => absurd hm (by decide))
    subst e15
    have HL := hide hi4
    clear hi hi1 hi2 hi3 hi4 d15
    refine wpOp_step (o := { dst := some 108, op := Op.move (Operand.tmp 107), type := 4, pos := "law.go:130", after := #[{ on := 15, ground := Ground.data }, { on := 13, ground := Ground.chain }], guard := none }) rfl (fun K hK => ?_)
    go_simp
    exact hK _ _ ⟨v15x0, v15x1, v15x2, v15x3, v15x4, v15x5, v15x6, v15x7, v15x8, v15x9, v15x10, v15x11, v15x12, v15x13, v15x14, _, .bool false, v15x17, v15x18, v15x19, v15x20, v15x21, v15x22, v15x23, v15x24, rfl, HT.out.plain (Ph15_mono px py zw zv zc w y3) (Below.refl _ _) 16 (by decide) HL.out _ rfl (by simp) (by simp) (by decide)⟩
  · have d16 := hi3 _ rfl { on := 16, ground := Ground.guard } (by simp) rfl
    have e16 : v15x16 = .bool false := HT.out.h 16 (by decide) d16 (fun hm => absurd hm (by decide))
    subst e16
    have HL := hide hi4
    clear hi hi1 hi2 hi3 hi4 d16
    have l1 := run_ldP (HXgx.out.below HT.out.b).at
    refine wpOp_step (o := { dst := some 109, op := Op.load 25 (Operand.tmp 6), type := 25, pos := "law.go:130", after := #[{ on := 16, ground := Ground.guard }], guard := some (16, false) }) rfl (fun K hK => ?_)
    go_simp
    exact hK _ _ ⟨v15x0, v15x1, v15x2, v15x3, v15x4, v15x5, v15x6, v15x7, v15x8, v15x9, v15x10, v15x11, v15x12, v15x13, v15x14, v15x15, _, PV px, v15x18, v15x19, v15x20, v15x21, v15x22, v15x23, v15x24, rfl, HT.out.plain (Ph15_mono px py zw zv zc w y3) (Below.refl _ _) 17 (by decide) HL.out _ rfl (by simp) (by simp) (by decide)⟩
  · have d16 := hi3 _ rfl { on := 16, ground := Ground.guard } (by simp) rfl
    have e16 : v15x16 = .bool false := HT.out.h 16 (by decide) d16 (fun hm => absurd hm (by decide))
    subst e16
    have HL := hide hi4
    clear hi hi1 hi2 hi3 hi4 d16
    have l1 := run_ldP (HXgy.out.below HT.out.b).at
    refine wpOp_step (o := { dst := some 110, op := Op.load 25 (Operand.tmp 7), type := 25, pos := "law.go:130", after := #[{ on := 16, ground := Ground.guard }], guard := some (16, false) }) rfl (fun K hK => ?_)
    go_simp
    exact hK _ _ ⟨v15x0, v15x1, v15x2, v15x3, v15x4, v15x5, v15x6, v15x7, v15x8, v15x9, v15x10, v15x11, v15x12, v15x13, v15x14, v15x15, _, v15x17, PV py, v15x19, v15x20, v15x21, v15x22, v15x23, v15x24, rfl, HT.out.plain (Ph15_mono px py zw zv zc w y3) (Below.refl _ _) 18 (by decide) HL.out _ rfl (by simp) (by simp) (by decide)⟩
  · have d17 := hi3 _ rfl { on := 17, ground := Ground.data } (by simp) rfl
    have d18 := hi3 _ rfl { on := 18, ground := Ground.data } (by simp) rfl
    have d16 := hi3 _ rfl { on := 16, ground := Ground.chain } (by simp) rfl
    have e17 : v15x17 = PV px := HT.out.h 17 (by decide) d17 (fun hm => absurd hm (by decide))
    subst e17
    have e18 : v15x18 = PV py := HT.out.h 18 (by decide) d18 (fun hm => absurd hm (by decide))
    subst e18
    have e16 : v15x16 = .bool false := HT.out.h 16 (by decide) d16 (fun hm => absurd hm (by decide))
    subst e16
    have HL := hide hi4
    clear hi hi1 hi2 hi3 hi4 d17 d18 d16
    refine wpOp_step (o := { dst := some 111, op := Op.call { callee := Callee.value (Operand.func 19), args := #[Operand.tmp 109, Operand.tmp 110], argTypes := #[25, 25] }, type := 3, pos := "law.go:130", after := #[{ on := 17, ground := Ground.data }, { on := 18, ground := Ground.data }, { on := 16, ground := Ground.chain }, { on := 16, ground := Ground.guard }], guard := some (16, false) }) rfl (fun K hK => ?_)
    go_simp
    go_wp2_with fail
    refine (pastCompare_any px py _ (HSx.out.below HT.out.b) (HSy.out.below HT.out.b)).mono ?_
    rintro e w' ⟨z, rfl, hz, pb⟩
    obtain rfl : zc = z := (CmpOf.unique hz HZC.out).symm
    exact hK _ _ ⟨v15x0, v15x1, v15x2, v15x3, v15x4, v15x5, v15x6, v15x7, v15x8, v15x9, v15x10, v15x11, v15x12, v15x13, v15x14, v15x15, _, _, _, .int .i64 zc, v15x20, v15x21, v15x22, v15x23, v15x24, rfl, HT.out.plain (Ph15_mono px py zw zv zc w y3) pb 19 (by decide) HL.out _ rfl (by simp) (by simp) (by decide)⟩
  · have d16 := hi3 _ rfl { on := 16, ground := Ground.guard } (by simp) rfl
    have e16 : v15x16 = .bool false := HT.out.h 16 (by decide) d16 (fun hm => absurd hm (by decide))
    subst e16
    have HL := hide hi4
    clear hi hi1 hi2 hi3 hi4 d16
    have l1 := run_ldP (HXgx.out.below HT.out.b).at
    refine wpOp_step (o := { dst := some 112, op := Op.load 25 (Operand.tmp 6), type := 25, pos := "law.go:130", after := #[{ on := 16, ground := Ground.guard }], guard := some (16, false) }) rfl (fun K hK => ?_)
    go_simp
    exact hK _ _ ⟨v15x0, v15x1, v15x2, v15x3, v15x4, v15x5, v15x6, v15x7, v15x8, v15x9, v15x10, v15x11, v15x12, v15x13, v15x14, v15x15, _, v15x17, v15x18, v15x19, PV px, v15x21, v15x22, v15x23, v15x24, rfl, HT.out.plain (Ph15_mono px py zw zv zc w y3) (Below.refl _ _) 20 (by decide) HL.out _ rfl (by simp) (by simp) (by decide)⟩
  · have d16 := hi3 _ rfl { on := 16, ground := Ground.guard } (by simp) rfl
    have e16 : v15x16 = .bool false := HT.out.h 16 (by decide) d16 (fun hm => absurd hm (by decide))
    subst e16
    have HL := hide hi4
    clear hi hi1 hi2 hi3 hi4 d16
    have l1 := run_ldP (HXgy.out.below HT.out.b).at
    refine wpOp_step (o := { dst := some 113, op := Op.load 25 (Operand.tmp 7), type := 25, pos := "law.go:130", after := #[{ on := 16, ground := Ground.guard }], guard := some (16, false) }) rfl (fun K hK => ?_)
    go_simp
    exact hK _ _ ⟨v15x0, v15x1, v15x2, v15x3, v15x4, v15x5, v15x6, v15x7, v15x8, v15x9, v15x10, v15x11, v15x12, v15x13, v15x14, v15x15, _, v15x17, v15x18, v15x19, v15x20, PV py, v15x22, v15x23, v15x24, rfl, HT.out.plain (Ph15_mono px py zw zv zc w y3) (Below.refl _ _) 21 (by decide) HL.out _ rfl (by simp) (by simp) (by decide)⟩
  · have d20 := hi3 _ rfl { on := 20, ground := Ground.data } (by simp) rfl
    have d21 := hi3 _ rfl { on := 21, ground := Ground.data } (by simp) rfl
    have d16 := hi3 _ rfl { on := 16, ground := Ground.guard } (by simp) rfl
    have e20 : v15x20 = PV px := HT.out.h 20 (by decide) d20 (fun hm => absurd hm (by decide))
    subst e20
    have e21 : v15x21 = PV py := HT.out.h 21 (by decide) d21 (fun hm => absurd hm (by decide))
    subst e21
    have e16 : v15x16 = .bool false := HT.out.h 16 (by decide) d16 (fun hm => absurd hm (by decide))
    subst e16
    have HL := hide hi4
    clear hi hi1 hi2 hi3 hi4 d20 d21 d16
    refine wpOp_step (o := { dst := some 114, op := Op.call { callee := Callee.value (Operand.func 20), args := #[Operand.tmp 112, Operand.tmp 113], argTypes := #[25, 25] }, type := 3, pos := "law.go:130", after := #[{ on := 20, ground := Ground.data }, { on := 21, ground := Ground.data }, { on := 19, ground := Ground.chain }, { on := 16, ground := Ground.guard }], guard := some (16, false) }) rfl (fun K hK => ?_)
    go_simp
    go_wp2_with fail
    refine (refCompare_any px py _ (HSx.out.below HT.out.b) (HSy.out.below HT.out.b)).mono ?_
    rintro e w' ⟨z, rfl, hz, pb⟩
    obtain rfl : zc = z := (CmpOf.unique hz HZC.out).symm
    exact hK _ _ ⟨v15x0, v15x1, v15x2, v15x3, v15x4, v15x5, v15x6, v15x7, v15x8, v15x9, v15x10, v15x11, v15x12, v15x13, v15x14, v15x15, _, v15x17, v15x18, v15x19, _, _, .int .i64 zc, v15x23, v15x24, rfl, HT.out.plain (Ph15_mono px py zw zv zc w y3) pb 22 (by decide) HL.out _ rfl (by simp) (by simp) (by decide)⟩
  · have d19 := hi3 _ rfl { on := 19, ground := Ground.data } (by simp) rfl
    have d22 := hi3 _ rfl { on := 22, ground := Ground.data } (by simp) rfl
    have d16 := hi3 _ rfl { on := 16, ground := Ground.guard } (by simp) rfl
    have e19 : v15x19 = .int .i64 zc := HT.out.h 19 (by decide) d19 (fun hm => absurd hm (by decide))
    subst e19
    have e22 : v15x22 = .int .i64 zc := HT.out.h 22 (by decide) d22 (fun hm => absurd hm (by decide))
    subst e22
    have e16 : v15x16 = .bool false := HT.out.h 16 (by decide) d16 (fun hm => absurd hm (by decide))
    subst e16
    have HL := hide hi4
    clear hi hi1 hi2 hi3 hi4 d19 d22 d16
    refine wpOp_step (o := { dst := some 115, op := Op.binOp BinOp.neq 3 (Operand.tmp 111) (Operand.tmp 114) 3, type := 4, pos := "law.go:130", after := #[{ on := 19, ground := Ground.data }, { on := 22, ground := Ground.data }, { on := 16, ground := Ground.guard }], guard := some (16, false) }) rfl (fun K hK => ?_)
    go_simp
    exact hK _ _ ⟨v15x0, v15x1, v15x2, v15x3, v15x4, v15x5, v15x6, v15x7, v15x8, v15x9, v15x10, v15x11, v15x12, v15x13, v15x14, v15x15, _, v15x17, v15x18, _, v15x20, v15x21, _, .bool false, v15x24, rfl, HT.out.plain (Ph15_mono px py zw zv zc w y3) (Below.refl _ _) 23 (by decide) HL.out _ rfl (by simp) (by simp) (by decide)⟩
  · have d16 := hi3 _ rfl { on := 16, ground := Ground.data } (by simp) rfl
    have d23 := hi3 _ rfl { on := 23, ground := Ground.data } (by simp) rfl
    have e16 : v15x16 = .bool false := HT.out.h 16 (by decide) d16 (fun hm => absurd hm (by decide))
    subst e16
    have e23 : v15x23 = .bool false := HT.out.h 23 (by decide) d23 (fun hm => absurd hm (by decide))
    subst e23
    have HL := hide hi4
    clear hi hi1 hi2 hi3 hi4 d16 d23
    refine wpOp_step (o := { dst := some 116, op := Op.pick (Operand.tmp 108) (Operand.const (Value.bool true)) (Operand.tmp 115), type := 4, pos := "law.go:130", after := #[{ on := 16, ground := Ground.data }, { on := 23, ground := Ground.data }], guard := none }) rfl (fun K hK => ?_)
    go_simp
    exact hK _ _ ⟨v15x0, v15x1, v15x2, v15x3, v15x4, v15x5, v15x6, v15x7, v15x8, v15x9, v15x10, v15x11, v15x12, v15x13, v15x14, v15x15, _, v15x17, v15x18, v15x19, v15x20, v15x21, v15x22, _, .bool false, rfl, HT.out.plain (Ph15_mono px py zw zv zc w y3) (Below.refl _ _) 24 (by decide) HL.out _ rfl (by simp) (by simp) (by decide)⟩
end Go.Proofs.Ytiogmeaianogmaa
