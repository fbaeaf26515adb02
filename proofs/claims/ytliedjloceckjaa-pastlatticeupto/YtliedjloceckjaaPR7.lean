/- PastLattice: the steps of a region that draws its order. -/
import Derived.Test.YtliedjloceckjaaPLh
namespace Go.Proofs.Ytliedjloceckjaa
open Go.RowKit
attribute [local go_sem ↓] ldP_eq stP_eq
attribute [local go_sem] zero_PC cells_PV fold_PC PC_size fold_PC1 fold_PC2 fold_PC3
def Ph7 (a b c pj _ _ : Pv) (_ : World) (_ : World) : Nat → Value → World → Prop
  | 0, x, _ => x = PV pj
  | 1, x, _ => x = PV c
  | 2, x, W => ∃ g, x = .slice (some ⟨g, 0, none⟩) 2 2 ∧ PRow W (some ⟨g, 0, none⟩) 2 [pj, c]
  | 4, x, _ => x = PV a
  | 5, x, _ => x = PV b
  | 6, x, _ => x = PV c
  | 7, x, W => ∃ g, x = .slice (some ⟨g, 0, none⟩) 2 2 ∧ PRow W (some ⟨g, 0, none⟩) 2 [b, c]
  | 9, x, W => ∃ g q, x = .slice (some ⟨g, 0, none⟩) 2 2 ∧ PRow W (some ⟨g, 0, none⟩) 2 [a, q] ∧ IsP (mOr (mP b.P) (mP c.P)) q.P
  | 11, x, _ => x = .bool true
  | 12, x, _ => x = .bool false
  | 13, x, _ => x = .bool false
  | 14, x, _ => x = PV a
  | 15, x, _ => x = PV b
  | 16, x, _ => x = PV c
  | 17, x, W => ∃ g, x = .slice (some ⟨g, 0, none⟩) 3 3 ∧ PRow W (some ⟨g, 0, none⟩) 3 [a, b, c]
  | 19, x, _ => x = PV pj
  | 20, x, _ => x = PV c
  | 21, x, W => ∃ g, x = .slice (some ⟨g, 0, none⟩) 2 2 ∧ PRow W (some ⟨g, 0, none⟩) 2 [pj, c]
  | 23, x, _ => x = .bool true
  | 24, x, _ => x = .bool false
  | 25, x, _ => x = .bool false
  | _, _, _ => True
theorem Ph7_mono (a b c pj pm pd : Pv) (w : World) (W0 : World) : Mono (Ph7 a b c pj pm pd w W0) := fun i x W W' h hb => match i with
  | 0 => h
  | 1 => h
  | 2 => by obtain ⟨g, e, R⟩ := h; exact ⟨g, e, R.below hb⟩
  | 4 => h
  | 5 => h
  | 6 => h
  | 7 => by obtain ⟨g, e, R⟩ := h; exact ⟨g, e, R.below hb⟩
  | 9 => by obtain ⟨g, q, e, R, q0⟩ := h; exact ⟨g, q, e, R.below hb, q0⟩
  | 11 => h
  | 12 => h
  | 13 => h
  | 14 => h
  | 15 => h
  | 16 => h
  | 17 => by obtain ⟨g, e, R⟩ := h; exact ⟨g, e, R.below hb⟩
  | 19 => h
  | 20 => h
  | 21 => by obtain ⟨g, e, R⟩ := h; exact ⟨g, e, R.below hb⟩
  | 23 => h
  | 24 => h
  | 25 => h
  | 3 => trivial
  | 8 => trivial
  | 10 => trivial
  | 18 => trivial
  | 22 => trivial
  | _ + 26 => trivial
set_option maxRecDepth 100000 in
set_option maxHeartbeats 4000000 in
theorem st7 {a b c pj pm pd : Pv} {dv : Value} {rp ms : Int} {w y3 : World} {ga gb gc gj gm gd : Nat} {v4x2 v5x18 v5x3 : Value} {p5_11 p5_19 p5_21 p5_4 : Pv} (HA : Hid (PSrc y3 a)) (HB : Hid (PSrc y3 b)) (HC : Hid (PSrc y3 c)) (HSpj : Hid (PSrc y3 pj)) (HXga : Hid (PBox y3 ga a)) (HXgb : Hid (PBox y3 gb b)) (HXgc : Hid (PBox y3 gc c)) (HXgj : Hid (PBox y3 gj pj)) (HQpj : Hid (IsP (mOr (mP a.P) (mP b.P)) pj.P)) (HW : Hid (wt [a, b, c] ≤ 4000000000000)) {Q : Exit → Act → World → Prop} :
    ∀ (l : Array Bool) (x : Act) (W : World), (∃ v7x0 v7x1 v7x2 v7x3 v7x4 v7x5 v7x6 v7x7 v7x8 v7x9 v7x10 v7x11 v7x12 v7x13 v7x14 v7x15 v7x16 v7x17 v7x18 v7x19 v7x20 v7x21 v7x22 v7x23 v7x24 v7x25, x = { tmps := #[CaseV a b c dv rp ms, ptr w.heap.size, .bool false, ptr ga, ptr gb, ptr gc, ptr gj, ptr gm, ptr gd, undef, .bool true, .bool false, .pointer (some ⟨w.heap.size, 0, none⟩), PV a, .pointer (some ⟨w.heap.size, 2, none⟩), PV b, .pointer (some ⟨w.heap.size, 4, none⟩), PV c, PV a, PV b, v4x2, PV pj, PV a, PV b, PV pm, PV a, PV b, PV pd, PV pj, PV b, PV a, v5x3, PV p5_4, .bool true, .bool false, .bool false, PV pm, PV b, PV a, PV p5_11, .bool true, .bool false, .bool false, .bool false, PV a, PV a, v5x18, PV p5_19, PV a, PV p5_21, .bool true, .bool false, .bool false, v7x0, v7x1, v7x2, v7x3, v7x4, v7x5, v7x6, v7x7, v7x8, v7x9, v7x10, v7x11, v7x12, v7x13, v7x14, v7x15, v7x16, v7x17, v7x18, v7x19, v7x20, v7x21, v7x22, v7x23, v7x24, v7x25, undef, undef, undef, undef, undef, undef, undef, undef, undef, undef, undef, undef, undef, undef, undef, undef, undef, undef, undef, undef, undef, undef, undef, undef, undef, undef, undef, undef, undef, undef, undef, undef, undef, undef, undef, undef, undef, undef, undef, undef, undef, undef, undef, undef, undef, undef, undef, undef, undef, undef, undef, undef, undef, undef, undef, undef, undef, undef, undef, undef, undef, undef, undef, undef, undef, undef, undef, undef, undef, undef, undef, undef, undef, undef, undef, undef, undef, undef, undef, undef, undef, undef, undef, undef, undef, undef, undef, undef, undef, undef, undef, undef, undef, undef, undef, undef, undef, undef, undef, undef, undef, undef, undef, undef, undef, undef, undef], defers := [] } ∧ BI 26 33 y3 (Ph7 a b c pj pm pd w y3) [] [(3, IsP (mOr (mP a.P) (mOr (mP b.P) (mP c.P)))), (8, IsP (mOr (mP b.P) (mP c.P))), (10, IsP (mOr (mP a.P) (mOr (mP b.P) (mP c.P)))), (18, IsP (mOr (mP a.P) (mOr (mP b.P) (mP c.P)))), (22, IsP (mOr (mP a.P) (mOr (mP b.P) (mP c.P))))] [] l W [v7x0, v7x1, v7x2, v7x3, v7x4, v7x5, v7x6, v7x7, v7x8, v7x9, v7x10, v7x11, v7x12, v7x13, v7x14, v7x15, v7x16, v7x17, v7x18, v7x19, v7x20, v7x21, v7x22, v7x23, v7x24, v7x25]) → ∀ i, i ∈ Region.ready .any #[{ dst := some 53, op := Op.load 25 (Operand.tmp 6), type := 25, pos := "law.go:192", after := #[], guard := none }, { dst := some 54, op := Op.load 25 (Operand.tmp 5), type := 25, pos := "law.go:192", after := #[], guard := none }, { dst := some 55, op := Op.buildSlice 43 2 #[(0, Operand.tmp 53), (1, Operand.tmp 54)], type := 43, pos := "law.go:192", after := #[{ on := 0, ground := Ground.data }, { on := 1, ground := Ground.data }], guard := none }, { dst := some 56, op := Op.call { callee := Callee.value (Operand.func 5), args := #[Operand.tmp 55], argTypes := #[43] }, type := 25, pos := "law.go:192", after := #[{ on := 2, ground := Ground.data }], guard := none }, { dst := some 57, op := Op.load 25 (Operand.tmp 3), type := 25, pos := "law.go:192", after := #[], guard := none }, { dst := some 58, op := Op.load 25 (Operand.tmp 4), type := 25, pos := "law.go:192", after := #[], guard := none }, { dst := some 59, op := Op.load 25 (Operand.tmp 5), type := 25, pos := "law.go:192", after := #[], guard := none }, { dst := some 60, op := Op.buildSlice 43 2 #[(0, Operand.tmp 58), (1, Operand.tmp 59)], type := 43, pos := "law.go:192", after := #[{ on := 5, ground := Ground.data }, { on := 6, ground := Ground.data }], guard := none }, { dst := some 61, op := Op.call { callee := Callee.value (Operand.func 5), args := #[Operand.tmp 60], argTypes := #[43] }, type := 25, pos := "law.go:192", after := #[{ on := 7, ground := Ground.data }, { on := 3, ground := Ground.chain }], guard := none }, { dst := some 62, op := Op.buildSlice 43 2 #[(0, Operand.tmp 57), (1, Operand.tmp 61)], type := 43, pos := "law.go:192", after := #[{ on := 4, ground := Ground.data }, { on := 8, ground := Ground.data }], guard := none }, { dst := some 63, op := Op.call { callee := Callee.value (Operand.func 5), args := #[Operand.tmp 62], argTypes := #[43] }, type := 25, pos := "law.go:192", after := #[{ on := 9, ground := Ground.data }, { on := 8, ground := Ground.chain }], guard := none }, { dst := some 64, op := Op.call { callee := Callee.value (Operand.func 8), args := #[Operand.tmp 56, Operand.tmp 63], argTypes := #[25, 25] }, type := 4, pos := "law.go:192", after := #[{ on := 3, ground := Ground.data }, { on := 10, ground := Ground.data }, { on := 10, ground := Ground.chain }], guard := none }, { dst := some 65, op := Op.unOp UnOp.not 4 (Operand.tmp 64), type := 4, pos := "law.go:192", after := #[{ on := 11, ground := Ground.data }], guard := none }, { dst := some 66, op := Op.move (Operand.tmp 65), type := 4, pos := "law.go:192", after := #[{ on := 12, ground := Ground.data }, { on := 11, ground := Ground.chain }], guard := none }, { dst := some 67, op := Op.load 25 (Operand.tmp 3), type := 25, pos := "law.go:192", after := #[{ on := 13, ground := Ground.guard }], guard := some (13, false) }, { dst := some 68, op := Op.load 25 (Operand.tmp 4), type := 25, pos := "law.go:192", after := #[{ on := 13, ground := Ground.guard }], guard := some (13, false) }, { dst := some 69, op := Op.load 25 (Operand.tmp 5), type := 25, pos := "law.go:192", after := #[{ on := 13, ground := Ground.guard }], guard := some (13, false) }, { dst := some 70, op := Op.buildSlice 43 3 #[(0, Operand.tmp 67), (1, Operand.tmp 68), (2, Operand.tmp 69)], type := 43, pos := "law.go:192", after := #[{ on := 14, ground := Ground.data }, { on := 15, ground := Ground.data }, { on := 16, ground := Ground.data }, { on := 13, ground := Ground.guard }], guard := some (13, false) }, { dst := some 71, op := Op.call { callee := Callee.value (Operand.func 5), args := #[Operand.tmp 70], argTypes := #[43] }, type := 25, pos := "law.go:192", after := #[{ on := 17, ground := Ground.data }, { on := 13, ground := Ground.chain }, { on := 13, ground := Ground.guard }], guard := some (13, false) }, { dst := some 72, op := Op.load 25 (Operand.tmp 6), type := 25, pos := "law.go:192", after := #[{ on := 13, ground := Ground.guard }], guard := some (13, false) }, { dst := some 73, op := Op.load 25 (Operand.tmp 5), type := 25, pos := "law.go:192", after := #[{ on := 13, ground := Ground.guard }], guard := some (13, false) }, { dst := some 74, op := Op.buildSlice 43 2 #[(0, Operand.tmp 72), (1, Operand.tmp 73)], type := 43, pos := "law.go:192", after := #[{ on := 19, ground := Ground.data }, { on := 20, ground := Ground.data }, { on := 13, ground := Ground.guard }], guard := some (13, false) }, { dst := some 75, op := Op.call { callee := Callee.value (Operand.func 5), args := #[Operand.tmp 74], argTypes := #[43] }, type := 25, pos := "law.go:192", after := #[{ on := 21, ground := Ground.data }, { on := 18, ground := Ground.chain }, { on := 13, ground := Ground.guard }], guard := some (13, false) }, { dst := some 76, op := Op.call { callee := Callee.value (Operand.func 8), args := #[Operand.tmp 71, Operand.tmp 75], argTypes := #[25, 25] }, type := 4, pos := "law.go:192", after := #[{ on := 18, ground := Ground.data }, { on := 22, ground := Ground.data }, { on := 22, ground := Ground.chain }, { on := 13, ground := Ground.guard }], guard := some (13, false) }, { dst := some 77, op := Op.unOp UnOp.not 4 (Operand.tmp 76), type := 4, pos := "law.go:192", after := #[{ on := 23, ground := Ground.data }, { on := 13, ground := Ground.guard }], guard := some (13, false) }, { dst := some 78, op := Op.pick (Operand.tmp 66) (Operand.const (Value.bool true)) (Operand.tmp 77), type := 4, pos := "law.go:192", after := #[{ on := 13, ground := Ground.data }, { on := 24, ground := Ground.data }], guard := none }] l → wpOp Try.prog #[{ dst := some 53, op := Op.load 25 (Operand.tmp 6), type := 25, pos := "law.go:192", after := #[], guard := none }, { dst := some 54, op := Op.load 25 (Operand.tmp 5), type := 25, pos := "law.go:192", after := #[], guard := none }, { dst := some 55, op := Op.buildSlice 43 2 #[(0, Operand.tmp 53), (1, Operand.tmp 54)], type := 43, pos := "law.go:192", after := #[{ on := 0, ground := Ground.data }, { on := 1, ground := Ground.data }], guard := none }, { dst := some 56, op := Op.call { callee := Callee.value (Operand.func 5), args := #[Operand.tmp 55], argTypes := #[43] }, type := 25, pos := "law.go:192", after := #[{ on := 2, ground := Ground.data }], guard := none }, { dst := some 57, op := Op.load 25 (Operand.tmp 3), type := 25, pos := "law.go:192", after := #[], guard := none }, { dst := some 58, op := Op.load 25 (Operand.tmp 4), type := 25, pos := "law.go:192", after := #[], guard := none }, { dst := some 59, op := Op.load 25 (Operand.tmp 5), type := 25, pos := "law.go:192", after := #[], guard := none }, { dst := some 60, op := Op.buildSlice 43 2 #[(0, Operand.tmp 58), (1, Operand.tmp 59)], type := 43, pos := "law.go:192", after := #[{ on := 5, ground := Ground.data }, { on := 6, ground := Ground.data }], guard := none }, { dst := some 61, op := Op.call { callee := Callee.value (Operand.func 5), args := #[Operand.tmp 60], argTypes := #[43] }, type := 25, pos := "law.go:192", after := #[{ on := 7, ground := Ground.data }, { on := 3, ground := Ground.chain }], guard := none }, { dst := some 62, op := Op.buildSlice 43 2 #[(0, Operand.tmp 57), (1, Operand.tmp 61)], type := 43, pos := "law.go:192", after := #[{ on := 4, ground := Ground.data }, { on := 8, ground := Ground.data }], guard := none }, { dst := some 63, op := Op.call { callee := Callee.value (Operand.func 5), args := #[Operand.tmp 62], argTypes := #[43] }, type := 25, pos := "law.go:192", after := #[{ on := 9, ground := Ground.data }, { on := 8, ground := Ground.chain }], guard := none }, { dst := some 64, op := Op.call { callee := Callee.value (Operand.func 8), args := #[Operand.tmp 56, Operand.tmp 63], argTypes := #[25, 25] }, type := 4, pos := "law.go:192", after := #[{ on := 3, ground := Ground.data }, { on := 10, ground := Ground.data }, { on := 10, ground := Ground.chain }], guard := none }, { dst := some 65, op := Op.unOp UnOp.not 4 (Operand.tmp 64), type := 4, pos := "law.go:192", after := #[{ on := 11, ground := Ground.data }], guard := none }, { dst := some 66, op := Op.move (Operand.tmp 65), type := 4, pos := "law.go:192", after := #[{ on := 12, ground := Ground.data }, { on := 11, ground := Ground.chain }], guard := none }, { dst := some 67, op := Op.load 25 (Operand.tmp 3), type := 25, pos := "law.go:192", after := #[{ on := 13, ground := Ground.guard }], guard := some (13, false) }, { dst := some 68, op := Op.load 25 (Operand.tmp 4), type := 25, pos := "law.go:192", after := #[{ on := 13, ground := Ground.guard }], guard := some (13, false) }, { dst := some 69, op := Op.load 25 (Operand.tmp 5), type := 25, pos := "law.go:192", after := #[{ on := 13, ground := Ground.guard }], guard := some (13, false) }, { dst := some 70, op := Op.buildSlice 43 3 #[(0, Operand.tmp 67), (1, Operand.tmp 68), (2, Operand.tmp 69)], type := 43, pos := "law.go:192", after := #[{ on := 14, ground := Ground.data }, { on := 15, ground := Ground.data }, { on := 16, ground := Ground.data }, { on := 13, ground := Ground.guard }], guard := some (13, false) }, { dst := some 71, op := Op.call { callee := Callee.value (Operand.func 5), args := #[Operand.tmp 70], argTypes := #[43] }, type := 25, pos := "law.go:192", after := #[{ on := 17, ground := Ground.data }, { on := 13, ground := Ground.chain }, { on := 13, ground := Ground.guard }], guard := some (13, false) }, { dst := some 72, op := Op.load 25 (Operand.tmp 6), type := 25, pos := "law.go:192", after := #[{ on := 13, ground := Ground.guard }], guard := some (13, false) }, { dst := some 73, op := Op.load 25 (Operand.tmp 5), type := 25, pos := "law.go:192", after := #[{ on := 13, ground := Ground.guard }], guard := some (13, false) }, { dst := some 74, op := Op.buildSlice 43 2 #[(0, Operand.tmp 72), (1, Operand.tmp 73)], type := 43, pos := "law.go:192", after := #[{ on := 19, ground := Ground.data }, { on := 20, ground := Ground.data }, { on := 13, ground := Ground.guard }], guard := some (13, false) }, { dst := some 75, op := Op.call { callee := Callee.value (Operand.func 5), args := #[Operand.tmp 74], argTypes := #[43] }, type := 25, pos := "law.go:192", after := #[{ on := 21, ground := Ground.data }, { on := 18, ground := Ground.chain }, { on := 13, ground := Ground.guard }], guard := some (13, false) }, { dst := some 76, op := Op.call { callee := Callee.value (Operand.func 8), args := #[Operand.tmp 71, Operand.tmp 75], argTypes := #[25, 25] }, type := 4, pos := "law.go:192", after := #[{ on := 18, ground := Ground.data }, { on := 22, ground := Ground.data }, { on := 22, ground := Ground.chain }, { on := 13, ground := Ground.guard }], guard := some (13, false) }, { dst := some 77, op := Op.unOp UnOp.not 4 (Operand.tmp 76), type := 4, pos := "law.go:192", after := #[{ on := 23, ground := Ground.data }, { on := 13, ground := Ground.guard }], guard := some (13, false) }, { dst := some 78, op := Op.pick (Operand.tmp 66) (Operand.const (Value.bool true)) (Operand.tmp 77), type := 4, pos := "law.go:192", after := #[{ on := 13, ground := Ground.data }, { on := 24, ground := Ground.data }], guard := none }] Q i (fun a' w' => ∃ v7x0 v7x1 v7x2 v7x3 v7x4 v7x5 v7x6 v7x7 v7x8 v7x9 v7x10 v7x11 v7x12 v7x13 v7x14 v7x15 v7x16 v7x17 v7x18 v7x19 v7x20 v7x21 v7x22 v7x23 v7x24 v7x25, a' = { tmps := #[CaseV a b c dv rp ms, ptr w.heap.size, .bool false, ptr ga, ptr gb, ptr gc, ptr gj, ptr gm, ptr gd, undef, .bool true, .bool false, .pointer (some ⟨w.heap.size, 0, none⟩), PV a, .pointer (some ⟨w.heap.size, 2, none⟩), PV b, .pointer (some ⟨w.heap.size, 4, none⟩), PV c, PV a, PV b, v4x2, PV pj, PV a, PV b, PV pm, PV a, PV b, PV pd, PV pj, PV b, PV a, v5x3, PV p5_4, .bool true, .bool false, .bool false, PV pm, PV b, PV a, PV p5_11, .bool true, .bool false, .bool false, .bool false, PV a, PV a, v5x18, PV p5_19, PV a, PV p5_21, .bool true, .bool false, .bool false, v7x0, v7x1, v7x2, v7x3, v7x4, v7x5, v7x6, v7x7, v7x8, v7x9, v7x10, v7x11, v7x12, v7x13, v7x14, v7x15, v7x16, v7x17, v7x18, v7x19, v7x20, v7x21, v7x22, v7x23, v7x24, v7x25, undef, undef, undef, undef, undef, undef, undef, undef, undef, undef, undef, undef, undef, undef, undef, undef, undef, undef, undef, undef, undef, undef, undef, undef, undef, undef, undef, undef, undef, undef, undef, undef, undef, undef, undef, undef, undef, undef, undef, undef, undef, undef, undef, undef, undef, undef, undef, undef, undef, undef, undef, undef, undef, undef, undef, undef, undef, undef, undef, undef, undef, undef, undef, undef, undef, undef, undef, undef, undef, undef, undef, undef, undef, undef, undef, undef, undef, undef, undef, undef, undef, undef, undef, undef, undef, undef, undef, undef, undef, undef, undef, undef, undef, undef, undef, undef, undef, undef, undef, undef, undef, undef, undef, undef, undef, undef, undef], defers := [] } ∧ BI 26 33 y3 (Ph7 a b c pj pm pd w y3) [] [(3, IsP (mOr (mP a.P) (mOr (mP b.P) (mP c.P)))), (8, IsP (mOr (mP b.P) (mP c.P))), (10, IsP (mOr (mP a.P) (mOr (mP b.P) (mP c.P)))), (18, IsP (mOr (mP a.P) (mOr (mP b.P) (mP c.P)))), (22, IsP (mOr (mP a.P) (mOr (mP b.P) (mP c.P))))] [] (l.setIfInBounds i true) w' [v7x0, v7x1, v7x2, v7x3, v7x4, v7x5, v7x6, v7x7, v7x8, v7x9, v7x10, v7x11, v7x12, v7x13, v7x14, v7x15, v7x16, v7x17, v7x18, v7x19, v7x20, v7x21, v7x22, v7x23, v7x24, v7x25]) x W := by
  rintro l x W ⟨v7x0, v7x1, v7x2, v7x3, v7x4, v7x5, v7x6, v7x7, v7x8, v7x9, v7x10, v7x11, v7x12, v7x13, v7x14, v7x15, v7x16, v7x17, v7x18, v7x19, v7x20, v7x21, v7x22, v7x23, v7x24, v7x25, rfl, T⟩ i hi
  obtain ⟨hi1, hi2, hi3⟩ := ready_mem hi
  have hi4 := no_true hi2
  have hc : i = 0 ∨ i = 1 ∨ i = 2 ∨ i = 3 ∨ i = 4 ∨ i = 5 ∨ i = 6 ∨ i = 7 ∨ i = 8 ∨ i = 9 ∨ i = 10 ∨ i = 11 ∨ i = 12 ∨ i = 13 ∨ i = 14 ∨ i = 15 ∨ i = 16 ∨ i = 17 ∨ i = 18 ∨ i = 19 ∨ i = 20 ∨ i = 21 ∨ i = 22 ∨ i = 23 ∨ i = 24 ∨ i = 25 := by have h : i < 26 := hi1; omega
  have HT := hide T
  clear T
  rcases hc with rfl | rfl | rfl | rfl | rfl | rfl | rfl | rfl | rfl | rfl | rfl | rfl | rfl | rfl | rfl | rfl | rfl | rfl | rfl | rfl | rfl | rfl | rfl | rfl | rfl | rfl
  · have HL := hide hi4
    clear hi hi1 hi2 hi3 hi4
    have l1 := run_ldP (HXgj.out.below HT.out.b).at
    refine wpOp_step (o := { dst := some 53, op := Op.load 25 (Operand.tmp 6), type := 25, pos := "law.go:192", after := #[], guard := none }) rfl (fun K hK => ?_)
    go_simp
    exact hK _ _ ⟨PV pj, v7x1, v7x2, v7x3, v7x4, v7x5, v7x6, v7x7, v7x8, v7x9, v7x10, v7x11, v7x12, v7x13, v7x14, v7x15, v7x16, v7x17, v7x18, v7x19, v7x20, v7x21, v7x22, v7x23, v7x24, v7x25, rfl, HT.out.plain (Ph7_mono a b c pj pm pd w y3) (Below.refl _ _) 0 (by decide) HL.out _ rfl (by simp) (by simp) (by decide)⟩
  · have HL := hide hi4
    clear hi hi1 hi2 hi3 hi4
    have l1 := run_ldP (HXgc.out.below HT.out.b).at
    refine wpOp_step (o := { dst := some 54, op := Op.load 25 (Operand.tmp 5), type := 25, pos := "law.go:192", after := #[], guard := none }) rfl (fun K hK => ?_)
    go_simp
    exact hK _ _ ⟨v7x0, PV c, v7x2, v7x3, v7x4, v7x5, v7x6, v7x7, v7x8, v7x9, v7x10, v7x11, v7x12, v7x13, v7x14, v7x15, v7x16, v7x17, v7x18, v7x19, v7x20, v7x21, v7x22, v7x23, v7x24, v7x25, rfl, HT.out.plain (Ph7_mono a b c pj pm pd w y3) (Below.refl _ _) 1 (by decide) HL.out _ rfl (by simp) (by simp) (by decide)⟩
  · have d0 := hi3 _ rfl { on := 0, ground := Ground.data } (by simp) rfl
    have d1 := hi3 _ rfl { on := 1, ground := Ground.data } (by simp) rfl
    have e0 : v7x0 = PV pj := HT.out.h 0 (by decide) d0 (fun hm => absurd hm (by decide))
    subst e0
    have e1 : v7x1 = PV c := HT.out.h 1 (by decide) d1 (fun hm => absurd hm (by decide))
    subst e1
    have HL := hide hi4
    clear hi hi1 hi2 hi3 hi4 d0 d1
    refine wpOp_step (o := { dst := some 55, op := Op.buildSlice 43 2 #[(0, Operand.tmp 53), (1, Operand.tmp 54)], type := 43, pos := "law.go:192", after := #[{ on := 0, ground := Ground.data }, { on := 1, ground := Ground.data }], guard := none }) rfl (fun K hK => ?_)
    go_simp
    exact hK _ _ ⟨_, _, .slice (some ⟨W.heap.size, 0, none⟩) 2 2, v7x3, v7x4, v7x5, v7x6, v7x7, v7x8, v7x9, v7x10, v7x11, v7x12, v7x13, v7x14, v7x15, v7x16, v7x17, v7x18, v7x19, v7x20, v7x21, v7x22, v7x23, v7x24, v7x25, rfl, HT.out.plain (Ph7_mono a b c pj pm pd w y3) (below_new _ _) 2 (by decide) HL.out _ ⟨_, rfl, prow_two W pj c (HSpj.out.below HT.out.b) (HC.out.below HT.out.b)⟩ (by simp) (by simp) (by decide)⟩
  · have d2 := hi3 _ rfl { on := 2, ground := Ground.data } (by simp) rfl
    obtain ⟨g2, e2, R2⟩ : ∃ g, v7x2 = .slice (some ⟨g, 0, none⟩) 2 2 ∧ PRow W (some ⟨g, 0, none⟩) 2 [pj, c] := HT.out.h 2 (by decide) d2 (fun hm => absurd hm (by decide))
    subst e2
    have HR2 := hide R2
    clear R2
    have HL := hide hi4
    clear hi hi1 hi2 hi3 hi4 d2
    refine wpOp_step (o := { dst := some 56, op := Op.call { callee := Callee.value (Operand.func 5), args := #[Operand.tmp 55], argTypes := #[43] }, type := 25, pos := "law.go:192", after := #[{ on := 2, ground := Ground.data }], guard := none }) rfl (fun K hK => ?_)
    go_simp
    go_wp2_with fail
    refine (pastJoin_any _ 2 2 [pj, c] _ HR2.out (by have h := HW.out; have h2 := HQpj.out.len; simp only [wt] at h ⊢; omega) (by omega)).mono ?_
    rintro e w' ⟨pp, rfl, pS, pN, pb, pq⟩
    exact hK _ _ ⟨v7x0, v7x1, _, PV pp, v7x4, v7x5, v7x6, v7x7, v7x8, v7x9, v7x10, v7x11, v7x12, v7x13, v7x14, v7x15, v7x16, v7x17, v7x18, v7x19, v7x20, v7x21, v7x22, v7x23, v7x24, v7x25, rfl, HT.out.call (Ph7_mono a b c pj pm pd w y3) pb 3 (IsP (mOr (mP a.P) (mOr (mP b.P) (mP c.P)))) (by decide) HL.out (by simp) (by simp) pp pS pN ((isP_join2 pq).congr (fun r hr n => Iff.trans (or_congr (HQpj.out.mem r hr n) Iff.rfl) or_assoc)) (fun _ _ => trivial) (by simp) (by decide)⟩
  · have HL := hide hi4
    clear hi hi1 hi2 hi3 hi4
    have l1 := run_ldP (HXga.out.below HT.out.b).at
    refine wpOp_step (o := { dst := some 57, op := Op.load 25 (Operand.tmp 3), type := 25, pos := "law.go:192", after := #[], guard := none }) rfl (fun K hK => ?_)
    go_simp
    exact hK _ _ ⟨v7x0, v7x1, v7x2, v7x3, PV a, v7x5, v7x6, v7x7, v7x8, v7x9, v7x10, v7x11, v7x12, v7x13, v7x14, v7x15, v7x16, v7x17, v7x18, v7x19, v7x20, v7x21, v7x22, v7x23, v7x24, v7x25, rfl, HT.out.plain (Ph7_mono a b c pj pm pd w y3) (Below.refl _ _) 4 (by decide) HL.out _ rfl (by simp) (by simp) (by decide)⟩
  · have HL := hide hi4
    clear hi hi1 hi2 hi3 hi4
    have l1 := run_ldP (HXgb.out.below HT.out.b).at
    refine wpOp_step (o := { dst := some 58, op := Op.load 25 (Operand.tmp 4), type := 25, pos := "law.go:192", after := #[], guard := none }) rfl (fun K hK => ?_)
    go_simp
    exact hK _ _ ⟨v7x0, v7x1, v7x2, v7x3, v7x4, PV b, v7x6, v7x7, v7x8, v7x9, v7x10, v7x11, v7x12, v7x13, v7x14, v7x15, v7x16, v7x17, v7x18, v7x19, v7x20, v7x21, v7x22, v7x23, v7x24, v7x25, rfl, HT.out.plain (Ph7_mono a b c pj pm pd w y3) (Below.refl _ _) 5 (by decide) HL.out _ rfl (by simp) (by simp) (by decide)⟩
  · have HL := hide hi4
    clear hi hi1 hi2 hi3 hi4
    have l1 := run_ldP (HXgc.out.below HT.out.b).at
    refine wpOp_step (o := { dst := some 59, op := Op.load 25 (Operand.tmp 5), type := 25, pos := "law.go:192", after := #[], guard := none }) rfl (fun K hK => ?_)
    go_simp
    exact hK _ _ ⟨v7x0, v7x1, v7x2, v7x3, v7x4, v7x5, PV c, v7x7, v7x8, v7x9, v7x10, v7x11, v7x12, v7x13, v7x14, v7x15, v7x16, v7x17, v7x18, v7x19, v7x20, v7x21, v7x22, v7x23, v7x24, v7x25, rfl, HT.out.plain (Ph7_mono a b c pj pm pd w y3) (Below.refl _ _) 6 (by decide) HL.out _ rfl (by simp) (by simp) (by decide)⟩
  · have d5 := hi3 _ rfl { on := 5, ground := Ground.data } (by simp) rfl
    have d6 := hi3 _ rfl { on := 6, ground := Ground.data } (by simp) rfl
    have e5 : v7x5 = PV b := HT.out.h 5 (by decide) d5 (fun hm => absurd hm (by decide))
    subst e5
    have e6 : v7x6 = PV c := HT.out.h 6 (by decide) d6 (fun hm => absurd hm (by decide))
    subst e6
    have HL := hide hi4
    clear hi hi1 hi2 hi3 hi4 d5 d6
    refine wpOp_step (o := { dst := some 60, op := Op.buildSlice 43 2 #[(0, Operand.tmp 58), (1, Operand.tmp 59)], type := 43, pos := "law.go:192", after := #[{ on := 5, ground := Ground.data }, { on := 6, ground := Ground.data }], guard := none }) rfl (fun K hK => ?_)
    go_simp
    exact hK _ _ ⟨v7x0, v7x1, v7x2, v7x3, v7x4, _, _, .slice (some ⟨W.heap.size, 0, none⟩) 2 2, v7x8, v7x9, v7x10, v7x11, v7x12, v7x13, v7x14, v7x15, v7x16, v7x17, v7x18, v7x19, v7x20, v7x21, v7x22, v7x23, v7x24, v7x25, rfl, HT.out.plain (Ph7_mono a b c pj pm pd w y3) (below_new _ _) 7 (by decide) HL.out _ ⟨_, rfl, prow_two W b c (HB.out.below HT.out.b) (HC.out.below HT.out.b)⟩ (by simp) (by simp) (by decide)⟩
  · have d7 := hi3 _ rfl { on := 7, ground := Ground.data } (by simp) rfl
    obtain ⟨g7, e7, R7⟩ : ∃ g, v7x7 = .slice (some ⟨g, 0, none⟩) 2 2 ∧ PRow W (some ⟨g, 0, none⟩) 2 [b, c] := HT.out.h 7 (by decide) d7 (fun hm => absurd hm (by decide))
    subst e7
    have HR7 := hide R7
    clear R7
    have HL := hide hi4
    clear hi hi1 hi2 hi3 hi4 d7
    refine wpOp_step (o := { dst := some 61, op := Op.call { callee := Callee.value (Operand.func 5), args := #[Operand.tmp 60], argTypes := #[43] }, type := 25, pos := "law.go:192", after := #[{ on := 7, ground := Ground.data }, { on := 3, ground := Ground.chain }], guard := none }) rfl (fun K hK => ?_)
    go_simp
    go_wp2_with fail
    refine (pastJoin_any _ 2 2 [b, c] _ HR7.out (by have h := HW.out; simp only [wt] at h ⊢; omega) (by omega)).mono ?_
    rintro e w' ⟨pp, rfl, pS, pN, pb, pq⟩
    exact hK _ _ ⟨v7x0, v7x1, v7x2, v7x3, v7x4, v7x5, v7x6, _, PV pp, v7x9, v7x10, v7x11, v7x12, v7x13, v7x14, v7x15, v7x16, v7x17, v7x18, v7x19, v7x20, v7x21, v7x22, v7x23, v7x24, v7x25, rfl, HT.out.call (Ph7_mono a b c pj pm pd w y3) pb 8 (IsP (mOr (mP b.P) (mP c.P))) (by decide) HL.out (by simp) (by simp) pp pS pN (isP_join2 pq) (fun _ _ => trivial) (by simp) (by decide)⟩
  · have d4 := hi3 _ rfl { on := 4, ground := Ground.data } (by simp) rfl
    have d8 := hi3 _ rfl { on := 8, ground := Ground.data } (by simp) rfl
    have e4 : v7x4 = PV a := HT.out.h 4 (by decide) d4 (fun hm => absurd hm (by decide))
    subst e4
    obtain ⟨p8, e8, S8, q8, -⟩ := HT.out.r (8, IsP (mOr (mP b.P) (mP c.P))) (by simp) d8
    have f8 : v7x8 = PV p8 := e8
    subst f8
    have HS8 := hide S8
    have HQ8 : Hid (IsP (mOr (mP b.P) (mP c.P)) p8.P) := q8
    clear e8 S8 q8
    have HL := hide hi4
    clear hi hi1 hi2 hi3 hi4 d4 d8
    refine wpOp_step (o := { dst := some 62, op := Op.buildSlice 43 2 #[(0, Operand.tmp 57), (1, Operand.tmp 61)], type := 43, pos := "law.go:192", after := #[{ on := 4, ground := Ground.data }, { on := 8, ground := Ground.data }], guard := none }) rfl (fun K hK => ?_)
    go_simp
    exact hK _ _ ⟨v7x0, v7x1, v7x2, v7x3, _, v7x5, v7x6, v7x7, _, .slice (some ⟨W.heap.size, 0, none⟩) 2 2, v7x10, v7x11, v7x12, v7x13, v7x14, v7x15, v7x16, v7x17, v7x18, v7x19, v7x20, v7x21, v7x22, v7x23, v7x24, v7x25, rfl, HT.out.plain (Ph7_mono a b c pj pm pd w y3) (below_new _ _) 9 (by decide) HL.out _ ⟨_, p8, rfl, prow_two W a p8 (HA.out.below HT.out.b) HS8.out, HQ8.out⟩ (by simp) (by simp) (by decide)⟩
  · have d9 := hi3 _ rfl { on := 9, ground := Ground.data } (by simp) rfl
    obtain ⟨g9, q9, e9, R9, Q9_0⟩ : ∃ g q, v7x9 = .slice (some ⟨g, 0, none⟩) 2 2 ∧ PRow W (some ⟨g, 0, none⟩) 2 [a, q] ∧ IsP (mOr (mP b.P) (mP c.P)) q.P := HT.out.h 9 (by decide) d9 (fun hm => absurd hm (by decide))
    subst e9
    have HR9 := hide R9
    clear R9
    have HQ9_0 := hide Q9_0
    clear Q9_0
    have HL := hide hi4
    clear hi hi1 hi2 hi3 hi4 d9
    refine wpOp_step (o := { dst := some 63, op := Op.call { callee := Callee.value (Operand.func 5), args := #[Operand.tmp 62], argTypes := #[43] }, type := 25, pos := "law.go:192", after := #[{ on := 9, ground := Ground.data }, { on := 8, ground := Ground.chain }], guard := none }) rfl (fun K hK => ?_)
    go_simp
    go_wp2_with fail
    refine (pastJoin_any _ 2 2 [a, q9] _ HR9.out (by have h := HW.out; have h2 := HQ9_0.out.len; simp only [wt] at h ⊢; omega) (by omega)).mono ?_
    rintro e w' ⟨pp, rfl, pS, pN, pb, pq⟩
    exact hK _ _ ⟨v7x0, v7x1, v7x2, v7x3, v7x4, v7x5, v7x6, v7x7, v7x8, _, PV pp, v7x11, v7x12, v7x13, v7x14, v7x15, v7x16, v7x17, v7x18, v7x19, v7x20, v7x21, v7x22, v7x23, v7x24, v7x25, rfl, HT.out.call (Ph7_mono a b c pj pm pd w y3) pb 10 (IsP (mOr (mP a.P) (mOr (mP b.P) (mP c.P)))) (by decide) HL.out (by simp) (by simp) pp pS pN ((isP_join2 pq).congr (fun r hr n => or_congr Iff.rfl (HQ9_0.out.mem r hr n))) (fun _ _ => trivial) (by simp) (by decide)⟩
  · have d3 := hi3 _ rfl { on := 3, ground := Ground.data } (by simp) rfl
    have d10 := hi3 _ rfl { on := 10, ground := Ground.data } (by simp) rfl
    obtain ⟨p3, e3, S3, q3, -⟩ := HT.out.r (3, IsP (mOr (mP a.P) (mOr (mP b.P) (mP c.P)))) (by simp) d3
    have f3 : v7x3 = PV p3 := e3
    subst f3
    have HS3 := hide S3
    have HQ3 : Hid (IsP (mOr (mP a.P) (mOr (mP b.P) (mP c.P))) p3.P) := q3
    clear e3 S3 q3
    obtain ⟨p10, e10, S10, q10, -⟩ := HT.out.r (10, IsP (mOr (mP a.P) (mOr (mP b.P) (mP c.P)))) (by simp) d10
    have f10 : v7x10 = PV p10 := e10
    subst f10
    have HS10 := hide S10
    have HQ10 : Hid (IsP (mOr (mP a.P) (mOr (mP b.P) (mP c.P))) p10.P) := q10
    clear e10 S10 q10
    have HL := hide hi4
    clear hi hi1 hi2 hi3 hi4 d3 d10
    refine wpOp_step (o := { dst := some 64, op := Op.call { callee := Callee.value (Operand.func 8), args := #[Operand.tmp 56, Operand.tmp 63], argTypes := #[25, 25] }, type := 4, pos := "law.go:192", after := #[{ on := 3, ground := Ground.data }, { on := 10, ground := Ground.data }, { on := 10, ground := Ground.chain }], guard := none }) rfl (fun K hK => ?_)
    go_simp
    go_wp2_with fail
    refine (samePast_any p3 p10 _ HS3.out HS10.out).mono ?_
    rintro e w' ⟨x, rfl, hx, pb⟩
    obtain rfl : x = true := hx.2 (IsP.unique HQ3.out HQ10.out (fun _ _ _ => Iff.rfl))
    exact hK _ _ ⟨v7x0, v7x1, v7x2, _, v7x4, v7x5, v7x6, v7x7, v7x8, v7x9, _, .bool true, v7x12, v7x13, v7x14, v7x15, v7x16, v7x17, v7x18, v7x19, v7x20, v7x21, v7x22, v7x23, v7x24, v7x25, rfl, HT.out.plain (Ph7_mono a b c pj pm pd w y3) pb 11 (by decide) HL.out _ rfl (by simp) (by simp) (by decide)⟩
  · have d11 := hi3 _ rfl { on := 11, ground := Ground.data } (by simp) rfl
    have e11 : v7x11 = .bool true := HT.out.h 11 (by decide) d11 (fun hm => absurd hm (by decide))
    subst e11
    have HL := hide hi4
    clear hi hi1 hi2 hi3 hi4 d11
    refine wpOp_step (o := { dst := some 65, op := Op.unOp UnOp.not 4 (Operand.tmp 64), type := 4, pos := "law.go:192", after := #[{ on := 11, ground := Ground.data }], guard := none }) rfl (fun K hK => ?_)
    go_simp
    exact hK _ _ ⟨v7x0, v7x1, v7x2, v7x3, v7x4, v7x5, v7x6, v7x7, v7x8, v7x9, v7x10, _, .bool false, v7x13, v7x14, v7x15, v7x16, v7x17, v7x18, v7x19, v7x20, v7x21, v7x22, v7x23, v7x24, v7x25, rfl, HT.out.plain (Ph7_mono a b c pj pm pd w y3) (Below.refl _ _) 12 (by decide) HL.out _ rfl (by simp) (by simp) (by decide)⟩
  · have d12 := hi3 _ rfl { on := 12, ground := Ground.data } (by simp) rfl
    have e12 : v7x12 = .bool false := HT.out.h 12 (by decide) d12 (fun hm => absurd hm (by decide))
    subst e12
    have HL := hide hi4
    clear hi hi1 hi2 hi3 hi4 d12
    refine wpOp_step (o := { dst := some 66, op := Op.move (Operand.tmp 65), type := 4, pos := "law.go:192", after := #[{ on := 12, ground := Ground.data }, { on := 11, ground := Ground.chain }], guard := none }) rfl (fun K hK => ?_)
    go_simp
    exact hK _ _ ⟨v7x0, v7x1, v7x2, v7x3, v7x4, v7x5, v7x6, v7x7, v7x8, v7x9, v7x10, v7x11, _, .bool false, v7x14, v7x15, v7x16, v7x17, v7x18, v7x19, v7x20, v7x21, v7x22, v7x23, v7x24, v7x25, rfl, HT.out.plain (Ph7_mono a b c pj pm pd w y3) (Below.refl _ _) 13 (by decide) HL.out _ rfl (by simp) (by simp) (by decide)⟩
  · have d13 := hi3 _ rfl { on := 13, ground := Ground.guard } (by simp) rfl
    have e13 : v7x13 = .bool false := HT.out.h 13 (by decide) d13 (fun hm => absurd hm (by decide))
    subst e13
    have HL := hide hi4
    clear hi hi1 hi2 hi3 hi4 d13
    have l1 := run_ldP (HXga.out.below HT.out.b).at
    refine wpOp_step (o := { dst := some 67, op := Op.load 25 (Operand.tmp 3), type := 25, pos := "law.go:192", after := #[{ on := 13, ground := Ground.guard }], guard := some (13, false) }) rfl (fun K hK => ?_)
    go_simp
    exact hK _ _ ⟨v7x0, v7x1, v7x2, v7x3, v7x4, v7x5, v7x6, v7x7, v7x8, v7x9, v7x10, v7x11, v7x12, _, PV a, v7x15, v7x16, v7x17, v7x18, v7x19, v7x20, v7x21, v7x22, v7x23, v7x24, v7x25, rfl, HT.out.plain (Ph7_mono a b c pj pm pd w y3) (Below.refl _ _) 14 (by decide) HL.out _ rfl (by simp) (by simp) (by decide)⟩
  · have d13 := hi3 _ rfl { on := 13, ground := Ground.guard } (by simp) rfl
    have e13 : v7x13 = .bool false := HT.out.h 13 (by decide) d13 (fun hm => absurd hm (by decide))
    subst e13
    have HL := hide hi4
    clear hi hi1 hi2 hi3 hi4 d13
    have l1 := run_ldP (HXgb.out.below HT.out.b).at
    refine wpOp_step (o := { dst := some 68, op := Op.load 25 (Operand.tmp 4), type := 25, pos := "law.go:192", after := #[{ on := 13, ground := Ground.guard }], guard := some (13, false) }) rfl (fun K hK => ?_)
    go_simp
    exact hK _ _ ⟨v7x0, v7x1, v7x2, v7x3, v7x4, v7x5, v7x6, v7x7, v7x8, v7x9, v7x10, v7x11, v7x12, _, v7x14, PV b, v7x16, v7x17, v7x18, v7x19, v7x20, v7x21, v7x22, v7x23, v7x24, v7x25, rfl, HT.out.plain (Ph7_mono a b c pj pm pd w y3) (Below.refl _ _) 15 (by decide) HL.out _ rfl (by simp) (by simp) (by decide)⟩
  · have d13 := hi3 _ rfl { on := 13, ground := Ground.guard } (by simp) rfl
    have e13 : v7x13 = .bool false := HT.out.h 13 (by decide) d13 (fun hm => absurd hm (by decide))
    subst e13
    have HL := hide hi4
    clear hi hi1 hi2 hi3 hi4 d13
    have l1 := run_ldP (HXgc.out.below HT.out.b).at
    refine wpOp_step (o := { dst := some 69, op := Op.load 25 (Operand.tmp 5), type := 25, pos := "law.go:192", after := #[{ on := 13, ground := Ground.guard }], guard := some (13, false) }) rfl (fun K hK => ?_)
    go_simp
    exact hK _ _ ⟨v7x0, v7x1, v7x2, v7x3, v7x4, v7x5, v7x6, v7x7, v7x8, v7x9, v7x10, v7x11, v7x12, _, v7x14, v7x15, PV c, v7x17, v7x18, v7x19, v7x20, v7x21, v7x22, v7x23, v7x24, v7x25, rfl, HT.out.plain (Ph7_mono a b c pj pm pd w y3) (Below.refl _ _) 16 (by decide) HL.out _ rfl (by simp) (by simp) (by decide)⟩
  · have d14 := hi3 _ rfl { on := 14, ground := Ground.data } (by simp) rfl
    have d15 := hi3 _ rfl { on := 15, ground := Ground.data } (by simp) rfl
    have d16 := hi3 _ rfl { on := 16, ground := Ground.data } (by simp) rfl
    have d13 := hi3 _ rfl { on := 13, ground := Ground.guard } (by simp) rfl
    have e14 : v7x14 = PV a := HT.out.h 14 (by decide) d14 (fun hm => absurd hm (by decide))
    subst e14
    have e15 : v7x15 = PV b := HT.out.h 15 (by decide) d15 (fun hm => absurd hm (by decide))
    subst e15
    have e16 : v7x16 = PV c := HT.out.h 16 (by decide) d16 (fun hm => absurd hm (by decide))
    subst e16
    have e13 : v7x13 = .bool false := HT.out.h 13 (by decide) d13 (fun hm => absurd hm (by decide))
    subst e13
    have HL := hide hi4
    clear hi hi1 hi2 hi3 hi4 d14 d15 d16 d13
    refine wpOp_step (o := { dst := some 70, op := Op.buildSlice 43 3 #[(0, Operand.tmp 67), (1, Operand.tmp 68), (2, Operand.tmp 69)], type := 43, pos := "law.go:192", after := #[{ on := 14, ground := Ground.data }, { on := 15, ground := Ground.data }, { on := 16, ground := Ground.data }, { on := 13, ground := Ground.guard }], guard := some (13, false) }) rfl (fun K hK => ?_)
    go_simp
    exact hK _ _ ⟨v7x0, v7x1, v7x2, v7x3, v7x4, v7x5, v7x6, v7x7, v7x8, v7x9, v7x10, v7x11, v7x12, _, _, _, _, .slice (some ⟨W.heap.size, 0, none⟩) 3 3, v7x18, v7x19, v7x20, v7x21, v7x22, v7x23, v7x24, v7x25, rfl, HT.out.plain (Ph7_mono a b c pj pm pd w y3) (below_new _ _) 17 (by decide) HL.out _ ⟨_, rfl, prow_three W a b c (HA.out.below HT.out.b) (HB.out.below HT.out.b) (HC.out.below HT.out.b)⟩ (by simp) (by simp) (by decide)⟩
  · have d17 := hi3 _ rfl { on := 17, ground := Ground.data } (by simp) rfl
    have d13 := hi3 _ rfl { on := 13, ground := Ground.chain } (by simp) rfl
    obtain ⟨g17, e17, R17⟩ : ∃ g, v7x17 = .slice (some ⟨g, 0, none⟩) 3 3 ∧ PRow W (some ⟨g, 0, none⟩) 3 [a, b, c] := HT.out.h 17 (by decide) d17 (fun hm => absurd hm (by decide))
    subst e17
    have HR17 := hide R17
    clear R17
    have e13 : v7x13 = .bool false := HT.out.h 13 (by decide) d13 (fun hm => absurd hm (by decide))
    subst e13
    have HL := hide hi4
    clear hi hi1 hi2 hi3 hi4 d17 d13
    refine wpOp_step (o := { dst := some 71, op := Op.call { callee := Callee.value (Operand.func 5), args := #[Operand.tmp 70], argTypes := #[43] }, type := 25, pos := "law.go:192", after := #[{ on := 17, ground := Ground.data }, { on := 13, ground := Ground.chain }, { on := 13, ground := Ground.guard }], guard := some (13, false) }) rfl (fun K hK => ?_)
    go_simp
    go_wp2_with fail
    refine (pastJoin_any _ 3 3 [a, b, c] _ HR17.out (by have h := HW.out; omega) (by omega)).mono ?_
    rintro e w' ⟨pp, rfl, pS, pN, pb, pq⟩
    exact hK _ _ ⟨v7x0, v7x1, v7x2, v7x3, v7x4, v7x5, v7x6, v7x7, v7x8, v7x9, v7x10, v7x11, v7x12, _, v7x14, v7x15, v7x16, _, PV pp, v7x19, v7x20, v7x21, v7x22, v7x23, v7x24, v7x25, rfl, HT.out.call (Ph7_mono a b c pj pm pd w y3) pb 18 (IsP (mOr (mP a.P) (mOr (mP b.P) (mP c.P)))) (by decide) HL.out (by simp) (by simp) pp pS pN (isP_join3 pq) (fun _ _ => trivial) (by simp) (by decide)⟩
  · have d13 := hi3 _ rfl { on := 13, ground := Ground.guard } (by simp) rfl
    have e13 : v7x13 = .bool false := HT.out.h 13 (by decide) d13 (fun hm => absurd hm (by decide))
    subst e13
    have HL := hide hi4
    clear hi hi1 hi2 hi3 hi4 d13
    have l1 := run_ldP (HXgj.out.below HT.out.b).at
    refine wpOp_step (o := { dst := some 72, op := Op.load 25 (Operand.tmp 6), type := 25, pos := "law.go:192", after := #[{ on := 13, ground := Ground.guard }], guard := some (13, false) }) rfl (fun K hK => ?_)
    go_simp
    exact hK _ _ ⟨v7x0, v7x1, v7x2, v7x3, v7x4, v7x5, v7x6, v7x7, v7x8, v7x9, v7x10, v7x11, v7x12, _, v7x14, v7x15, v7x16, v7x17, v7x18, PV pj, v7x20, v7x21, v7x22, v7x23, v7x24, v7x25, rfl, HT.out.plain (Ph7_mono a b c pj pm pd w y3) (Below.refl _ _) 19 (by decide) HL.out _ rfl (by simp) (by simp) (by decide)⟩
  · have d13 := hi3 _ rfl { on := 13, ground := Ground.guard } (by simp) rfl
    have e13 : v7x13 = .bool false := HT.out.h 13 (by decide) d13 (fun hm => absurd hm (by decide))
    subst e13
    have HL := hide hi4
    clear hi hi1 hi2 hi3 hi4 d13
    have l1 := run_ldP (HXgc.out.below HT.out.b).at
    refine wpOp_step (o := { dst := some 73, op := Op.load 25 (Operand.tmp 5), type := 25, pos := "law.go:192", after := #[{ on := 13, ground := Ground.guard }], guard := some (13, false) }) rfl (fun K hK => ?_)
    go_simp
    exact hK _ _ ⟨v7x0, v7x1, v7x2, v7x3, v7x4, v7x5, v7x6, v7x7, v7x8, v7x9, v7x10, v7x11, v7x12, _, v7x14, v7x15, v7x16, v7x17, v7x18, v7x19, PV c, v7x21, v7x22, v7x23, v7x24, v7x25, rfl, HT.out.plain (Ph7_mono a b c pj pm pd w y3) (Below.refl _ _) 20 (by decide) HL.out _ rfl (by simp) (by simp) (by decide)⟩
  · have d19 := hi3 _ rfl { on := 19, ground := Ground.data } (by simp) rfl
    have d20 := hi3 _ rfl { on := 20, ground := Ground.data } (by simp) rfl
    have d13 := hi3 _ rfl { on := 13, ground := Ground.guard } (by simp) rfl
    have e19 : v7x19 = PV pj := HT.out.h 19 (by decide) d19 (fun hm => absurd hm (by decide))
    subst e19
    have e20 : v7x20 = PV c := HT.out.h 20 (by decide) d20 (fun hm => absurd hm (by decide))
    subst e20
    have e13 : v7x13 = .bool false := HT.out.h 13 (by decide) d13 (fun hm => absurd hm (by decide))
    subst e13
    have HL := hide hi4
    clear hi hi1 hi2 hi3 hi4 d19 d20 d13
    refine wpOp_step (o := { dst := some 74, op := Op.buildSlice 43 2 #[(0, Operand.tmp 72), (1, Operand.tmp 73)], type := 43, pos := "law.go:192", after := #[{ on := 19, ground := Ground.data }, { on := 20, ground := Ground.data }, { on := 13, ground := Ground.guard }], guard := some (13, false) }) rfl (fun K hK => ?_)
    go_simp
    exact hK _ _ ⟨v7x0, v7x1, v7x2, v7x3, v7x4, v7x5, v7x6, v7x7, v7x8, v7x9, v7x10, v7x11, v7x12, _, v7x14, v7x15, v7x16, v7x17, v7x18, _, _, .slice (some ⟨W.heap.size, 0, none⟩) 2 2, v7x22, v7x23, v7x24, v7x25, rfl, HT.out.plain (Ph7_mono a b c pj pm pd w y3) (below_new _ _) 21 (by decide) HL.out _ ⟨_, rfl, prow_two W pj c (HSpj.out.below HT.out.b) (HC.out.below HT.out.b)⟩ (by simp) (by simp) (by decide)⟩
  · have d21 := hi3 _ rfl { on := 21, ground := Ground.data } (by simp) rfl
    have d13 := hi3 _ rfl { on := 13, ground := Ground.guard } (by simp) rfl
    obtain ⟨g21, e21, R21⟩ : ∃ g, v7x21 = .slice (some ⟨g, 0, none⟩) 2 2 ∧ PRow W (some ⟨g, 0, none⟩) 2 [pj, c] := HT.out.h 21 (by decide) d21 (fun hm => absurd hm (by decide))
    subst e21
    have HR21 := hide R21
    clear R21
    have e13 : v7x13 = .bool false := HT.out.h 13 (by decide) d13 (fun hm => absurd hm (by decide))
    subst e13
    have HL := hide hi4
    clear hi hi1 hi2 hi3 hi4 d21 d13
    refine wpOp_step (o := { dst := some 75, op := Op.call { callee := Callee.value (Operand.func 5), args := #[Operand.tmp 74], argTypes := #[43] }, type := 25, pos := "law.go:192", after := #[{ on := 21, ground := Ground.data }, { on := 18, ground := Ground.chain }, { on := 13, ground := Ground.guard }], guard := some (13, false) }) rfl (fun K hK => ?_)
    go_simp
    go_wp2_with fail
    refine (pastJoin_any _ 2 2 [pj, c] _ HR21.out (by have h := HW.out; have h2 := HQpj.out.len; simp only [wt] at h ⊢; omega) (by omega)).mono ?_
    rintro e w' ⟨pp, rfl, pS, pN, pb, pq⟩
    exact hK _ _ ⟨v7x0, v7x1, v7x2, v7x3, v7x4, v7x5, v7x6, v7x7, v7x8, v7x9, v7x10, v7x11, v7x12, _, v7x14, v7x15, v7x16, v7x17, v7x18, v7x19, v7x20, _, PV pp, v7x23, v7x24, v7x25, rfl, HT.out.call (Ph7_mono a b c pj pm pd w y3) pb 22 (IsP (mOr (mP a.P) (mOr (mP b.P) (mP c.P)))) (by decide) HL.out (by simp) (by simp) pp pS pN ((isP_join2 pq).congr (fun r hr n => Iff.trans (or_congr (HQpj.out.mem r hr n) Iff.rfl) or_assoc)) (fun _ _ => trivial) (by simp) (by decide)⟩
  · have d18 := hi3 _ rfl { on := 18, ground := Ground.data } (by simp) rfl
    have d22 := hi3 _ rfl { on := 22, ground := Ground.data } (by simp) rfl
    have d13 := hi3 _ rfl { on := 13, ground := Ground.guard } (by simp) rfl
    obtain ⟨p18, e18, S18, q18, -⟩ := HT.out.r (18, IsP (mOr (mP a.P) (mOr (mP b.P) (mP c.P)))) (by simp) d18
    have f18 : v7x18 = PV p18 := e18
    subst f18
    have HS18 := hide S18
    have HQ18 : Hid (IsP (mOr (mP a.P) (mOr (mP b.P) (mP c.P))) p18.P) := q18
    clear e18 S18 q18
    obtain ⟨p22, e22, S22, q22, -⟩ := HT.out.r (22, IsP (mOr (mP a.P) (mOr (mP b.P) (mP c.P)))) (by simp) d22
    have f22 : v7x22 = PV p22 := e22
    subst f22
    have HS22 := hide S22
    have HQ22 : Hid (IsP (mOr (mP a.P) (mOr (mP b.P) (mP c.P))) p22.P) := q22
    clear e22 S22 q22
    have e13 : v7x13 = .bool false := HT.out.h 13 (by decide) d13 (fun hm => absurd hm (by decide))
    subst e13
    have HL := hide hi4
    clear hi hi1 hi2 hi3 hi4 d18 d22 d13
    refine wpOp_step (o := { dst := some 76, op := Op.call { callee := Callee.value (Operand.func 8), args := #[Operand.tmp 71, Operand.tmp 75], argTypes := #[25, 25] }, type := 4, pos := "law.go:192", after := #[{ on := 18, ground := Ground.data }, { on := 22, ground := Ground.data }, { on := 22, ground := Ground.chain }, { on := 13, ground := Ground.guard }], guard := some (13, false) }) rfl (fun K hK => ?_)
    go_simp
    go_wp2_with fail
    refine (samePast_any p18 p22 _ HS18.out HS22.out).mono ?_
    rintro e w' ⟨x, rfl, hx, pb⟩
    obtain rfl : x = true := hx.2 (IsP.unique HQ18.out HQ22.out (fun _ _ _ => Iff.rfl))
    exact hK _ _ ⟨v7x0, v7x1, v7x2, v7x3, v7x4, v7x5, v7x6, v7x7, v7x8, v7x9, v7x10, v7x11, v7x12, _, v7x14, v7x15, v7x16, v7x17, _, v7x19, v7x20, v7x21, _, .bool true, v7x24, v7x25, rfl, HT.out.plain (Ph7_mono a b c pj pm pd w y3) pb 23 (by decide) HL.out _ rfl (by simp) (by simp) (by decide)⟩
  · have d23 := hi3 _ rfl { on := 23, ground := Ground.data } (by simp) rfl
    have d13 := hi3 _ rfl { on := 13, ground := Ground.guard } (by simp) rfl
    have e23 : v7x23 = .bool true := HT.out.h 23 (by decide) d23 (fun hm => absurd hm (by decide))
    subst e23
    have e13 : v7x13 = .bool false := HT.out.h 13 (by decide) d13 (fun hm => absurd hm (by decide))
    subst e13
    have HL := hide hi4
    clear hi hi1 hi2 hi3 hi4 d23 d13
    refine wpOp_step (o := { dst := some 77, op := Op.unOp UnOp.not 4 (Operand.tmp 76), type := 4, pos := "law.go:192", after := #[{ on := 23, ground := Ground.data }, { on := 13, ground := Ground.guard }], guard := some (13, false) }) rfl (fun K hK => ?_)
    go_simp
    exact hK _ _ ⟨v7x0, v7x1, v7x2, v7x3, v7x4, v7x5, v7x6, v7x7, v7x8, v7x9, v7x10, v7x11, v7x12, _, v7x14, v7x15, v7x16, v7x17, v7x18, v7x19, v7x20, v7x21, v7x22, _, .bool false, v7x25, rfl, HT.out.plain (Ph7_mono a b c pj pm pd w y3) (Below.refl _ _) 24 (by decide) HL.out _ rfl (by simp) (by simp) (by decide)⟩
  · have d13 := hi3 _ rfl { on := 13, ground := Ground.data } (by simp) rfl
    have d24 := hi3 _ rfl { on := 24, ground := Ground.data } (by simp) rfl
    have e13 : v7x13 = .bool false := HT.out.h 13 (by decide) d13 (fun hm => absurd hm (by decide))
    subst e13
    have e24 : v7x24 = .bool false := HT.out.h 24 (by decide) d24 (fun hm => absurd hm (by decide))
    subst e24
    have HL := hide hi4
    clear hi hi1 hi2 hi3 hi4 d13 d24
    refine wpOp_step (o := { dst := some 78, op := Op.pick (Operand.tmp 66) (Operand.const (Value.bool true)) (Operand.tmp 77), type := 4, pos := "law.go:192", after := #[{ on := 13, ground := Ground.data }, { on := 24, ground := Ground.data }], guard := none }) rfl (fun K hK => ?_)
    go_simp
    exact hK _ _ ⟨v7x0, v7x1, v7x2, v7x3, v7x4, v7x5, v7x6, v7x7, v7x8, v7x9, v7x10, v7x11, v7x12, _, v7x14, v7x15, v7x16, v7x17, v7x18, v7x19, v7x20, v7x21, v7x22, v7x23, _, .bool false, rfl, HT.out.plain (Ph7_mono a b c pj pm pd w y3) (Below.refl _ _) 25 (by decide) HL.out _ rfl (by simp) (by simp) (by decide)⟩
end Go.Proofs.Ytliedjloceckjaa
