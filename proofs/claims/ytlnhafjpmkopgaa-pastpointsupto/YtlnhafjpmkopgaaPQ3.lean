/- PastPoints: the steps of a region that draws its order. -/
import Derived.Test.YtlnhafjpmkopgaaPPq
namespace Go.Proofs.Ytlnhafjpmkopgaa
open Go.RowKit
attribute [local go_sem ↓] ldP_eq stP_eq ldD_eq stD_eq ldC_eq
attribute [local go_sem] zero_PC cells_PV fold_PC PC_size fold_PC1 fold_PC2 fold_PC3 cells_CasV cells_RV RC_size zero_RC fold_RC
def Ph3 (a b _ : Pv) (w : World) (_ : World) : Nat → Value → World → Prop
  | 0, x, _ => x = .pointer (some ⟨w.heap.size, 0, none⟩)
  | 1, x, _ => x = PV a
  | 3, x, _ => x = .pointer (some ⟨w.heap.size, 0, none⟩)
  | 4, x, _ => x = PV a
  | 5, x, _ => x = .pointer (some ⟨w.heap.size, 2, none⟩)
  | 6, x, _ => x = PV b
  | 7, x, W => ∃ g, x = .slice (some ⟨g, 0, none⟩) 2 2 ∧ PRow W (some ⟨g, 0, none⟩) 2 [a, b]
  | 9, x, _ => x = .pointer (some ⟨w.heap.size, 0, none⟩)
  | 10, x, _ => x = PV a
  | 11, x, _ => x = .pointer (some ⟨w.heap.size, 2, none⟩)
  | 12, x, _ => x = PV b
  | 14, x, _ => x = .pointer (some ⟨w.heap.size, 0, none⟩)
  | 15, x, _ => x = PV a
  | 16, x, _ => x = .pointer (some ⟨w.heap.size, 2, none⟩)
  | 17, x, _ => x = PV b
  | _, _, _ => True
theorem Ph3_mono (a b c : Pv) (w : World) (W0 : World) : Mono (Ph3 a b c w W0) := fun i x W W' h hb => match i with
  | 0 => h
  | 1 => h
  | 3 => h
  | 4 => h
  | 5 => h
  | 6 => h
  | 7 => by obtain ⟨g, e, R⟩ := h; exact ⟨g, e, R.below hb⟩
  | 9 => h
  | 10 => h
  | 11 => h
  | 12 => h
  | 14 => h
  | 15 => h
  | 16 => h
  | 17 => h
  | 2 => trivial
  | 8 => trivial
  | 13 => trivial
  | 18 => trivial
  | 19 => trivial
  | 20 => trivial
  | 21 => trivial
  | 22 => trivial
  | 23 => trivial
  | 24 => trivial
  | 25 => trivial
  | 26 => trivial
  | _ + 27 => trivial
theorem Ph3_inv (a b c : Pv) (w : World) (W0 : World) : ∀ j x U U', j ∉ [7] → Ph3 a b c w W0 j x U → Ph3 a b c w W0 j x U' := fun j x U U' hj h => match j with
  | 0 => h
  | 1 => h
  | 3 => h
  | 4 => h
  | 5 => h
  | 6 => h
  | 7 => absurd (by decide) hj
  | 9 => h
  | 10 => h
  | 11 => h
  | 12 => h
  | 14 => h
  | 15 => h
  | 16 => h
  | 17 => h
  | 2 => trivial
  | 8 => trivial
  | 13 => trivial
  | 18 => trivial
  | 19 => trivial
  | 20 => trivial
  | 21 => trivial
  | 22 => trivial
  | 23 => trivial
  | 24 => trivial
  | 25 => trivial
  | 26 => trivial
  | _ + 27 => trivial
set_option maxRecDepth 100000 in
set_option maxHeartbeats 4000000 in
theorem st3 {a b c : Pv} {dv : Value} {rp ms : Int} {w w1 : World} (HCB : Hid (CBox w1 w.heap.size (CasC a b c dv rp ms))) (HA : Hid (PSrc w1 a)) (HB : Hid (PSrc w1 b)) (HW : Hid (wt [a, b, c] ≤ 4000000000000)) {Q : Exit → Act → World → Prop} :
    ∀ (l : Array Bool) (x : Act) (W : World), (∃ v3x0 v3x1 v3x2 v3x3 v3x4 v3x5 v3x6 v3x7 v3x8 v3x9 v3x10 v3x11 v3x12 v3x13 v3x14 v3x15 v3x16 v3x17 v3x18 v3x19 v3x20 v3x21 v3x22, x = { tmps := #[CasV a b c dv rp ms, ptr w.heap.size, .bool false, v3x19, v3x20, v3x21, v3x22, undef, undef, undef, undef, undef, undef, undef, .bool true, .bool false, v3x0, v3x1, v3x2, v3x3, v3x4, v3x5, v3x6, v3x7, v3x8, v3x9, v3x10, v3x11, v3x12, v3x13, v3x14, v3x15, v3x16, v3x17, v3x18, undef, undef, undef, undef, undef, undef, undef, undef, undef, undef, undef, undef, undef, undef, undef, undef, undef, undef, undef, undef, undef, undef, undef, undef, undef, undef, undef, undef, undef, undef, undef, undef, undef, undef, undef, undef, undef, undef, undef, undef, undef, undef, undef, undef, undef, undef, undef, undef, undef, undef, undef, undef, undef, undef, undef, undef, undef, undef, undef, undef, undef, undef, undef, undef, undef, undef, undef, undef, undef, undef, undef, undef, undef, undef, undef, undef, undef, undef, undef, undef, undef, undef, undef, undef, undef, undef, undef, undef, undef, undef, undef, undef, undef, undef, undef, undef, undef, undef, undef, undef, undef, undef, undef, undef, undef, undef, undef, undef, undef, undef, undef, undef, undef, undef, undef, undef, undef, undef, undef, undef, undef, undef, undef, undef, undef, undef, undef, undef, undef, undef, undef, undef, undef], defers := [] } ∧ BI 27 23 w1 (Ph3 a b c w w1) [7] [(2, IsP (mP a.P)), (8, IsP (mOr (mP a.P) (mP b.P))), (13, IsP (mAnd (mP a.P) (mP b.P))), (18, IsP (mNot (mP a.P) (mP b.P)))] [(19, 23, 2), (20, 24, 8), (21, 25, 13), (22, 26, 18)] l W [v3x0, v3x1, v3x2, v3x3, v3x4, v3x5, v3x6, v3x7, v3x8, v3x9, v3x10, v3x11, v3x12, v3x13, v3x14, v3x15, v3x16, v3x17, v3x18, v3x19, v3x20, v3x21, v3x22, undef, undef, undef, undef] ∧ (l.getD 23 false = true → l.getD 18 false = true) ∧ (l.getD 18 false = true → l.getD 13 false = true) ∧ (l.getD 13 false = true → l.getD 8 false = true)) → ∀ i, i ∈ Region.ready .any #[{ dst := some 16, op := Op.fieldAddr 28 (Operand.tmp 1) 0, type := 0, pos := "law.go:159", after := #[], guard := none }, { dst := some 17, op := Op.load 25 (Operand.tmp 16), type := 25, pos := "law.go:159", after := #[{ on := 0, ground := Ground.data }], guard := none }, { dst := some 18, op := Op.call { callee := Callee.value (Operand.func 7), args := #[Operand.tmp 17], argTypes := #[25] }, type := 25, pos := "law.go:159", after := #[{ on := 1, ground := Ground.data }], guard := none }, { dst := some 19, op := Op.fieldAddr 28 (Operand.tmp 1) 0, type := 0, pos := "law.go:159", after := #[], guard := none }, { dst := some 20, op := Op.load 25 (Operand.tmp 19), type := 25, pos := "law.go:159", after := #[{ on := 3, ground := Ground.data }], guard := none }, { dst := some 21, op := Op.fieldAddr 28 (Operand.tmp 1) 1, type := 0, pos := "law.go:159", after := #[], guard := none }, { dst := some 22, op := Op.load 25 (Operand.tmp 21), type := 25, pos := "law.go:159", after := #[{ on := 5, ground := Ground.data }], guard := none }, { dst := some 23, op := Op.buildSlice 54 2 #[(0, Operand.tmp 20), (1, Operand.tmp 22)], type := 54, pos := "law.go:159", after := #[{ on := 4, ground := Ground.data }, { on := 6, ground := Ground.data }], guard := none }, { dst := some 24, op := Op.call { callee := Callee.value (Operand.func 8), args := #[Operand.tmp 23], argTypes := #[54] }, type := 25, pos := "law.go:159", after := #[{ on := 7, ground := Ground.data }, { on := 2, ground := Ground.chain }], guard := none }, { dst := some 25, op := Op.fieldAddr 28 (Operand.tmp 1) 0, type := 0, pos := "law.go:159", after := #[], guard := none }, { dst := some 26, op := Op.load 25 (Operand.tmp 25), type := 25, pos := "law.go:159", after := #[{ on := 9, ground := Ground.data }], guard := none }, { dst := some 27, op := Op.fieldAddr 28 (Operand.tmp 1) 1, type := 0, pos := "law.go:159", after := #[], guard := none }, { dst := some 28, op := Op.load 25 (Operand.tmp 27), type := 25, pos := "law.go:159", after := #[{ on := 11, ground := Ground.data }], guard := none }, { dst := some 29, op := Op.call { callee := Callee.value (Operand.func 9), args := #[Operand.tmp 26, Operand.tmp 28], argTypes := #[25, 25] }, type := 25, pos := "law.go:159", after := #[{ on := 10, ground := Ground.data }, { on := 12, ground := Ground.data }, { on := 8, ground := Ground.chain }], guard := none }, { dst := some 30, op := Op.fieldAddr 28 (Operand.tmp 1) 0, type := 0, pos := "law.go:159", after := #[], guard := none }, { dst := some 31, op := Op.load 25 (Operand.tmp 30), type := 25, pos := "law.go:159", after := #[{ on := 14, ground := Ground.data }], guard := none }, { dst := some 32, op := Op.fieldAddr 28 (Operand.tmp 1) 1, type := 0, pos := "law.go:159", after := #[], guard := none }, { dst := some 33, op := Op.load 25 (Operand.tmp 32), type := 25, pos := "law.go:159", after := #[{ on := 16, ground := Ground.data }], guard := none }, { dst := some 34, op := Op.call { callee := Callee.value (Operand.func 10), args := #[Operand.tmp 31, Operand.tmp 33], argTypes := #[25, 25] }, type := 25, pos := "law.go:159", after := #[{ on := 15, ground := Ground.data }, { on := 17, ground := Ground.data }, { on := 13, ground := Ground.chain }], guard := none }, { dst := some 3, op := Op.alloc 25, type := 0, pos := "law.go:159", after := #[], guard := none }, { dst := some 4, op := Op.alloc 25, type := 0, pos := "law.go:159", after := #[], guard := none }, { dst := some 5, op := Op.alloc 25, type := 0, pos := "law.go:159", after := #[], guard := none }, { dst := some 6, op := Op.alloc 25, type := 0, pos := "law.go:159", after := #[], guard := none }, { dst := none, op := Op.store 25 (Operand.tmp 3) (Operand.tmp 18), type := 0, pos := "law.go:159", after := #[{ on := 19, ground := Ground.data }, { on := 2, ground := Ground.data }, { on := 18, ground := Ground.chain }, { on := 0, ground := Ground.phase }, { on := 1, ground := Ground.phase }, { on := 2, ground := Ground.phase }, { on := 3, ground := Ground.textOnly Departure.lateStores }, { on := 4, ground := Ground.textOnly Departure.lateStores }, { on := 5, ground := Ground.textOnly Departure.lateStores }, { on := 6, ground := Ground.textOnly Departure.lateStores }, { on := 7, ground := Ground.textOnly Departure.lateStores }, { on := 8, ground := Ground.textOnly Departure.lateStoresUnsure }, { on := 9, ground := Ground.textOnly Departure.lateStores }, { on := 10, ground := Ground.textOnly Departure.lateStores }, { on := 11, ground := Ground.textOnly Departure.lateStores }, { on := 12, ground := Ground.textOnly Departure.lateStores }, { on := 13, ground := Ground.textOnly Departure.lateStoresUnsure }, { on := 14, ground := Ground.textOnly Departure.lateStores }, { on := 15, ground := Ground.textOnly Departure.lateStores }, { on := 16, ground := Ground.textOnly Departure.lateStores }, { on := 17, ground := Ground.textOnly Departure.lateStores }, { on := 18, ground := Ground.textOnly Departure.lateStoresUnsure }, { on := 19, ground := Ground.phase }, { on := 20, ground := Ground.phase }, { on := 21, ground := Ground.phase }, { on := 22, ground := Ground.phase }], guard := none }, { dst := none, op := Op.store 25 (Operand.tmp 4) (Operand.tmp 24), type := 0, pos := "law.go:159", after := #[{ on := 20, ground := Ground.data }, { on := 8, ground := Ground.data }, { on := 23, ground := Ground.chain }, { on := 0, ground := Ground.phase }, { on := 1, ground := Ground.phase }, { on := 2, ground := Ground.phase }, { on := 3, ground := Ground.phase }, { on := 4, ground := Ground.phase }, { on := 5, ground := Ground.phase }, { on := 6, ground := Ground.phase }, { on := 7, ground := Ground.phase }, { on := 8, ground := Ground.phase }, { on := 9, ground := Ground.textOnly Departure.lateStores }, { on := 10, ground := Ground.textOnly Departure.lateStores }, { on := 11, ground := Ground.textOnly Departure.lateStores }, { on := 12, ground := Ground.textOnly Departure.lateStores }, { on := 13, ground := Ground.textOnly Departure.lateStoresUnsure }, { on := 14, ground := Ground.textOnly Departure.lateStores }, { on := 15, ground := Ground.textOnly Departure.lateStores }, { on := 16, ground := Ground.textOnly Departure.lateStores }, { on := 17, ground := Ground.textOnly Departure.lateStores }, { on := 18, ground := Ground.textOnly Departure.lateStoresUnsure }, { on := 19, ground := Ground.phase }, { on := 20, ground := Ground.phase }, { on := 21, ground := Ground.phase }, { on := 22, ground := Ground.phase }, { on := 23, ground := Ground.phase }], guard := none }, { dst := none, op := Op.store 25 (Operand.tmp 5) (Operand.tmp 29), type := 0, pos := "law.go:159", after := #[{ on := 21, ground := Ground.data }, { on := 13, ground := Ground.data }, { on := 24, ground := Ground.chain }, { on := 0, ground := Ground.phase }, { on := 1, ground := Ground.phase }, { on := 2, ground := Ground.phase }, { on := 3, ground := Ground.phase }, { on := 4, ground := Ground.phase }, { on := 5, ground := Ground.phase }, { on := 6, ground := Ground.phase }, { on := 7, ground := Ground.phase }, { on := 8, ground := Ground.phase }, { on := 9, ground := Ground.phase }, { on := 10, ground := Ground.phase }, { on := 11, ground := Ground.phase }, { on := 12, ground := Ground.phase }, { on := 13, ground := Ground.phase }, { on := 14, ground := Ground.textOnly Departure.lateStores }, { on := 15, ground := Ground.textOnly Departure.lateStores }, { on := 16, ground := Ground.textOnly Departure.lateStores }, { on := 17, ground := Ground.textOnly Departure.lateStores }, { on := 18, ground := Ground.textOnly Departure.lateStoresUnsure }, { on := 19, ground := Ground.phase }, { on := 20, ground := Ground.phase }, { on := 21, ground := Ground.phase }, { on := 22, ground := Ground.phase }, { on := 23, ground := Ground.phase }, { on := 24, ground := Ground.phase }], guard := none }, { dst := none, op := Op.store 25 (Operand.tmp 6) (Operand.tmp 34), type := 0, pos := "law.go:159", after := #[{ on := 22, ground := Ground.data }, { on := 18, ground := Ground.data }, { on := 25, ground := Ground.chain }, { on := 0, ground := Ground.phase }, { on := 1, ground := Ground.phase }, { on := 2, ground := Ground.phase }, { on := 3, ground := Ground.phase }, { on := 4, ground := Ground.phase }, { on := 5, ground := Ground.phase }, { on := 6, ground := Ground.phase }, { on := 7, ground := Ground.phase }, { on := 8, ground := Ground.phase }, { on := 9, ground := Ground.phase }, { on := 10, ground := Ground.phase }, { on := 11, ground := Ground.phase }, { on := 12, ground := Ground.phase }, { on := 13, ground := Ground.phase }, { on := 14, ground := Ground.phase }, { on := 15, ground := Ground.phase }, { on := 16, ground := Ground.phase }, { on := 17, ground := Ground.phase }, { on := 18, ground := Ground.phase }, { on := 19, ground := Ground.phase }, { on := 20, ground := Ground.phase }, { on := 21, ground := Ground.phase }, { on := 22, ground := Ground.phase }, { on := 23, ground := Ground.phase }, { on := 24, ground := Ground.phase }, { on := 25, ground := Ground.phase }], guard := none }] l → wpOp Try.prog #[{ dst := some 16, op := Op.fieldAddr 28 (Operand.tmp 1) 0, type := 0, pos := "law.go:159", after := #[], guard := none }, { dst := some 17, op := Op.load 25 (Operand.tmp 16), type := 25, pos := "law.go:159", after := #[{ on := 0, ground := Ground.data }], guard := none }, { dst := some 18, op := Op.call { callee := Callee.value (Operand.func 7), args := #[Operand.tmp 17], argTypes := #[25] }, type := 25, pos := "law.go:159", after := #[{ on := 1, ground := Ground.data }], guard := none }, { dst := some 19, op := Op.fieldAddr 28 (Operand.tmp 1) 0, type := 0, pos := "law.go:159", after := #[], guard := none }, { dst := some 20, op := Op.load 25 (Operand.tmp 19), type := 25, pos := "law.go:159", after := #[{ on := 3, ground := Ground.data }], guard := none }, { dst := some 21, op := Op.fieldAddr 28 (Operand.tmp 1) 1, type := 0, pos := "law.go:159", after := #[], guard := none }, { dst := some 22, op := Op.load 25 (Operand.tmp 21), type := 25, pos := "law.go:159", after := #[{ on := 5, ground := Ground.data }], guard := none }, { dst := some 23, op := Op.buildSlice 54 2 #[(0, Operand.tmp 20), (1, Operand.tmp 22)], type := 54, pos := "law.go:159", after := #[{ on := 4, ground := Ground.data }, { on := 6, ground := Ground.data }], guard := none }, { dst := some 24, op := Op.call { callee := Callee.value (Operand.func 8), args := #[Operand.tmp 23], argTypes := #[54] }, type := 25, pos := "law.go:159", after := #[{ on := 7, ground := Ground.data }, { on := 2, ground := Ground.chain }], guard := none }, { dst := some 25, op := Op.fieldAddr 28 (Operand.tmp 1) 0, type := 0, pos := "law.go:159", after := #[], guard := none }, { dst := some 26, op := Op.load 25 (Operand.tmp 25), type := 25, pos := "law.go:159", after := #[{ on := 9, ground := Ground.data }], guard := none }, { dst := some 27, op := Op.fieldAddr 28 (Operand.tmp 1) 1, type := 0, pos := "law.go:159", after := #[], guard := none }, { dst := some 28, op := Op.load 25 (Operand.tmp 27), type := 25, pos := "law.go:159", after := #[{ on := 11, ground := Ground.data }], guard := none }, { dst := some 29, op := Op.call { callee := Callee.value (Operand.func 9), args := #[Operand.tmp 26, Operand.tmp 28], argTypes := #[25, 25] }, type := 25, pos := "law.go:159", after := #[{ on := 10, ground := Ground.data }, { on := 12, ground := Ground.data }, { on := 8, ground := Ground.chain }], guard := none }, { dst := some 30, op := Op.fieldAddr 28 (Operand.tmp 1) 0, type := 0, pos := "law.go:159", after := #[], guard := none }, { dst := some 31, op := Op.load 25 (Operand.tmp 30), type := 25, pos := "law.go:159", after := #[{ on := 14, ground := Ground.data }], guard := none }, { dst := some 32, op := Op.fieldAddr 28 (Operand.tmp 1) 1, type := 0, pos := "law.go:159", after := #[], guard := none }, { dst := some 33, op := Op.load 25 (Operand.tmp 32), type := 25, pos := "law.go:159", after := #[{ on := 16, ground := Ground.data }], guard := none }, { dst := some 34, op := Op.call { callee := Callee.value (Operand.func 10), args := #[Operand.tmp 31, Operand.tmp 33], argTypes := #[25, 25] }, type := 25, pos := "law.go:159", after := #[{ on := 15, ground := Ground.data }, { on := 17, ground := Ground.data }, { on := 13, ground := Ground.chain }], guard := none }, { dst := some 3, op := Op.alloc 25, type := 0, pos := "law.go:159", after := #[], guard := none }, { dst := some 4, op := Op.alloc 25, type := 0, pos := "law.go:159", after := #[], guard := none }, { dst := some 5, op := Op.alloc 25, type := 0, pos := "law.go:159", after := #[], guard := none }, { dst := some 6, op := Op.alloc 25, type := 0, pos := "law.go:159", after := #[], guard := none }, { dst := none, op := Op.store 25 (Operand.tmp 3) (Operand.tmp 18), type := 0, pos := "law.go:159", after := #[{ on := 19, ground := Ground.data }, { on := 2, ground := Ground.data }, { on := 18, ground := Ground.chain }, { on := 0, ground := Ground.phase }, { on := 1, ground := Ground.phase }, { on := 2, ground := Ground.phase }, { on := 3, ground := Ground.textOnly Departure.lateStores }, { on := 4, ground := Ground.textOnly Departure.lateStores }, { on := 5, ground := Ground.textOnly Departure.lateStores }, { on := 6, ground := Ground.textOnly Departure.lateStores }, { on := 7, ground := Ground.textOnly Departure.lateStores }, { on := 8, ground := Ground.textOnly Departure.lateStoresUnsure }, { on := 9, ground := Ground.textOnly Departure.lateStores }, { on := 10, ground := Ground.textOnly Departure.lateStores }, { on := 11, ground := Ground.textOnly Departure.lateStores }, { on := 12, ground := Ground.textOnly Departure.lateStores }, { on := 13, ground := Ground.textOnly Departure.lateStoresUnsure }, { on := 14, ground := Ground.textOnly Departure.lateStores }, { on := 15, ground := Ground.textOnly Departure.lateStores }, { on := 16, ground := Ground.textOnly Departure.lateStores }, { on := 17, ground := Ground.textOnly Departure.lateStores }, { on := 18, ground := Ground.textOnly Departure.lateStoresUnsure }, { on := 19, ground := Ground.phase }, { on := 20, ground := Ground.phase }, { on := 21, ground := Ground.phase }, { on := 22, ground := Ground.phase }], guard := none }, { dst := none, op := Op.store 25 (Operand.tmp 4) (Operand.tmp 24), type := 0, pos := "law.go:159", after := #[{ on := 20, ground := Ground.data }, { on := 8, ground := Ground.data }, { on := 23, ground := Ground.chain }, { on := 0, ground := Ground.phase }, { on := 1, ground := Ground.phase }, { on := 2, ground := Ground.phase }, { on := 3, ground := Ground.phase }, { on := 4, ground := Ground.phase }, { on := 5, ground := Ground.phase }, { on := 6, ground := Ground.phase }, { on := 7, ground := Ground.phase }, { on := 8, ground := Ground.phase }, { on := 9, ground := Ground.textOnly Departure.lateStores }, { on := 10, ground := Ground.textOnly Departure.lateStores }, { on := 11, ground := Ground.textOnly Departure.lateStores }, { on := 12, ground := Ground.textOnly Departure.lateStores }, { on := 13, ground := Ground.textOnly Departure.lateStoresUnsure }, { on := 14, ground := Ground.textOnly Departure.lateStores }, { on := 15, ground := Ground.textOnly Departure.lateStores }, { on := 16, ground := Ground.textOnly Departure.lateStores }, { on := 17, ground := Ground.textOnly Departure.lateStores }, { on := 18, ground := Ground.textOnly Departure.lateStoresUnsure }, { on := 19, ground := Ground.phase }, { on := 20, ground := Ground.phase }, { on := 21, ground := Ground.phase }, { on := 22, ground := Ground.phase }, { on := 23, ground := Ground.phase }], guard := none }, { dst := none, op := Op.store 25 (Operand.tmp 5) (Operand.tmp 29), type := 0, pos := "law.go:159", after := #[{ on := 21, ground := Ground.data }, { on := 13, ground := Ground.data }, { on := 24, ground := Ground.chain }, { on := 0, ground := Ground.phase }, { on := 1, ground := Ground.phase }, { on := 2, ground := Ground.phase }, { on := 3, ground := Ground.phase }, { on := 4, ground := Ground.phase }, { on := 5, ground := Ground.phase }, { on := 6, ground := Ground.phase }, { on := 7, ground := Ground.phase }, { on := 8, ground := Ground.phase }, { on := 9, ground := Ground.phase }, { on := 10, ground := Ground.phase }, { on := 11, ground := Ground.phase }, { on := 12, ground := Ground.phase }, { on := 13, ground := Ground.phase }, { on := 14, ground := Ground.textOnly Departure.lateStores }, { on := 15, ground := Ground.textOnly Departure.lateStores }, { on := 16, ground := Ground.textOnly Departure.lateStores }, { on := 17, ground := Ground.textOnly Departure.lateStores }, { on := 18, ground := Ground.textOnly Departure.lateStoresUnsure }, { on := 19, ground := Ground.phase }, { on := 20, ground := Ground.phase }, { on := 21, ground := Ground.phase }, { on := 22, ground := Ground.phase }, { on := 23, ground := Ground.phase }, { on := 24, ground := Ground.phase }], guard := none }, { dst := none, op := Op.store 25 (Operand.tmp 6) (Operand.tmp 34), type := 0, pos := "law.go:159", after := #[{ on := 22, ground := Ground.data }, { on := 18, ground := Ground.data }, { on := 25, ground := Ground.chain }, { on := 0, ground := Ground.phase }, { on := 1, ground := Ground.phase }, { on := 2, ground := Ground.phase }, { on := 3, ground := Ground.phase }, { on := 4, ground := Ground.phase }, { on := 5, ground := Ground.phase }, { on := 6, ground := Ground.phase }, { on := 7, ground := Ground.phase }, { on := 8, ground := Ground.phase }, { on := 9, ground := Ground.phase }, { on := 10, ground := Ground.phase }, { on := 11, ground := Ground.phase }, { on := 12, ground := Ground.phase }, { on := 13, ground := Ground.phase }, { on := 14, ground := Ground.phase }, { on := 15, ground := Ground.phase }, { on := 16, ground := Ground.phase }, { on := 17, ground := Ground.phase }, { on := 18, ground := Ground.phase }, { on := 19, ground := Ground.phase }, { on := 20, ground := Ground.phase }, { on := 21, ground := Ground.phase }, { on := 22, ground := Ground.phase }, { on := 23, ground := Ground.phase }, { on := 24, ground := Ground.phase }, { on := 25, ground := Ground.phase }], guard := none }] Q i (fun a' w' => ∃ v3x0 v3x1 v3x2 v3x3 v3x4 v3x5 v3x6 v3x7 v3x8 v3x9 v3x10 v3x11 v3x12 v3x13 v3x14 v3x15 v3x16 v3x17 v3x18 v3x19 v3x20 v3x21 v3x22, a' = { tmps := #[CasV a b c dv rp ms, ptr w.heap.size, .bool false, v3x19, v3x20, v3x21, v3x22, undef, undef, undef, undef, undef, undef, undef, .bool true, .bool false, v3x0, v3x1, v3x2, v3x3, v3x4, v3x5, v3x6, v3x7, v3x8, v3x9, v3x10, v3x11, v3x12, v3x13, v3x14, v3x15, v3x16, v3x17, v3x18, undef, undef, undef, undef, undef, undef, undef, undef, undef, undef, undef, undef, undef, undef, undef, undef, undef, undef, undef, undef, undef, undef, undef, undef, undef, undef, undef, undef, undef, undef, undef, undef, undef, undef, undef, undef, undef, undef, undef, undef, undef, undef, undef, undef, undef, undef, undef, undef, undef, undef, undef, undef, undef, undef, undef, undef, undef, undef, undef, undef, undef, undef, undef, undef, undef, undef, undef, undef, undef, undef, undef, undef, undef, undef, undef, undef, undef, undef, undef, undef, undef, undef, undef, undef, undef, undef, undef, undef, undef, undef, undef, undef, undef, undef, undef, undef, undef, undef, undef, undef, undef, undef, undef, undef, undef, undef, undef, undef, undef, undef, undef, undef, undef, undef, undef, undef, undef, undef, undef, undef, undef, undef, undef, undef, undef, undef, undef, undef, undef, undef, undef, undef, undef], defers := [] } ∧ BI 27 23 w1 (Ph3 a b c w w1) [7] [(2, IsP (mP a.P)), (8, IsP (mOr (mP a.P) (mP b.P))), (13, IsP (mAnd (mP a.P) (mP b.P))), (18, IsP (mNot (mP a.P) (mP b.P)))] [(19, 23, 2), (20, 24, 8), (21, 25, 13), (22, 26, 18)] (l.setIfInBounds i true) w' [v3x0, v3x1, v3x2, v3x3, v3x4, v3x5, v3x6, v3x7, v3x8, v3x9, v3x10, v3x11, v3x12, v3x13, v3x14, v3x15, v3x16, v3x17, v3x18, v3x19, v3x20, v3x21, v3x22, undef, undef, undef, undef] ∧ ((l.setIfInBounds i true).getD 23 false = true → (l.setIfInBounds i true).getD 18 false = true) ∧ ((l.setIfInBounds i true).getD 18 false = true → (l.setIfInBounds i true).getD 13 false = true) ∧ ((l.setIfInBounds i true).getD 13 false = true → (l.setIfInBounds i true).getD 8 false = true)) x W := by
  rintro l x W ⟨v3x0, v3x1, v3x2, v3x3, v3x4, v3x5, v3x6, v3x7, v3x8, v3x9, v3x10, v3x11, v3x12, v3x13, v3x14, v3x15, v3x16, v3x17, v3x18, v3x19, v3x20, v3x21, v3x22, rfl, T, XX⟩ i hi
  have HXX := hide XX
  clear XX
  obtain ⟨hi1, hi2, hi3⟩ := ready_mem hi
  have hi4 := no_true hi2
  have hc : i = 0 ∨ i = 1 ∨ i = 2 ∨ i = 3 ∨ i = 4 ∨ i = 5 ∨ i = 6 ∨ i = 7 ∨ i = 8 ∨ i = 9 ∨ i = 10 ∨ i = 11 ∨ i = 12 ∨ i = 13 ∨ i = 14 ∨ i = 15 ∨ i = 16 ∨ i = 17 ∨ i = 18 ∨ i = 19 ∨ i = 20 ∨ i = 21 ∨ i = 22 ∨ i = 23 ∨ i = 24 ∨ i = 25 ∨ i = 26 := by have h : i < 27 := hi1; omega
  have HT := hide T
  clear T
  rcases hc with rfl | rfl | rfl | rfl | rfl | rfl | rfl | rfl | rfl | rfl | rfl | rfl | rfl | rfl | rfl | rfl | rfl | rfl | rfl | rfl | rfl | rfl | rfl | rfl | rfl | rfl | rfl
  · have HL := hide hi4
    clear hi hi1 hi2 hi3 hi4
    refine wpOp_step (o := { dst := some 16, op := Op.fieldAddr 28 (Operand.tmp 1) 0, type := 0, pos := "law.go:159", after := #[], guard := none }) rfl (fun K hK => ?_)
    go_simp
    exact hK _ _ ⟨.pointer (some ⟨w.heap.size, 0, none⟩), v3x1, v3x2, v3x3, v3x4, v3x5, v3x6, v3x7, v3x8, v3x9, v3x10, v3x11, v3x12, v3x13, v3x14, v3x15, v3x16, v3x17, v3x18, v3x19, v3x20, v3x21, v3x22, rfl, HT.out.plain (Ph3_mono a b c w w1) (Below.refl _ _) 0 (by decide) HL.out _ rfl (by simp) (by simp) (by decide), ext_step HXX.out.1 (by decide), ext_step HXX.out.2.1 (by decide), ext_step HXX.out.2.2 (by decide)⟩
  · have d0 := hi3 _ rfl { on := 0, ground := Ground.data } (by simp) rfl
    have e0 : v3x0 = .pointer (some ⟨w.heap.size, 0, none⟩) := HT.out.h 0 (by decide) d0 (fun hm => absurd hm (by decide))
    subst e0
    have HL := hide hi4
    clear hi hi1 hi2 hi3 hi4 d0
    have l1 := run_ldP (HCB.out.below HT.out.b).pa
    refine wpOp_step (o := { dst := some 17, op := Op.load 25 (Operand.tmp 16), type := 25, pos := "law.go:159", after := #[{ on := 0, ground := Ground.data }], guard := none }) rfl (fun K hK => ?_)
    go_simp
    exact hK _ _ ⟨_, PV a, v3x2, v3x3, v3x4, v3x5, v3x6, v3x7, v3x8, v3x9, v3x10, v3x11, v3x12, v3x13, v3x14, v3x15, v3x16, v3x17, v3x18, v3x19, v3x20, v3x21, v3x22, rfl, HT.out.plain (Ph3_mono a b c w w1) (Below.refl _ _) 1 (by decide) HL.out _ rfl (by simp) (by simp) (by decide), ext_step HXX.out.1 (by decide), ext_step HXX.out.2.1 (by decide), ext_step HXX.out.2.2 (by decide)⟩
  · have d1 := hi3 _ rfl { on := 1, ground := Ground.data } (by simp) rfl
    have e1 : v3x1 = PV a := HT.out.h 1 (by decide) d1 (fun hm => absurd hm (by decide))
    subst e1
    have HL := hide hi4
    clear hi hi1 hi2 hi3 hi4 d1
    refine wpOp_step (o := { dst := some 18, op := Op.call { callee := Callee.value (Operand.func 7), args := #[Operand.tmp 17], argTypes := #[25] }, type := 25, pos := "law.go:159", after := #[{ on := 1, ground := Ground.data }], guard := none }) rfl (fun K hK => ?_)
    go_simp
    go_wp2_with fail
    refine (pastNorm_any a _ (HA.out.below HT.out.b)).mono ?_
    rintro e w' ⟨pp, rfl, pS, pN, pb, pq⟩
    exact hK _ _ ⟨v3x0, _, PV pp, v3x3, v3x4, v3x5, v3x6, v3x7, v3x8, v3x9, v3x10, v3x11, v3x12, v3x13, v3x14, v3x15, v3x16, v3x17, v3x18, v3x19, v3x20, v3x21, v3x22, rfl, HT.out.call (Ph3_mono a b c w w1) pb 2 (IsP (mP a.P)) (by decide) HL.out (by simp) (by simp) pp pS pN (isP_norm pq) (fun _ _ => trivial) (by simp) (by decide), ext_step HXX.out.1 (by decide), ext_step HXX.out.2.1 (by decide), ext_step HXX.out.2.2 (by decide)⟩
  · have HL := hide hi4
    clear hi hi1 hi2 hi3 hi4
    refine wpOp_step (o := { dst := some 19, op := Op.fieldAddr 28 (Operand.tmp 1) 0, type := 0, pos := "law.go:159", after := #[], guard := none }) rfl (fun K hK => ?_)
    go_simp
    exact hK _ _ ⟨v3x0, v3x1, v3x2, .pointer (some ⟨w.heap.size, 0, none⟩), v3x4, v3x5, v3x6, v3x7, v3x8, v3x9, v3x10, v3x11, v3x12, v3x13, v3x14, v3x15, v3x16, v3x17, v3x18, v3x19, v3x20, v3x21, v3x22, rfl, HT.out.plain (Ph3_mono a b c w w1) (Below.refl _ _) 3 (by decide) HL.out _ rfl (by simp) (by simp) (by decide), ext_step HXX.out.1 (by decide), ext_step HXX.out.2.1 (by decide), ext_step HXX.out.2.2 (by decide)⟩
  · have d3 := hi3 _ rfl { on := 3, ground := Ground.data } (by simp) rfl
    have e3 : v3x3 = .pointer (some ⟨w.heap.size, 0, none⟩) := HT.out.h 3 (by decide) d3 (fun hm => absurd hm (by decide))
    subst e3
    have HL := hide hi4
    clear hi hi1 hi2 hi3 hi4 d3
    have l1 := run_ldP (HCB.out.below HT.out.b).pa
    refine wpOp_step (o := { dst := some 20, op := Op.load 25 (Operand.tmp 19), type := 25, pos := "law.go:159", after := #[{ on := 3, ground := Ground.data }], guard := none }) rfl (fun K hK => ?_)
    go_simp
    exact hK _ _ ⟨v3x0, v3x1, v3x2, _, PV a, v3x5, v3x6, v3x7, v3x8, v3x9, v3x10, v3x11, v3x12, v3x13, v3x14, v3x15, v3x16, v3x17, v3x18, v3x19, v3x20, v3x21, v3x22, rfl, HT.out.plain (Ph3_mono a b c w w1) (Below.refl _ _) 4 (by decide) HL.out _ rfl (by simp) (by simp) (by decide), ext_step HXX.out.1 (by decide), ext_step HXX.out.2.1 (by decide), ext_step HXX.out.2.2 (by decide)⟩
  · have HL := hide hi4
    clear hi hi1 hi2 hi3 hi4
    refine wpOp_step (o := { dst := some 21, op := Op.fieldAddr 28 (Operand.tmp 1) 1, type := 0, pos := "law.go:159", after := #[], guard := none }) rfl (fun K hK => ?_)
    go_simp
    exact hK _ _ ⟨v3x0, v3x1, v3x2, v3x3, v3x4, .pointer (some ⟨w.heap.size, 2, none⟩), v3x6, v3x7, v3x8, v3x9, v3x10, v3x11, v3x12, v3x13, v3x14, v3x15, v3x16, v3x17, v3x18, v3x19, v3x20, v3x21, v3x22, rfl, HT.out.plain (Ph3_mono a b c w w1) (Below.refl _ _) 5 (by decide) HL.out _ rfl (by simp) (by simp) (by decide), ext_step HXX.out.1 (by decide), ext_step HXX.out.2.1 (by decide), ext_step HXX.out.2.2 (by decide)⟩
  · have d5 := hi3 _ rfl { on := 5, ground := Ground.data } (by simp) rfl
    have e5 : v3x5 = .pointer (some ⟨w.heap.size, 2, none⟩) := HT.out.h 5 (by decide) d5 (fun hm => absurd hm (by decide))
    subst e5
    have HL := hide hi4
    clear hi hi1 hi2 hi3 hi4 d5
    have l1 := run_ldP (HCB.out.below HT.out.b).pb
    refine wpOp_step (o := { dst := some 22, op := Op.load 25 (Operand.tmp 21), type := 25, pos := "law.go:159", after := #[{ on := 5, ground := Ground.data }], guard := none }) rfl (fun K hK => ?_)
    go_simp
    exact hK _ _ ⟨v3x0, v3x1, v3x2, v3x3, v3x4, _, PV b, v3x7, v3x8, v3x9, v3x10, v3x11, v3x12, v3x13, v3x14, v3x15, v3x16, v3x17, v3x18, v3x19, v3x20, v3x21, v3x22, rfl, HT.out.plain (Ph3_mono a b c w w1) (Below.refl _ _) 6 (by decide) HL.out _ rfl (by simp) (by simp) (by decide), ext_step HXX.out.1 (by decide), ext_step HXX.out.2.1 (by decide), ext_step HXX.out.2.2 (by decide)⟩
  · have d4 := hi3 _ rfl { on := 4, ground := Ground.data } (by simp) rfl
    have d6 := hi3 _ rfl { on := 6, ground := Ground.data } (by simp) rfl
    have e4 : v3x4 = PV a := HT.out.h 4 (by decide) d4 (fun hm => absurd hm (by decide))
    subst e4
    have e6 : v3x6 = PV b := HT.out.h 6 (by decide) d6 (fun hm => absurd hm (by decide))
    subst e6
    have HL := hide hi4
    clear hi hi1 hi2 hi3 hi4 d4 d6
    refine wpOp_step (o := { dst := some 23, op := Op.buildSlice 54 2 #[(0, Operand.tmp 20), (1, Operand.tmp 22)], type := 54, pos := "law.go:159", after := #[{ on := 4, ground := Ground.data }, { on := 6, ground := Ground.data }], guard := none }) rfl (fun K hK => ?_)
    go_simp
    exact hK _ _ ⟨v3x0, v3x1, v3x2, v3x3, _, v3x5, _, .slice (some ⟨W.heap.size, 0, none⟩) 2 2, v3x8, v3x9, v3x10, v3x11, v3x12, v3x13, v3x14, v3x15, v3x16, v3x17, v3x18, v3x19, v3x20, v3x21, v3x22, rfl, HT.out.plain (Ph3_mono a b c w w1) (below_new _ _) 7 (by decide) HL.out _ ⟨_, rfl, prow_two W a b (HA.out.below HT.out.b) (HB.out.below HT.out.b)⟩ (by simp) (by simp) (by decide), ext_step HXX.out.1 (by decide), ext_step HXX.out.2.1 (by decide), ext_step HXX.out.2.2 (by decide)⟩
  · have d7 := hi3 _ rfl { on := 7, ground := Ground.data } (by simp) rfl
    have nst : l.getD 23 false = false := by
      cases e : l.getD 23 false with
      | false => rfl
      | true => have := (HXX.out.2.2 (HXX.out.2.1 (HXX.out.1 e))); rw [hi4] at this; cases this
    obtain ⟨g7, e7, R7⟩ : ∃ g, v3x7 = .slice (some ⟨g, 0, none⟩) 2 2 ∧ PRow W (some ⟨g, 0, none⟩) 2 [a, b] := HT.out.h 7 (by decide) d7 (fun _ => nst)
    subst e7
    have HR7 := hide R7
    clear R7
    have HL := hide hi4
    clear hi hi1 hi2 hi3 hi4 d7 nst
    refine wpOp_step (o := { dst := some 24, op := Op.call { callee := Callee.value (Operand.func 8), args := #[Operand.tmp 23], argTypes := #[54] }, type := 25, pos := "law.go:159", after := #[{ on := 7, ground := Ground.data }, { on := 2, ground := Ground.chain }], guard := none }) rfl (fun K hK => ?_)
    go_simp
    go_wp2_with fail
    refine (pastJoin_any _ 2 2 [a, b] _ HR7.out (by have h := HW.out; simp only [wt] at h ⊢; omega) (by omega)).mono ?_
    rintro e w' ⟨pp, rfl, pS, pN, pb, pq⟩
    exact hK _ _ ⟨v3x0, v3x1, v3x2, v3x3, v3x4, v3x5, v3x6, _, PV pp, v3x9, v3x10, v3x11, v3x12, v3x13, v3x14, v3x15, v3x16, v3x17, v3x18, v3x19, v3x20, v3x21, v3x22, rfl, HT.out.call (Ph3_mono a b c w w1) pb 8 (IsP (mOr (mP a.P) (mP b.P))) (by decide) HL.out (by simp) (by simp) pp pS pN (isP_join2 pq) (fun _ _ => trivial) (by simp) (by decide), ext_step HXX.out.1 (by decide), ext_step HXX.out.2.1 (by decide), ext_step HXX.out.2.2 (by decide)⟩
  · have HL := hide hi4
    clear hi hi1 hi2 hi3 hi4
    refine wpOp_step (o := { dst := some 25, op := Op.fieldAddr 28 (Operand.tmp 1) 0, type := 0, pos := "law.go:159", after := #[], guard := none }) rfl (fun K hK => ?_)
    go_simp
    exact hK _ _ ⟨v3x0, v3x1, v3x2, v3x3, v3x4, v3x5, v3x6, v3x7, v3x8, .pointer (some ⟨w.heap.size, 0, none⟩), v3x10, v3x11, v3x12, v3x13, v3x14, v3x15, v3x16, v3x17, v3x18, v3x19, v3x20, v3x21, v3x22, rfl, HT.out.plain (Ph3_mono a b c w w1) (Below.refl _ _) 9 (by decide) HL.out _ rfl (by simp) (by simp) (by decide), ext_step HXX.out.1 (by decide), ext_step HXX.out.2.1 (by decide), ext_step HXX.out.2.2 (by decide)⟩
  · have d9 := hi3 _ rfl { on := 9, ground := Ground.data } (by simp) rfl
    have e9 : v3x9 = .pointer (some ⟨w.heap.size, 0, none⟩) := HT.out.h 9 (by decide) d9 (fun hm => absurd hm (by decide))
    subst e9
    have HL := hide hi4
    clear hi hi1 hi2 hi3 hi4 d9
    have l1 := run_ldP (HCB.out.below HT.out.b).pa
    refine wpOp_step (o := { dst := some 26, op := Op.load 25 (Operand.tmp 25), type := 25, pos := "law.go:159", after := #[{ on := 9, ground := Ground.data }], guard := none }) rfl (fun K hK => ?_)
    go_simp
    exact hK _ _ ⟨v3x0, v3x1, v3x2, v3x3, v3x4, v3x5, v3x6, v3x7, v3x8, _, PV a, v3x11, v3x12, v3x13, v3x14, v3x15, v3x16, v3x17, v3x18, v3x19, v3x20, v3x21, v3x22, rfl, HT.out.plain (Ph3_mono a b c w w1) (Below.refl _ _) 10 (by decide) HL.out _ rfl (by simp) (by simp) (by decide), ext_step HXX.out.1 (by decide), ext_step HXX.out.2.1 (by decide), ext_step HXX.out.2.2 (by decide)⟩
  · have HL := hide hi4
    clear hi hi1 hi2 hi3 hi4
    refine wpOp_step (o := { dst := some 27, op := Op.fieldAddr 28 (Operand.tmp 1) 1, type := 0, pos := "law.go:159", after := #[], guard := none }) rfl (fun K hK => ?_)
    go_simp
    exact hK _ _ ⟨v3x0, v3x1, v3x2, v3x3, v3x4, v3x5, v3x6, v3x7, v3x8, v3x9, v3x10, .pointer (some ⟨w.heap.size, 2, none⟩), v3x12, v3x13, v3x14, v3x15, v3x16, v3x17, v3x18, v3x19, v3x20, v3x21, v3x22, rfl, HT.out.plain (Ph3_mono a b c w w1) (Below.refl _ _) 11 (by decide) HL.out _ rfl (by simp) (by simp) (by decide), ext_step HXX.out.1 (by decide), ext_step HXX.out.2.1 (by decide), ext_step HXX.out.2.2 (by decide)⟩
  · have d11 := hi3 _ rfl { on := 11, ground := Ground.data } (by simp) rfl
    have e11 : v3x11 = .pointer (some ⟨w.heap.size, 2, none⟩) := HT.out.h 11 (by decide) d11 (fun hm => absurd hm (by decide))
    subst e11
    have HL := hide hi4
    clear hi hi1 hi2 hi3 hi4 d11
    have l1 := run_ldP (HCB.out.below HT.out.b).pb
    refine wpOp_step (o := { dst := some 28, op := Op.load 25 (Operand.tmp 27), type := 25, pos := "law.go:159", after := #[{ on := 11, ground := Ground.data }], guard := none }) rfl (fun K hK => ?_)
    go_simp
    exact hK _ _ ⟨v3x0, v3x1, v3x2, v3x3, v3x4, v3x5, v3x6, v3x7, v3x8, v3x9, v3x10, _, PV b, v3x13, v3x14, v3x15, v3x16, v3x17, v3x18, v3x19, v3x20, v3x21, v3x22, rfl, HT.out.plain (Ph3_mono a b c w w1) (Below.refl _ _) 12 (by decide) HL.out _ rfl (by simp) (by simp) (by decide), ext_step HXX.out.1 (by decide), ext_step HXX.out.2.1 (by decide), ext_step HXX.out.2.2 (by decide)⟩
  · have dx := hi3 _ rfl { on := 8, ground := Ground.chain } (by simp) rfl
    have HDX := hide dx
    clear dx
    have d10 := hi3 _ rfl { on := 10, ground := Ground.data } (by simp) rfl
    have d12 := hi3 _ rfl { on := 12, ground := Ground.data } (by simp) rfl
    have e10 : v3x10 = PV a := HT.out.h 10 (by decide) d10 (fun hm => absurd hm (by decide))
    subst e10
    have e12 : v3x12 = PV b := HT.out.h 12 (by decide) d12 (fun hm => absurd hm (by decide))
    subst e12
    have HL := hide hi4
    clear hi hi1 hi2 hi3 hi4 d10 d12
    refine wpOp_step (o := { dst := some 29, op := Op.call { callee := Callee.value (Operand.func 9), args := #[Operand.tmp 26, Operand.tmp 28], argTypes := #[25, 25] }, type := 25, pos := "law.go:159", after := #[{ on := 10, ground := Ground.data }, { on := 12, ground := Ground.data }, { on := 8, ground := Ground.chain }], guard := none }) rfl (fun K hK => ?_)
    go_simp
    go_wp2_with fail
    refine (pastMeet_any a b _ (HA.out.below HT.out.b) (HB.out.below HT.out.b)).mono ?_
    rintro e w' ⟨pp, rfl, pS, pN, pb, pq⟩
    exact hK _ _ ⟨v3x0, v3x1, v3x2, v3x3, v3x4, v3x5, v3x6, v3x7, v3x8, v3x9, _, v3x11, _, PV pp, v3x14, v3x15, v3x16, v3x17, v3x18, v3x19, v3x20, v3x21, v3x22, rfl, HT.out.call (Ph3_mono a b c w w1) pb 13 (IsP (mAnd (mP a.P) (mP b.P))) (by decide) HL.out (by simp) (by simp) pp pS pN (isP_meet pq) (fun _ _ => trivial) (by simp) (by decide), ext_step HXX.out.1 (by decide), ext_step HXX.out.2.1 (by decide), ext_at HDX.out (by decide)⟩
  · have HL := hide hi4
    clear hi hi1 hi2 hi3 hi4
    refine wpOp_step (o := { dst := some 30, op := Op.fieldAddr 28 (Operand.tmp 1) 0, type := 0, pos := "law.go:159", after := #[], guard := none }) rfl (fun K hK => ?_)
    go_simp
    exact hK _ _ ⟨v3x0, v3x1, v3x2, v3x3, v3x4, v3x5, v3x6, v3x7, v3x8, v3x9, v3x10, v3x11, v3x12, v3x13, .pointer (some ⟨w.heap.size, 0, none⟩), v3x15, v3x16, v3x17, v3x18, v3x19, v3x20, v3x21, v3x22, rfl, HT.out.plain (Ph3_mono a b c w w1) (Below.refl _ _) 14 (by decide) HL.out _ rfl (by simp) (by simp) (by decide), ext_step HXX.out.1 (by decide), ext_step HXX.out.2.1 (by decide), ext_step HXX.out.2.2 (by decide)⟩
  · have d14 := hi3 _ rfl { on := 14, ground := Ground.data } (by simp) rfl
    have e14 : v3x14 = .pointer (some ⟨w.heap.size, 0, none⟩) := HT.out.h 14 (by decide) d14 (fun hm => absurd hm (by decide))
    subst e14
    have HL := hide hi4
    clear hi hi1 hi2 hi3 hi4 d14
    have l1 := run_ldP (HCB.out.below HT.out.b).pa
    refine wpOp_step (o := { dst := some 31, op := Op.load 25 (Operand.tmp 30), type := 25, pos := "law.go:159", after := #[{ on := 14, ground := Ground.data }], guard := none }) rfl (fun K hK => ?_)
    go_simp
    exact hK _ _ ⟨v3x0, v3x1, v3x2, v3x3, v3x4, v3x5, v3x6, v3x7, v3x8, v3x9, v3x10, v3x11, v3x12, v3x13, _, PV a, v3x16, v3x17, v3x18, v3x19, v3x20, v3x21, v3x22, rfl, HT.out.plain (Ph3_mono a b c w w1) (Below.refl _ _) 15 (by decide) HL.out _ rfl (by simp) (by simp) (by decide), ext_step HXX.out.1 (by decide), ext_step HXX.out.2.1 (by decide), ext_step HXX.out.2.2 (by decide)⟩
  · have HL := hide hi4
    clear hi hi1 hi2 hi3 hi4
    refine wpOp_step (o := { dst := some 32, op := Op.fieldAddr 28 (Operand.tmp 1) 1, type := 0, pos := "law.go:159", after := #[], guard := none }) rfl (fun K hK => ?_)
    go_simp
    exact hK _ _ ⟨v3x0, v3x1, v3x2, v3x3, v3x4, v3x5, v3x6, v3x7, v3x8, v3x9, v3x10, v3x11, v3x12, v3x13, v3x14, v3x15, .pointer (some ⟨w.heap.size, 2, none⟩), v3x17, v3x18, v3x19, v3x20, v3x21, v3x22, rfl, HT.out.plain (Ph3_mono a b c w w1) (Below.refl _ _) 16 (by decide) HL.out _ rfl (by simp) (by simp) (by decide), ext_step HXX.out.1 (by decide), ext_step HXX.out.2.1 (by decide), ext_step HXX.out.2.2 (by decide)⟩
  · have d16 := hi3 _ rfl { on := 16, ground := Ground.data } (by simp) rfl
    have e16 : v3x16 = .pointer (some ⟨w.heap.size, 2, none⟩) := HT.out.h 16 (by decide) d16 (fun hm => absurd hm (by decide))
    subst e16
    have HL := hide hi4
    clear hi hi1 hi2 hi3 hi4 d16
    have l1 := run_ldP (HCB.out.below HT.out.b).pb
    refine wpOp_step (o := { dst := some 33, op := Op.load 25 (Operand.tmp 32), type := 25, pos := "law.go:159", after := #[{ on := 16, ground := Ground.data }], guard := none }) rfl (fun K hK => ?_)
    go_simp
    exact hK _ _ ⟨v3x0, v3x1, v3x2, v3x3, v3x4, v3x5, v3x6, v3x7, v3x8, v3x9, v3x10, v3x11, v3x12, v3x13, v3x14, v3x15, _, PV b, v3x18, v3x19, v3x20, v3x21, v3x22, rfl, HT.out.plain (Ph3_mono a b c w w1) (Below.refl _ _) 17 (by decide) HL.out _ rfl (by simp) (by simp) (by decide), ext_step HXX.out.1 (by decide), ext_step HXX.out.2.1 (by decide), ext_step HXX.out.2.2 (by decide)⟩
  · have dx := hi3 _ rfl { on := 13, ground := Ground.chain } (by simp) rfl
    have HDX := hide dx
    clear dx
    have d15 := hi3 _ rfl { on := 15, ground := Ground.data } (by simp) rfl
    have d17 := hi3 _ rfl { on := 17, ground := Ground.data } (by simp) rfl
    have e15 : v3x15 = PV a := HT.out.h 15 (by decide) d15 (fun hm => absurd hm (by decide))
    subst e15
    have e17 : v3x17 = PV b := HT.out.h 17 (by decide) d17 (fun hm => absurd hm (by decide))
    subst e17
    have HL := hide hi4
    clear hi hi1 hi2 hi3 hi4 d15 d17
    refine wpOp_step (o := { dst := some 34, op := Op.call { callee := Callee.value (Operand.func 10), args := #[Operand.tmp 31, Operand.tmp 33], argTypes := #[25, 25] }, type := 25, pos := "law.go:159", after := #[{ on := 15, ground := Ground.data }, { on := 17, ground := Ground.data }, { on := 13, ground := Ground.chain }], guard := none }) rfl (fun K hK => ?_)
    go_simp
    go_wp2_with fail
    refine (pastMinus_any a b _ (HA.out.below HT.out.b) (HB.out.below HT.out.b)).mono ?_
    rintro e w' ⟨pp, rfl, pS, pN, pb, pq⟩
    exact hK _ _ ⟨v3x0, v3x1, v3x2, v3x3, v3x4, v3x5, v3x6, v3x7, v3x8, v3x9, v3x10, v3x11, v3x12, v3x13, v3x14, _, v3x16, _, PV pp, v3x19, v3x20, v3x21, v3x22, rfl, HT.out.call (Ph3_mono a b c w w1) pb 18 (IsP (mNot (mP a.P) (mP b.P))) (by decide) HL.out (by simp) (by simp) pp pS pN (isP_minus pq) (fun _ _ => trivial) (by simp) (by decide), ext_step HXX.out.1 (by decide), ext_at HDX.out (by decide), ext_step HXX.out.2.2 (by decide)⟩
  · have HL := hide hi4
    clear hi hi1 hi2 hi3 hi4
    refine wpOp_step (o := { dst := some 3, op := Op.alloc 25, type := 0, pos := "law.go:159", after := #[], guard := none }) rfl (fun K hK => ?_)
    go_simp
    exact hK _ _ ⟨v3x0, v3x1, v3x2, v3x3, v3x4, v3x5, v3x6, v3x7, v3x8, v3x9, v3x10, v3x11, v3x12, v3x13, v3x14, v3x15, v3x16, v3x17, v3x18, ptr W.heap.size, v3x20, v3x21, v3x22, rfl, HT.out.make (Ph3_mono a b c w w1) 19 23 2 (by decide) HL.out (by simp) (by simp) (by simp) (by simp) (fun _ _ => trivial) (by decide), ext_step HXX.out.1 (by decide), ext_step HXX.out.2.1 (by decide), ext_step HXX.out.2.2 (by decide)⟩
  · have HL := hide hi4
    clear hi hi1 hi2 hi3 hi4
    refine wpOp_step (o := { dst := some 4, op := Op.alloc 25, type := 0, pos := "law.go:159", after := #[], guard := none }) rfl (fun K hK => ?_)
    go_simp
    exact hK _ _ ⟨v3x0, v3x1, v3x2, v3x3, v3x4, v3x5, v3x6, v3x7, v3x8, v3x9, v3x10, v3x11, v3x12, v3x13, v3x14, v3x15, v3x16, v3x17, v3x18, v3x19, ptr W.heap.size, v3x21, v3x22, rfl, HT.out.make (Ph3_mono a b c w w1) 20 24 8 (by decide) HL.out (by simp) (by simp) (by simp) (by simp) (fun _ _ => trivial) (by decide), ext_step HXX.out.1 (by decide), ext_step HXX.out.2.1 (by decide), ext_step HXX.out.2.2 (by decide)⟩
  · have HL := hide hi4
    clear hi hi1 hi2 hi3 hi4
    refine wpOp_step (o := { dst := some 5, op := Op.alloc 25, type := 0, pos := "law.go:159", after := #[], guard := none }) rfl (fun K hK => ?_)
    go_simp
    exact hK _ _ ⟨v3x0, v3x1, v3x2, v3x3, v3x4, v3x5, v3x6, v3x7, v3x8, v3x9, v3x10, v3x11, v3x12, v3x13, v3x14, v3x15, v3x16, v3x17, v3x18, v3x19, v3x20, ptr W.heap.size, v3x22, rfl, HT.out.make (Ph3_mono a b c w w1) 21 25 13 (by decide) HL.out (by simp) (by simp) (by simp) (by simp) (fun _ _ => trivial) (by decide), ext_step HXX.out.1 (by decide), ext_step HXX.out.2.1 (by decide), ext_step HXX.out.2.2 (by decide)⟩
  · have HL := hide hi4
    clear hi hi1 hi2 hi3 hi4
    refine wpOp_step (o := { dst := some 6, op := Op.alloc 25, type := 0, pos := "law.go:159", after := #[], guard := none }) rfl (fun K hK => ?_)
    go_simp
    exact hK _ _ ⟨v3x0, v3x1, v3x2, v3x3, v3x4, v3x5, v3x6, v3x7, v3x8, v3x9, v3x10, v3x11, v3x12, v3x13, v3x14, v3x15, v3x16, v3x17, v3x18, v3x19, v3x20, v3x21, ptr W.heap.size, rfl, HT.out.make (Ph3_mono a b c w w1) 22 26 18 (by decide) HL.out (by simp) (by simp) (by simp) (by simp) (fun _ _ => trivial) (by decide), ext_step HXX.out.1 (by decide), ext_step HXX.out.2.1 (by decide), ext_step HXX.out.2.2 (by decide)⟩
  · have dx := hi3 _ rfl { on := 18, ground := Ground.chain } (by simp) rfl
    have HDX := hide dx
    clear dx
    have da := hi3 _ rfl { on := 19, ground := Ground.data } (by simp) rfl
    have dc := hi3 _ rfl { on := 2, ground := Ground.data } (by simp) rfl
    obtain ⟨pc, ec, -, -, -⟩ := HT.out.r (2, IsP (mP a.P)) (by simp) dc
    obtain ⟨g, eg, PB, T2⟩ := HT.out.fill 19 23 2 pc (by decide) hi4 (by simp) (by simp) (by simp) da dc (Or.inl rfl) ec (by simp) (by simp) (Ph3_inv a b c w w1) (fun _ _ => trivial) undef
    have fg : v3x19 = ptr g := eg
    have fc : v3x2 = PV pc := ec
    subst fg fc
    have s1 := run_stP (p' := pc) PB
    have HT2 := hide T2
    clear T2 PB eg ec da dc HT hi hi1 hi2 hi3 hi4
    refine wpOp_step (o := { dst := none, op := Op.store 25 (Operand.tmp 3) (Operand.tmp 18), type := 0, pos := "law.go:159", after := #[{ on := 19, ground := Ground.data }, { on := 2, ground := Ground.data }, { on := 18, ground := Ground.chain }, { on := 0, ground := Ground.phase }, { on := 1, ground := Ground.phase }, { on := 2, ground := Ground.phase }, { on := 3, ground := Ground.textOnly Departure.lateStores }, { on := 4, ground := Ground.textOnly Departure.lateStores }, { on := 5, ground := Ground.textOnly Departure.lateStores }, { on := 6, ground := Ground.textOnly Departure.lateStores }, { on := 7, ground := Ground.textOnly Departure.lateStores }, { on := 8, ground := Ground.textOnly Departure.lateStoresUnsure }, { on := 9, ground := Ground.textOnly Departure.lateStores }, { on := 10, ground := Ground.textOnly Departure.lateStores }, { on := 11, ground := Ground.textOnly Departure.lateStores }, { on := 12, ground := Ground.textOnly Departure.lateStores }, { on := 13, ground := Ground.textOnly Departure.lateStoresUnsure }, { on := 14, ground := Ground.textOnly Departure.lateStores }, { on := 15, ground := Ground.textOnly Departure.lateStores }, { on := 16, ground := Ground.textOnly Departure.lateStores }, { on := 17, ground := Ground.textOnly Departure.lateStores }, { on := 18, ground := Ground.textOnly Departure.lateStoresUnsure }, { on := 19, ground := Ground.phase }, { on := 20, ground := Ground.phase }, { on := 21, ground := Ground.phase }, { on := 22, ground := Ground.phase }], guard := none }) rfl (fun K hK => ?_)
    go_simp
    exact hK _ _ ⟨v3x0, v3x1, _, v3x3, v3x4, v3x5, v3x6, v3x7, v3x8, v3x9, v3x10, v3x11, v3x12, v3x13, v3x14, v3x15, v3x16, v3x17, v3x18, _, v3x20, v3x21, v3x22, rfl, HT2.out, ext_at HDX.out (by decide), ext_step HXX.out.2.1 (by decide), ext_step HXX.out.2.2 (by decide)⟩
  · have da := hi3 _ rfl { on := 20, ground := Ground.data } (by simp) rfl
    have dc := hi3 _ rfl { on := 8, ground := Ground.data } (by simp) rfl
    have dt := hi3 _ rfl { on := 23, ground := Ground.chain } (by simp) rfl
    obtain ⟨pc, ec, -, -, -⟩ := HT.out.r (8, IsP (mOr (mP a.P) (mP b.P))) (by simp) dc
    obtain ⟨g, eg, PB, T2⟩ := HT.out.fill 20 24 8 pc (by decide) hi4 (by simp) (by simp) (by simp) da dc (Or.inr dt) ec (by simp) (by simp) (Ph3_inv a b c w w1) (fun _ _ => trivial) undef
    have fg : v3x20 = ptr g := eg
    have fc : v3x8 = PV pc := ec
    subst fg fc
    have s1 := run_stP (p' := pc) PB
    have HT2 := hide T2
    clear T2 PB eg ec da dc dt HT hi hi1 hi2 hi3 hi4
    refine wpOp_step (o := { dst := none, op := Op.store 25 (Operand.tmp 4) (Operand.tmp 24), type := 0, pos := "law.go:159", after := #[{ on := 20, ground := Ground.data }, { on := 8, ground := Ground.data }, { on := 23, ground := Ground.chain }, { on := 0, ground := Ground.phase }, { on := 1, ground := Ground.phase }, { on := 2, ground := Ground.phase }, { on := 3, ground := Ground.phase }, { on := 4, ground := Ground.phase }, { on := 5, ground := Ground.phase }, { on := 6, ground := Ground.phase }, { on := 7, ground := Ground.phase }, { on := 8, ground := Ground.phase }, { on := 9, ground := Ground.textOnly Departure.lateStores }, { on := 10, ground := Ground.textOnly Departure.lateStores }, { on := 11, ground := Ground.textOnly Departure.lateStores }, { on := 12, ground := Ground.textOnly Departure.lateStores }, { on := 13, ground := Ground.textOnly Departure.lateStoresUnsure }, { on := 14, ground := Ground.textOnly Departure.lateStores }, { on := 15, ground := Ground.textOnly Departure.lateStores }, { on := 16, ground := Ground.textOnly Departure.lateStores }, { on := 17, ground := Ground.textOnly Departure.lateStores }, { on := 18, ground := Ground.textOnly Departure.lateStoresUnsure }, { on := 19, ground := Ground.phase }, { on := 20, ground := Ground.phase }, { on := 21, ground := Ground.phase }, { on := 22, ground := Ground.phase }, { on := 23, ground := Ground.phase }], guard := none }) rfl (fun K hK => ?_)
    go_simp
    exact hK _ _ ⟨v3x0, v3x1, v3x2, v3x3, v3x4, v3x5, v3x6, v3x7, _, v3x9, v3x10, v3x11, v3x12, v3x13, v3x14, v3x15, v3x16, v3x17, v3x18, v3x19, _, v3x21, v3x22, rfl, HT2.out, ext_step HXX.out.1 (by decide), ext_step HXX.out.2.1 (by decide), ext_step HXX.out.2.2 (by decide)⟩
  · have da := hi3 _ rfl { on := 21, ground := Ground.data } (by simp) rfl
    have dc := hi3 _ rfl { on := 13, ground := Ground.data } (by simp) rfl
    have dt := hi3 _ rfl { on := 23, ground := Ground.phase } (by simp) rfl
    obtain ⟨pc, ec, -, -, -⟩ := HT.out.r (13, IsP (mAnd (mP a.P) (mP b.P))) (by simp) dc
    obtain ⟨g, eg, PB, T2⟩ := HT.out.fill 21 25 13 pc (by decide) hi4 (by simp) (by simp) (by simp) da dc (Or.inr dt) ec (by simp) (by simp) (Ph3_inv a b c w w1) (fun _ _ => trivial) undef
    have fg : v3x21 = ptr g := eg
    have fc : v3x13 = PV pc := ec
    subst fg fc
    have s1 := run_stP (p' := pc) PB
    have HT2 := hide T2
    clear T2 PB eg ec da dc dt HT hi hi1 hi2 hi3 hi4
    refine wpOp_step (o := { dst := none, op := Op.store 25 (Operand.tmp 5) (Operand.tmp 29), type := 0, pos := "law.go:159", after := #[{ on := 21, ground := Ground.data }, { on := 13, ground := Ground.data }, { on := 24, ground := Ground.chain }, { on := 0, ground := Ground.phase }, { on := 1, ground := Ground.phase }, { on := 2, ground := Ground.phase }, { on := 3, ground := Ground.phase }, { on := 4, ground := Ground.phase }, { on := 5, ground := Ground.phase }, { on := 6, ground := Ground.phase }, { on := 7, ground := Ground.phase }, { on := 8, ground := Ground.phase }, { on := 9, ground := Ground.phase }, { on := 10, ground := Ground.phase }, { on := 11, ground := Ground.phase }, { on := 12, ground := Ground.phase }, { on := 13, ground := Ground.phase }, { on := 14, ground := Ground.textOnly Departure.lateStores }, { on := 15, ground := Ground.textOnly Departure.lateStores }, { on := 16, ground := Ground.textOnly Departure.lateStores }, { on := 17, ground := Ground.textOnly Departure.lateStores }, { on := 18, ground := Ground.textOnly Departure.lateStoresUnsure }, { on := 19, ground := Ground.phase }, { on := 20, ground := Ground.phase }, { on := 21, ground := Ground.phase }, { on := 22, ground := Ground.phase }, { on := 23, ground := Ground.phase }, { on := 24, ground := Ground.phase }], guard := none }) rfl (fun K hK => ?_)
    go_simp
    exact hK _ _ ⟨v3x0, v3x1, v3x2, v3x3, v3x4, v3x5, v3x6, v3x7, v3x8, v3x9, v3x10, v3x11, v3x12, _, v3x14, v3x15, v3x16, v3x17, v3x18, v3x19, v3x20, _, v3x22, rfl, HT2.out, ext_step HXX.out.1 (by decide), ext_step HXX.out.2.1 (by decide), ext_step HXX.out.2.2 (by decide)⟩
  · have da := hi3 _ rfl { on := 22, ground := Ground.data } (by simp) rfl
    have dc := hi3 _ rfl { on := 18, ground := Ground.data } (by simp) rfl
    have dt := hi3 _ rfl { on := 23, ground := Ground.phase } (by simp) rfl
    obtain ⟨pc, ec, -, -, -⟩ := HT.out.r (18, IsP (mNot (mP a.P) (mP b.P))) (by simp) dc
    obtain ⟨g, eg, PB, T2⟩ := HT.out.fill 22 26 18 pc (by decide) hi4 (by simp) (by simp) (by simp) da dc (Or.inr dt) ec (by simp) (by simp) (Ph3_inv a b c w w1) (fun _ _ => trivial) undef
    have fg : v3x22 = ptr g := eg
    have fc : v3x18 = PV pc := ec
    subst fg fc
    have s1 := run_stP (p' := pc) PB
    have HT2 := hide T2
    clear T2 PB eg ec da dc dt HT hi hi1 hi2 hi3 hi4
    refine wpOp_step (o := { dst := none, op := Op.store 25 (Operand.tmp 6) (Operand.tmp 34), type := 0, pos := "law.go:159", after := #[{ on := 22, ground := Ground.data }, { on := 18, ground := Ground.data }, { on := 25, ground := Ground.chain }, { on := 0, ground := Ground.phase }, { on := 1, ground := Ground.phase }, { on := 2, ground := Ground.phase }, { on := 3, ground := Ground.phase }, { on := 4, ground := Ground.phase }, { on := 5, ground := Ground.phase }, { on := 6, ground := Ground.phase }, { on := 7, ground := Ground.phase }, { on := 8, ground := Ground.phase }, { on := 9, ground := Ground.phase }, { on := 10, ground := Ground.phase }, { on := 11, ground := Ground.phase }, { on := 12, ground := Ground.phase }, { on := 13, ground := Ground.phase }, { on := 14, ground := Ground.phase }, { on := 15, ground := Ground.phase }, { on := 16, ground := Ground.phase }, { on := 17, ground := Ground.phase }, { on := 18, ground := Ground.phase }, { on := 19, ground := Ground.phase }, { on := 20, ground := Ground.phase }, { on := 21, ground := Ground.phase }, { on := 22, ground := Ground.phase }, { on := 23, ground := Ground.phase }, { on := 24, ground := Ground.phase }, { on := 25, ground := Ground.phase }], guard := none }) rfl (fun K hK => ?_)
    go_simp
    exact hK _ _ ⟨v3x0, v3x1, v3x2, v3x3, v3x4, v3x5, v3x6, v3x7, v3x8, v3x9, v3x10, v3x11, v3x12, v3x13, v3x14, v3x15, v3x16, v3x17, _, v3x19, v3x20, v3x21, _, rfl, HT2.out, ext_step HXX.out.1 (by decide), ext_step HXX.out.2.1 (by decide), ext_step HXX.out.2.2 (by decide)⟩
end Go.Proofs.Ytlnhafjpmkopgaa
