/- PastOrders: the steps of a region that draws its order. -/
import Derived.Test.YtlnhafjpmkopgaaPOh
namespace Go.Proofs.Ytlnhafjpmkopgaa
open Go.RowKit
attribute [local go_sem ↓] ldP_eq stP_eq
attribute [local go_sem] zero_PC cells_PV fold_PC PC_size fold_PC1 fold_PC2 fold_PC3 cells_CasV build_PC1
def PhO3 (a b c : Pv) (w : World) (ab bc ac : Int) (_ : World) : Nat → Value → World → Prop
  | 0, x, _ => x = .pointer (some ⟨w.heap.size, 0, none⟩)
  | 1, x, _ => x = PV a
  | 2, x, _ => x = .pointer (some ⟨w.heap.size, 2, none⟩)
  | 3, x, _ => x = PV b
  | 4, x, _ => x = .int .i64 ab
  | 5, x, _ => x = .pointer (some ⟨w.heap.size, 2, none⟩)
  | 6, x, _ => x = PV b
  | 7, x, _ => x = .pointer (some ⟨w.heap.size, 4, none⟩)
  | 8, x, _ => x = PV c
  | 9, x, _ => x = .int .i64 bc
  | 10, x, _ => x = .pointer (some ⟨w.heap.size, 0, none⟩)
  | 11, x, _ => x = PV a
  | 12, x, _ => x = .pointer (some ⟨w.heap.size, 4, none⟩)
  | 13, x, _ => x = PV c
  | 14, x, _ => x = .int .i64 ac
  | 15, x, _ => x = .int .i64 ab
  | 16, x, _ => x = .int .i64 bc
  | 17, x, _ => x = .int .i64 ac
  | _, _, _ => True
theorem PhO3_mono (a b c : Pv) (w : World) (ab bc ac : Int) (W0 : World) : Mono (PhO3 a b c w ab bc ac W0) := fun i _ _ _ h _ => match i with
  | 0 => h
  | 1 => h
  | 2 => h
  | 3 => h
  | 4 => h
  | 5 => h
  | 6 => h
  | 7 => h
  | 8 => h
  | 9 => h
  | 10 => h
  | 11 => h
  | 12 => h
  | 13 => h
  | 14 => h
  | 15 => h
  | 16 => h
  | 17 => h
  | _ + 18 => trivial
set_option maxRecDepth 100000 in
set_option maxHeartbeats 4000000 in
theorem stO3 {a b c : Pv} {dv : Value} {rp ms ab bc ac : Int} {w f1 w1 : World} (HCB : Hid (CBox w1 w.heap.size (CasC a b c dv rp ms))) (HA : Hid (PSrc w1 a)) (HB : Hid (PSrc w1 b)) (HC : Hid (PSrc w1 c)) (Hab : Hid (CmpOf a.P b.P ab)) (Hbc : Hid (CmpOf b.P c.P bc)) (Hac : Hid (CmpOf a.P c.P ac)) {Q : Exit → Act → World → Prop} :
    ∀ (l : Array Bool) (x : Act) (W : World), (∃ v3x0 v3x1 v3x2 v3x3 v3x4 v3x5 v3x6 v3x7 v3x8 v3x9 v3x10 v3x11 v3x12 v3x13 v3x14 v3x15 v3x16 v3x17, x = { tmps := #[CasV a b c dv rp ms, ptr w.heap.size, .bool false, v3x15, v3x16, v3x17, .bool true, .bool false, .bool false, .slice (some ⟨f1.heap.size, 0, none⟩) 1 1, PV (vv1 f1.heap.size 1), .slice (some ⟨f1.heap.size + 1, 0, none⟩) 1 1, PV (vv1 (f1.heap.size + 1) 2), .int .i64 (-1), .bool false, .bool false, v3x0, v3x1, v3x2, v3x3, v3x4, v3x5, v3x6, v3x7, v3x8, v3x9, v3x10, v3x11, v3x12, v3x13, v3x14, undef, undef, undef, undef, undef, undef, undef, undef, undef, undef, undef, undef, undef, undef, undef, undef, undef, undef, undef, undef, undef, undef, undef, undef, undef, undef, undef, undef, undef, undef, undef, undef, undef, undef, undef, undef, undef, undef, undef, undef, undef, undef, undef, undef, undef, undef, undef, undef, undef, undef, undef, undef, undef, undef, undef, undef, undef, undef, undef, undef, undef, undef, undef, undef, undef, undef, undef, undef, undef, undef, undef, undef, undef, undef, undef, undef, undef, undef, undef, undef, undef, undef, undef, undef, undef, undef, undef, undef, undef, undef, undef, undef, undef], defers := [] } ∧ BI 18 25 w1 (PhO3 a b c w ab bc ac w1) [] [] [] l W [v3x0, v3x1, v3x2, v3x3, v3x4, v3x5, v3x6, v3x7, v3x8, v3x9, v3x10, v3x11, v3x12, v3x13, v3x14, v3x15, v3x16, v3x17]) → ∀ i, i ∈ Region.ready .any #[{ dst := some 16, op := Op.fieldAddr 28 (Operand.tmp 1) 0, type := 0, pos := "law.go:216", after := #[], guard := none }, { dst := some 17, op := Op.load 25 (Operand.tmp 16), type := 25, pos := "law.go:216", after := #[{ on := 0, ground := Ground.data }], guard := none }, { dst := some 18, op := Op.fieldAddr 28 (Operand.tmp 1) 1, type := 0, pos := "law.go:216", after := #[], guard := none }, { dst := some 19, op := Op.load 25 (Operand.tmp 18), type := 25, pos := "law.go:216", after := #[{ on := 2, ground := Ground.data }], guard := none }, { dst := some 20, op := Op.call { callee := Callee.value (Operand.func 19), args := #[Operand.tmp 17, Operand.tmp 19], argTypes := #[25, 25] }, type := 3, pos := "law.go:216", after := #[{ on := 1, ground := Ground.data }, { on := 3, ground := Ground.data }], guard := none }, { dst := some 21, op := Op.fieldAddr 28 (Operand.tmp 1) 1, type := 0, pos := "law.go:216", after := #[], guard := none }, { dst := some 22, op := Op.load 25 (Operand.tmp 21), type := 25, pos := "law.go:216", after := #[{ on := 5, ground := Ground.data }], guard := none }, { dst := some 23, op := Op.fieldAddr 28 (Operand.tmp 1) 2, type := 0, pos := "law.go:216", after := #[], guard := none }, { dst := some 24, op := Op.load 25 (Operand.tmp 23), type := 25, pos := "law.go:216", after := #[{ on := 7, ground := Ground.data }], guard := none }, { dst := some 25, op := Op.call { callee := Callee.value (Operand.func 19), args := #[Operand.tmp 22, Operand.tmp 24], argTypes := #[25, 25] }, type := 3, pos := "law.go:216", after := #[{ on := 6, ground := Ground.data }, { on := 8, ground := Ground.data }, { on := 4, ground := Ground.chain }], guard := none }, { dst := some 26, op := Op.fieldAddr 28 (Operand.tmp 1) 0, type := 0, pos := "law.go:216", after := #[], guard := none }, { dst := some 27, op := Op.load 25 (Operand.tmp 26), type := 25, pos := "law.go:216", after := #[{ on := 10, ground := Ground.data }], guard := none }, { dst := some 28, op := Op.fieldAddr 28 (Operand.tmp 1) 2, type := 0, pos := "law.go:216", after := #[], guard := none }, { dst := some 29, op := Op.load 25 (Operand.tmp 28), type := 25, pos := "law.go:216", after := #[{ on := 12, ground := Ground.data }], guard := none }, { dst := some 30, op := Op.call { callee := Callee.value (Operand.func 19), args := #[Operand.tmp 27, Operand.tmp 29], argTypes := #[25, 25] }, type := 3, pos := "law.go:216", after := #[{ on := 11, ground := Ground.data }, { on := 13, ground := Ground.data }, { on := 9, ground := Ground.chain }], guard := none }, { dst := some 3, op := Op.assign (Operand.tmp 20), type := 3, pos := "law.go:216", after := #[{ on := 4, ground := Ground.data }, { on := 14, ground := Ground.chain }, { on := 0, ground := Ground.phase }, { on := 1, ground := Ground.phase }, { on := 2, ground := Ground.phase }, { on := 3, ground := Ground.phase }, { on := 4, ground := Ground.phase }, { on := 5, ground := Ground.textOnly Departure.lateStores }, { on := 6, ground := Ground.textOnly Departure.lateStores }, { on := 7, ground := Ground.textOnly Departure.lateStores }, { on := 8, ground := Ground.textOnly Departure.lateStores }, { on := 9, ground := Ground.textOnly Departure.lateStoresUnsure }, { on := 10, ground := Ground.textOnly Departure.lateStores }, { on := 11, ground := Ground.textOnly Departure.lateStores }, { on := 12, ground := Ground.textOnly Departure.lateStores }, { on := 13, ground := Ground.textOnly Departure.lateStores }, { on := 14, ground := Ground.textOnly Departure.lateStoresUnsure }], guard := none }, { dst := some 4, op := Op.assign (Operand.tmp 25), type := 3, pos := "law.go:216", after := #[{ on := 9, ground := Ground.data }, { on := 15, ground := Ground.chain }, { on := 0, ground := Ground.phase }, { on := 1, ground := Ground.phase }, { on := 2, ground := Ground.phase }, { on := 3, ground := Ground.phase }, { on := 4, ground := Ground.phase }, { on := 5, ground := Ground.phase }, { on := 6, ground := Ground.phase }, { on := 7, ground := Ground.phase }, { on := 8, ground := Ground.phase }, { on := 9, ground := Ground.phase }, { on := 10, ground := Ground.textOnly Departure.lateStores }, { on := 11, ground := Ground.textOnly Departure.lateStores }, { on := 12, ground := Ground.textOnly Departure.lateStores }, { on := 13, ground := Ground.textOnly Departure.lateStores }, { on := 14, ground := Ground.textOnly Departure.lateStoresUnsure }, { on := 15, ground := Ground.phase }], guard := none }, { dst := some 5, op := Op.assign (Operand.tmp 30), type := 3, pos := "law.go:216", after := #[{ on := 14, ground := Ground.data }, { on := 16, ground := Ground.chain }, { on := 0, ground := Ground.phase }, { on := 1, ground := Ground.phase }, { on := 2, ground := Ground.phase }, { on := 3, ground := Ground.phase }, { on := 4, ground := Ground.phase }, { on := 5, ground := Ground.phase }, { on := 6, ground := Ground.phase }, { on := 7, ground := Ground.phase }, { on := 8, ground := Ground.phase }, { on := 9, ground := Ground.phase }, { on := 10, ground := Ground.phase }, { on := 11, ground := Ground.phase }, { on := 12, ground := Ground.phase }, { on := 13, ground := Ground.phase }, { on := 14, ground := Ground.phase }, { on := 15, ground := Ground.phase }, { on := 16, ground := Ground.phase }], guard := none }] l → wpOp Try.prog #[{ dst := some 16, op := Op.fieldAddr 28 (Operand.tmp 1) 0, type := 0, pos := "law.go:216", after := #[], guard := none }, { dst := some 17, op := Op.load 25 (Operand.tmp 16), type := 25, pos := "law.go:216", after := #[{ on := 0, ground := Ground.data }], guard := none }, { dst := some 18, op := Op.fieldAddr 28 (Operand.tmp 1) 1, type := 0, pos := "law.go:216", after := #[], guard := none }, { dst := some 19, op := Op.load 25 (Operand.tmp 18), type := 25, pos := "law.go:216", after := #[{ on := 2, ground := Ground.data }], guard := none }, { dst := some 20, op := Op.call { callee := Callee.value (Operand.func 19), args := #[Operand.tmp 17, Operand.tmp 19], argTypes := #[25, 25] }, type := 3, pos := "law.go:216", after := #[{ on := 1, ground := Ground.data }, { on := 3, ground := Ground.data }], guard := none }, { dst := some 21, op := Op.fieldAddr 28 (Operand.tmp 1) 1, type := 0, pos := "law.go:216", after := #[], guard := none }, { dst := some 22, op := Op.load 25 (Operand.tmp 21), type := 25, pos := "law.go:216", after := #[{ on := 5, ground := Ground.data }], guard := none }, { dst := some 23, op := Op.fieldAddr 28 (Operand.tmp 1) 2, type := 0, pos := "law.go:216", after := #[], guard := none }, { dst := some 24, op := Op.load 25 (Operand.tmp 23), type := 25, pos := "law.go:216", after := #[{ on := 7, ground := Ground.data }], guard := none }, { dst := some 25, op := Op.call { callee := Callee.value (Operand.func 19), args := #[Operand.tmp 22, Operand.tmp 24], argTypes := #[25, 25] }, type := 3, pos := "law.go:216", after := #[{ on := 6, ground := Ground.data }, { on := 8, ground := Ground.data }, { on := 4, ground := Ground.chain }], guard := none }, { dst := some 26, op := Op.fieldAddr 28 (Operand.tmp 1) 0, type := 0, pos := "law.go:216", after := #[], guard := none }, { dst := some 27, op := Op.load 25 (Operand.tmp 26), type := 25, pos := "law.go:216", after := #[{ on := 10, ground := Ground.data }], guard := none }, { dst := some 28, op := Op.fieldAddr 28 (Operand.tmp 1) 2, type := 0, pos := "law.go:216", after := #[], guard := none }, { dst := some 29, op := Op.load 25 (Operand.tmp 28), type := 25, pos := "law.go:216", after := #[{ on := 12, ground := Ground.data }], guard := none }, { dst := some 30, op := Op.call { callee := Callee.value (Operand.func 19), args := #[Operand.tmp 27, Operand.tmp 29], argTypes := #[25, 25] }, type := 3, pos := "law.go:216", after := #[{ on := 11, ground := Ground.data }, { on := 13, ground := Ground.data }, { on := 9, ground := Ground.chain }], guard := none }, { dst := some 3, op := Op.assign (Operand.tmp 20), type := 3, pos := "law.go:216", after := #[{ on := 4, ground := Ground.data }, { on := 14, ground := Ground.chain }, { on := 0, ground := Ground.phase }, { on := 1, ground := Ground.phase }, { on := 2, ground := Ground.phase }, { on := 3, ground := Ground.phase }, { on := 4, ground := Ground.phase }, { on := 5, ground := Ground.textOnly Departure.lateStores }, { on := 6, ground := Ground.textOnly Departure.lateStores }, { on := 7, ground := Ground.textOnly Departure.lateStores }, { on := 8, ground := Ground.textOnly Departure.lateStores }, { on := 9, ground := Ground.textOnly Departure.lateStoresUnsure }, { on := 10, ground := Ground.textOnly Departure.lateStores }, { on := 11, ground := Ground.textOnly Departure.lateStores }, { on := 12, ground := Ground.textOnly Departure.lateStores }, { on := 13, ground := Ground.textOnly Departure.lateStores }, { on := 14, ground := Ground.textOnly Departure.lateStoresUnsure }], guard := none }, { dst := some 4, op := Op.assign (Operand.tmp 25), type := 3, pos := "law.go:216", after := #[{ on := 9, ground := Ground.data }, { on := 15, ground := Ground.chain }, { on := 0, ground := Ground.phase }, { on := 1, ground := Ground.phase }, { on := 2, ground := Ground.phase }, { on := 3, ground := Ground.phase }, { on := 4, ground := Ground.phase }, { on := 5, ground := Ground.phase }, { on := 6, ground := Ground.phase }, { on := 7, ground := Ground.phase }, { on := 8, ground := Ground.phase }, { on := 9, ground := Ground.phase }, { on := 10, ground := Ground.textOnly Departure.lateStores }, { on := 11, ground := Ground.textOnly Departure.lateStores }, { on := 12, ground := Ground.textOnly Departure.lateStores }, { on := 13, ground := Ground.textOnly Departure.lateStores }, { on := 14, ground := Ground.textOnly Departure.lateStoresUnsure }, { on := 15, ground := Ground.phase }], guard := none }, { dst := some 5, op := Op.assign (Operand.tmp 30), type := 3, pos := "law.go:216", after := #[{ on := 14, ground := Ground.data }, { on := 16, ground := Ground.chain }, { on := 0, ground := Ground.phase }, { on := 1, ground := Ground.phase }, { on := 2, ground := Ground.phase }, { on := 3, ground := Ground.phase }, { on := 4, ground := Ground.phase }, { on := 5, ground := Ground.phase }, { on := 6, ground := Ground.phase }, { on := 7, ground := Ground.phase }, { on := 8, ground := Ground.phase }, { on := 9, ground := Ground.phase }, { on := 10, ground := Ground.phase }, { on := 11, ground := Ground.phase }, { on := 12, ground := Ground.phase }, { on := 13, ground := Ground.phase }, { on := 14, ground := Ground.phase }, { on := 15, ground := Ground.phase }, { on := 16, ground := Ground.phase }], guard := none }] Q i (fun a' w' => ∃ v3x0 v3x1 v3x2 v3x3 v3x4 v3x5 v3x6 v3x7 v3x8 v3x9 v3x10 v3x11 v3x12 v3x13 v3x14 v3x15 v3x16 v3x17, a' = { tmps := #[CasV a b c dv rp ms, ptr w.heap.size, .bool false, v3x15, v3x16, v3x17, .bool true, .bool false, .bool false, .slice (some ⟨f1.heap.size, 0, none⟩) 1 1, PV (vv1 f1.heap.size 1), .slice (some ⟨f1.heap.size + 1, 0, none⟩) 1 1, PV (vv1 (f1.heap.size + 1) 2), .int .i64 (-1), .bool false, .bool false, v3x0, v3x1, v3x2, v3x3, v3x4, v3x5, v3x6, v3x7, v3x8, v3x9, v3x10, v3x11, v3x12, v3x13, v3x14, undef, undef, undef, undef, undef, undef, undef, undef, undef, undef, undef, undef, undef, undef, undef, undef, undef, undef, undef, undef, undef, undef, undef, undef, undef, undef, undef, undef, undef, undef, undef, undef, undef, undef, undef, undef, undef, undef, undef, undef, undef, undef, undef, undef, undef, undef, undef, undef, undef, undef, undef, undef, undef, undef, undef, undef, undef, undef, undef, undef, undef, undef, undef, undef, undef, undef, undef, undef, undef, undef, undef, undef, undef, undef, undef, undef, undef, undef, undef, undef, undef, undef, undef, undef, undef, undef, undef, undef, undef, undef, undef, undef, undef], defers := [] } ∧ BI 18 25 w1 (PhO3 a b c w ab bc ac w1) [] [] [] (l.setIfInBounds i true) w' [v3x0, v3x1, v3x2, v3x3, v3x4, v3x5, v3x6, v3x7, v3x8, v3x9, v3x10, v3x11, v3x12, v3x13, v3x14, v3x15, v3x16, v3x17]) x W := by
  rintro l x W ⟨v3x0, v3x1, v3x2, v3x3, v3x4, v3x5, v3x6, v3x7, v3x8, v3x9, v3x10, v3x11, v3x12, v3x13, v3x14, v3x15, v3x16, v3x17, rfl, T⟩ i hi
  obtain ⟨hi1, hi2, hi3⟩ := ready_mem hi
  have hi4 := no_true hi2
  have hc : i = 0 ∨ i = 1 ∨ i = 2 ∨ i = 3 ∨ i = 4 ∨ i = 5 ∨ i = 6 ∨ i = 7 ∨ i = 8 ∨ i = 9 ∨ i = 10 ∨ i = 11 ∨ i = 12 ∨ i = 13 ∨ i = 14 ∨ i = 15 ∨ i = 16 ∨ i = 17 := by have h : i < 18 := hi1; omega
  have HT := hide T
  clear T
  rcases hc with rfl | rfl | rfl | rfl | rfl | rfl | rfl | rfl | rfl | rfl | rfl | rfl | rfl | rfl | rfl | rfl | rfl | rfl
  · have HL := hide hi4
    clear hi hi1 hi2 hi3 hi4
    refine wpOp_step (o := { dst := some 16, op := Op.fieldAddr 28 (Operand.tmp 1) 0, type := 0, pos := "law.go:216", after := #[], guard := none }) rfl (fun K hK => ?_)
    go_simp
    exact hK _ _ ⟨.pointer (some ⟨w.heap.size, 0, none⟩), v3x1, v3x2, v3x3, v3x4, v3x5, v3x6, v3x7, v3x8, v3x9, v3x10, v3x11, v3x12, v3x13, v3x14, v3x15, v3x16, v3x17, rfl, HT.out.plain (PhO3_mono a b c w ab bc ac w1) (Below.refl _ _) 0 (by decide) HL.out _ rfl (by simp) (by simp) (by decide)⟩
  · have d0 := hi3 _ rfl { on := 0, ground := Ground.data } (by simp) rfl
    have e0 : v3x0 = .pointer (some ⟨w.heap.size, 0, none⟩) := HT.out.h 0 (by decide) d0 (fun hm => absurd hm (by decide))
    subst e0
    have HL := hide hi4
    clear hi hi1 hi2 hi3 hi4 d0
    have l1 := run_ldP (HCB.out.below HT.out.b).pa
    refine wpOp_step (o := { dst := some 17, op := Op.load 25 (Operand.tmp 16), type := 25, pos := "law.go:216", after := #[{ on := 0, ground := Ground.data }], guard := none }) rfl (fun K hK => ?_)
    go_simp
    exact hK _ _ ⟨_, PV a, v3x2, v3x3, v3x4, v3x5, v3x6, v3x7, v3x8, v3x9, v3x10, v3x11, v3x12, v3x13, v3x14, v3x15, v3x16, v3x17, rfl, HT.out.plain (PhO3_mono a b c w ab bc ac w1) (Below.refl _ _) 1 (by decide) HL.out _ rfl (by simp) (by simp) (by decide)⟩
  · have HL := hide hi4
    clear hi hi1 hi2 hi3 hi4
    refine wpOp_step (o := { dst := some 18, op := Op.fieldAddr 28 (Operand.tmp 1) 1, type := 0, pos := "law.go:216", after := #[], guard := none }) rfl (fun K hK => ?_)
    go_simp
    exact hK _ _ ⟨v3x0, v3x1, .pointer (some ⟨w.heap.size, 2, none⟩), v3x3, v3x4, v3x5, v3x6, v3x7, v3x8, v3x9, v3x10, v3x11, v3x12, v3x13, v3x14, v3x15, v3x16, v3x17, rfl, HT.out.plain (PhO3_mono a b c w ab bc ac w1) (Below.refl _ _) 2 (by decide) HL.out _ rfl (by simp) (by simp) (by decide)⟩
  · have d2 := hi3 _ rfl { on := 2, ground := Ground.data } (by simp) rfl
    have e2 : v3x2 = .pointer (some ⟨w.heap.size, 2, none⟩) := HT.out.h 2 (by decide) d2 (fun hm => absurd hm (by decide))
    subst e2
    have HL := hide hi4
    clear hi hi1 hi2 hi3 hi4 d2
    have l1 := run_ldP (HCB.out.below HT.out.b).pb
    refine wpOp_step (o := { dst := some 19, op := Op.load 25 (Operand.tmp 18), type := 25, pos := "law.go:216", after := #[{ on := 2, ground := Ground.data }], guard := none }) rfl (fun K hK => ?_)
    go_simp
    exact hK _ _ ⟨v3x0, v3x1, _, PV b, v3x4, v3x5, v3x6, v3x7, v3x8, v3x9, v3x10, v3x11, v3x12, v3x13, v3x14, v3x15, v3x16, v3x17, rfl, HT.out.plain (PhO3_mono a b c w ab bc ac w1) (Below.refl _ _) 3 (by decide) HL.out _ rfl (by simp) (by simp) (by decide)⟩
  · have d1 := hi3 _ rfl { on := 1, ground := Ground.data } (by simp) rfl
    have d3 := hi3 _ rfl { on := 3, ground := Ground.data } (by simp) rfl
    have e1 : v3x1 = PV a := HT.out.h 1 (by decide) d1 (fun hm => absurd hm (by decide))
    subst e1
    have e3 : v3x3 = PV b := HT.out.h 3 (by decide) d3 (fun hm => absurd hm (by decide))
    subst e3
    have HL := hide hi4
    clear hi hi1 hi2 hi3 hi4 d1 d3
    refine wpOp_step (o := { dst := some 20, op := Op.call { callee := Callee.value (Operand.func 19), args := #[Operand.tmp 17, Operand.tmp 19], argTypes := #[25, 25] }, type := 3, pos := "law.go:216", after := #[{ on := 1, ground := Ground.data }, { on := 3, ground := Ground.data }], guard := none }) rfl (fun K hK => ?_)
    go_simp
    go_wp2_with fail
    refine (pastCompare_any a b _ (HA.out.below HT.out.b) (HB.out.below HT.out.b)).mono ?_
    rintro e w' ⟨z, rfl, hz, pb⟩
    obtain rfl : ab = z := CmpOf.unique (Hab.out) hz
    exact hK _ _ ⟨v3x0, _, v3x2, _, .int .i64 ab, v3x5, v3x6, v3x7, v3x8, v3x9, v3x10, v3x11, v3x12, v3x13, v3x14, v3x15, v3x16, v3x17, rfl, HT.out.plain (PhO3_mono a b c w ab bc ac w1) pb 4 (by decide) HL.out _ rfl (by simp) (by simp) (by decide)⟩
  · have HL := hide hi4
    clear hi hi1 hi2 hi3 hi4
    refine wpOp_step (o := { dst := some 21, op := Op.fieldAddr 28 (Operand.tmp 1) 1, type := 0, pos := "law.go:216", after := #[], guard := none }) rfl (fun K hK => ?_)
    go_simp
    exact hK _ _ ⟨v3x0, v3x1, v3x2, v3x3, v3x4, .pointer (some ⟨w.heap.size, 2, none⟩), v3x6, v3x7, v3x8, v3x9, v3x10, v3x11, v3x12, v3x13, v3x14, v3x15, v3x16, v3x17, rfl, HT.out.plain (PhO3_mono a b c w ab bc ac w1) (Below.refl _ _) 5 (by decide) HL.out _ rfl (by simp) (by simp) (by decide)⟩
  · have d5 := hi3 _ rfl { on := 5, ground := Ground.data } (by simp) rfl
    have e5 : v3x5 = .pointer (some ⟨w.heap.size, 2, none⟩) := HT.out.h 5 (by decide) d5 (fun hm => absurd hm (by decide))
    subst e5
    have HL := hide hi4
    clear hi hi1 hi2 hi3 hi4 d5
    have l1 := run_ldP (HCB.out.below HT.out.b).pb
    refine wpOp_step (o := { dst := some 22, op := Op.load 25 (Operand.tmp 21), type := 25, pos := "law.go:216", after := #[{ on := 5, ground := Ground.data }], guard := none }) rfl (fun K hK => ?_)
    go_simp
    exact hK _ _ ⟨v3x0, v3x1, v3x2, v3x3, v3x4, _, PV b, v3x7, v3x8, v3x9, v3x10, v3x11, v3x12, v3x13, v3x14, v3x15, v3x16, v3x17, rfl, HT.out.plain (PhO3_mono a b c w ab bc ac w1) (Below.refl _ _) 6 (by decide) HL.out _ rfl (by simp) (by simp) (by decide)⟩
  · have HL := hide hi4
    clear hi hi1 hi2 hi3 hi4
    refine wpOp_step (o := { dst := some 23, op := Op.fieldAddr 28 (Operand.tmp 1) 2, type := 0, pos := "law.go:216", after := #[], guard := none }) rfl (fun K hK => ?_)
    go_simp
    exact hK _ _ ⟨v3x0, v3x1, v3x2, v3x3, v3x4, v3x5, v3x6, .pointer (some ⟨w.heap.size, 4, none⟩), v3x8, v3x9, v3x10, v3x11, v3x12, v3x13, v3x14, v3x15, v3x16, v3x17, rfl, HT.out.plain (PhO3_mono a b c w ab bc ac w1) (Below.refl _ _) 7 (by decide) HL.out _ rfl (by simp) (by simp) (by decide)⟩
  · have d7 := hi3 _ rfl { on := 7, ground := Ground.data } (by simp) rfl
    have e7 : v3x7 = .pointer (some ⟨w.heap.size, 4, none⟩) := HT.out.h 7 (by decide) d7 (fun hm => absurd hm (by decide))
    subst e7
    have HL := hide hi4
    clear hi hi1 hi2 hi3 hi4 d7
    have l1 := run_ldP (HCB.out.below HT.out.b).pc
    refine wpOp_step (o := { dst := some 24, op := Op.load 25 (Operand.tmp 23), type := 25, pos := "law.go:216", after := #[{ on := 7, ground := Ground.data }], guard := none }) rfl (fun K hK => ?_)
    go_simp
    exact hK _ _ ⟨v3x0, v3x1, v3x2, v3x3, v3x4, v3x5, v3x6, _, PV c, v3x9, v3x10, v3x11, v3x12, v3x13, v3x14, v3x15, v3x16, v3x17, rfl, HT.out.plain (PhO3_mono a b c w ab bc ac w1) (Below.refl _ _) 8 (by decide) HL.out _ rfl (by simp) (by simp) (by decide)⟩
  · have d6 := hi3 _ rfl { on := 6, ground := Ground.data } (by simp) rfl
    have d8 := hi3 _ rfl { on := 8, ground := Ground.data } (by simp) rfl
    have e6 : v3x6 = PV b := HT.out.h 6 (by decide) d6 (fun hm => absurd hm (by decide))
    subst e6
    have e8 : v3x8 = PV c := HT.out.h 8 (by decide) d8 (fun hm => absurd hm (by decide))
    subst e8
    have HL := hide hi4
    clear hi hi1 hi2 hi3 hi4 d6 d8
    refine wpOp_step (o := { dst := some 25, op := Op.call { callee := Callee.value (Operand.func 19), args := #[Operand.tmp 22, Operand.tmp 24], argTypes := #[25, 25] }, type := 3, pos := "law.go:216", after := #[{ on := 6, ground := Ground.data }, { on := 8, ground := Ground.data }, { on := 4, ground := Ground.chain }], guard := none }) rfl (fun K hK => ?_)
    go_simp
    go_wp2_with fail
    refine (pastCompare_any b c _ (HB.out.below HT.out.b) (HC.out.below HT.out.b)).mono ?_
    rintro e w' ⟨z, rfl, hz, pb⟩
    obtain rfl : bc = z := CmpOf.unique (Hbc.out) hz
    exact hK _ _ ⟨v3x0, v3x1, v3x2, v3x3, v3x4, v3x5, _, v3x7, _, .int .i64 bc, v3x10, v3x11, v3x12, v3x13, v3x14, v3x15, v3x16, v3x17, rfl, HT.out.plain (PhO3_mono a b c w ab bc ac w1) pb 9 (by decide) HL.out _ rfl (by simp) (by simp) (by decide)⟩
  · have HL := hide hi4
    clear hi hi1 hi2 hi3 hi4
    refine wpOp_step (o := { dst := some 26, op := Op.fieldAddr 28 (Operand.tmp 1) 0, type := 0, pos := "law.go:216", after := #[], guard := none }) rfl (fun K hK => ?_)
    go_simp
    exact hK _ _ ⟨v3x0, v3x1, v3x2, v3x3, v3x4, v3x5, v3x6, v3x7, v3x8, v3x9, .pointer (some ⟨w.heap.size, 0, none⟩), v3x11, v3x12, v3x13, v3x14, v3x15, v3x16, v3x17, rfl, HT.out.plain (PhO3_mono a b c w ab bc ac w1) (Below.refl _ _) 10 (by decide) HL.out _ rfl (by simp) (by simp) (by decide)⟩
  · have d10 := hi3 _ rfl { on := 10, ground := Ground.data } (by simp) rfl
    have e10 : v3x10 = .pointer (some ⟨w.heap.size, 0, none⟩) := HT.out.h 10 (by decide) d10 (fun hm => absurd hm (by decide))
    subst e10
    have HL := hide hi4
    clear hi hi1 hi2 hi3 hi4 d10
    have l1 := run_ldP (HCB.out.below HT.out.b).pa
    refine wpOp_step (o := { dst := some 27, op := Op.load 25 (Operand.tmp 26), type := 25, pos := "law.go:216", after := #[{ on := 10, ground := Ground.data }], guard := none }) rfl (fun K hK => ?_)
    go_simp
    exact hK _ _ ⟨v3x0, v3x1, v3x2, v3x3, v3x4, v3x5, v3x6, v3x7, v3x8, v3x9, _, PV a, v3x12, v3x13, v3x14, v3x15, v3x16, v3x17, rfl, HT.out.plain (PhO3_mono a b c w ab bc ac w1) (Below.refl _ _) 11 (by decide) HL.out _ rfl (by simp) (by simp) (by decide)⟩
  · have HL := hide hi4
    clear hi hi1 hi2 hi3 hi4
    refine wpOp_step (o := { dst := some 28, op := Op.fieldAddr 28 (Operand.tmp 1) 2, type := 0, pos := "law.go:216", after := #[], guard := none }) rfl (fun K hK => ?_)
    go_simp
    exact hK _ _ ⟨v3x0, v3x1, v3x2, v3x3, v3x4, v3x5, v3x6, v3x7, v3x8, v3x9, v3x10, v3x11, .pointer (some ⟨w.heap.size, 4, none⟩), v3x13, v3x14, v3x15, v3x16, v3x17, rfl, HT.out.plain (PhO3_mono a b c w ab bc ac w1) (Below.refl _ _) 12 (by decide) HL.out _ rfl (by simp) (by simp) (by decide)⟩
  · have d12 := hi3 _ rfl { on := 12, ground := Ground.data } (by simp) rfl
    have e12 : v3x12 = .pointer (some ⟨w.heap.size, 4, none⟩) := HT.out.h 12 (by decide) d12 (fun hm => absurd hm (by decide))
    subst e12
    have HL := hide hi4
    clear hi hi1 hi2 hi3 hi4 d12
    have l1 := run_ldP (HCB.out.below HT.out.b).pc
    refine wpOp_step (o := { dst := some 29, op := Op.load 25 (Operand.tmp 28), type := 25, pos := "law.go:216", after := #[{ on := 12, ground := Ground.data }], guard := none }) rfl (fun K hK => ?_)
    go_simp
    exact hK _ _ ⟨v3x0, v3x1, v3x2, v3x3, v3x4, v3x5, v3x6, v3x7, v3x8, v3x9, v3x10, v3x11, _, PV c, v3x14, v3x15, v3x16, v3x17, rfl, HT.out.plain (PhO3_mono a b c w ab bc ac w1) (Below.refl _ _) 13 (by decide) HL.out _ rfl (by simp) (by simp) (by decide)⟩
  · have d11 := hi3 _ rfl { on := 11, ground := Ground.data } (by simp) rfl
    have d13 := hi3 _ rfl { on := 13, ground := Ground.data } (by simp) rfl
    have e11 : v3x11 = PV a := HT.out.h 11 (by decide) d11 (fun hm => absurd hm (by decide))
    subst e11
    have e13 : v3x13 = PV c := HT.out.h 13 (by decide) d13 (fun hm => absurd hm (by decide))
    subst e13
    have HL := hide hi4
    clear hi hi1 hi2 hi3 hi4 d11 d13
    refine wpOp_step (o := { dst := some 30, op := Op.call { callee := Callee.value (Operand.func 19), args := #[Operand.tmp 27, Operand.tmp 29], argTypes := #[25, 25] }, type := 3, pos := "law.go:216", after := #[{ on := 11, ground := Ground.data }, { on := 13, ground := Ground.data }, { on := 9, ground := Ground.chain }], guard := none }) rfl (fun K hK => ?_)
    go_simp
    go_wp2_with fail
    refine (pastCompare_any a c _ (HA.out.below HT.out.b) (HC.out.below HT.out.b)).mono ?_
    rintro e w' ⟨z, rfl, hz, pb⟩
    obtain rfl : ac = z := CmpOf.unique (Hac.out) hz
    exact hK _ _ ⟨v3x0, v3x1, v3x2, v3x3, v3x4, v3x5, v3x6, v3x7, v3x8, v3x9, v3x10, _, v3x12, _, .int .i64 ac, v3x15, v3x16, v3x17, rfl, HT.out.plain (PhO3_mono a b c w ab bc ac w1) pb 14 (by decide) HL.out _ rfl (by simp) (by simp) (by decide)⟩
  · have d4 := hi3 _ rfl { on := 4, ground := Ground.data } (by simp) rfl
    have e4 : v3x4 = .int .i64 ab := HT.out.h 4 (by decide) d4 (fun hm => absurd hm (by decide))
    subst e4
    have HL := hide hi4
    clear hi hi1 hi2 hi3 hi4 d4
    refine wpOp_step (o := { dst := some 3, op := Op.assign (Operand.tmp 20), type := 3, pos := "law.go:216", after := #[{ on := 4, ground := Ground.data }, { on := 14, ground := Ground.chain }, { on := 0, ground := Ground.phase }, { on := 1, ground := Ground.phase }, { on := 2, ground := Ground.phase }, { on := 3, ground := Ground.phase }, { on := 4, ground := Ground.phase }, { on := 5, ground := Ground.textOnly Departure.lateStores }, { on := 6, ground := Ground.textOnly Departure.lateStores }, { on := 7, ground := Ground.textOnly Departure.lateStores }, { on := 8, ground := Ground.textOnly Departure.lateStores }, { on := 9, ground := Ground.textOnly Departure.lateStoresUnsure }, { on := 10, ground := Ground.textOnly Departure.lateStores }, { on := 11, ground := Ground.textOnly Departure.lateStores }, { on := 12, ground := Ground.textOnly Departure.lateStores }, { on := 13, ground := Ground.textOnly Departure.lateStores }, { on := 14, ground := Ground.textOnly Departure.lateStoresUnsure }], guard := none }) rfl (fun K hK => ?_)
    go_simp
    exact hK _ _ ⟨v3x0, v3x1, v3x2, v3x3, _, v3x5, v3x6, v3x7, v3x8, v3x9, v3x10, v3x11, v3x12, v3x13, v3x14, .int .i64 ab, v3x16, v3x17, rfl, HT.out.plain (PhO3_mono a b c w ab bc ac w1) (Below.refl _ _) 15 (by decide) HL.out _ rfl (by simp) (by simp) (by decide)⟩
  · have d9 := hi3 _ rfl { on := 9, ground := Ground.data } (by simp) rfl
    have e9 : v3x9 = .int .i64 bc := HT.out.h 9 (by decide) d9 (fun hm => absurd hm (by decide))
    subst e9
    have HL := hide hi4
    clear hi hi1 hi2 hi3 hi4 d9
    refine wpOp_step (o := { dst := some 4, op := Op.assign (Operand.tmp 25), type := 3, pos := "law.go:216", after := #[{ on := 9, ground := Ground.data }, { on := 15, ground := Ground.chain }, { on := 0, ground := Ground.phase }, { on := 1, ground := Ground.phase }, { on := 2, ground := Ground.phase }, { on := 3, ground := Ground.phase }, { on := 4, ground := Ground.phase }, { on := 5, ground := Ground.phase }, { on := 6, ground := Ground.phase }, { on := 7, ground := Ground.phase }, { on := 8, ground := Ground.phase }, { on := 9, ground := Ground.phase }, { on := 10, ground := Ground.textOnly Departure.lateStores }, { on := 11, ground := Ground.textOnly Departure.lateStores }, { on := 12, ground := Ground.textOnly Departure.lateStores }, { on := 13, ground := Ground.textOnly Departure.lateStores }, { on := 14, ground := Ground.textOnly Departure.lateStoresUnsure }, { on := 15, ground := Ground.phase }], guard := none }) rfl (fun K hK => ?_)
    go_simp
    exact hK _ _ ⟨v3x0, v3x1, v3x2, v3x3, v3x4, v3x5, v3x6, v3x7, v3x8, _, v3x10, v3x11, v3x12, v3x13, v3x14, v3x15, .int .i64 bc, v3x17, rfl, HT.out.plain (PhO3_mono a b c w ab bc ac w1) (Below.refl _ _) 16 (by decide) HL.out _ rfl (by simp) (by simp) (by decide)⟩
  · have d14 := hi3 _ rfl { on := 14, ground := Ground.data } (by simp) rfl
    have e14 : v3x14 = .int .i64 ac := HT.out.h 14 (by decide) d14 (fun hm => absurd hm (by decide))
    subst e14
    have HL := hide hi4
    clear hi hi1 hi2 hi3 hi4 d14
    refine wpOp_step (o := { dst := some 5, op := Op.assign (Operand.tmp 30), type := 3, pos := "law.go:216", after := #[{ on := 14, ground := Ground.data }, { on := 16, ground := Ground.chain }, { on := 0, ground := Ground.phase }, { on := 1, ground := Ground.phase }, { on := 2, ground := Ground.phase }, { on := 3, ground := Ground.phase }, { on := 4, ground := Ground.phase }, { on := 5, ground := Ground.phase }, { on := 6, ground := Ground.phase }, { on := 7, ground := Ground.phase }, { on := 8, ground := Ground.phase }, { on := 9, ground := Ground.phase }, { on := 10, ground := Ground.phase }, { on := 11, ground := Ground.phase }, { on := 12, ground := Ground.phase }, { on := 13, ground := Ground.phase }, { on := 14, ground := Ground.phase }, { on := 15, ground := Ground.phase }, { on := 16, ground := Ground.phase }], guard := none }) rfl (fun K hK => ?_)
    go_simp
    exact hK _ _ ⟨v3x0, v3x1, v3x2, v3x3, v3x4, v3x5, v3x6, v3x7, v3x8, v3x9, v3x10, v3x11, v3x12, v3x13, _, v3x15, v3x16, .int .i64 ac, rfl, HT.out.plain (PhO3_mono a b c w ab bc ac w1) (Below.refl _ _) 17 (by decide) HL.out _ rfl (by simp) (by simp) (by decide)⟩
end Go.Proofs.Ytlnhafjpmkopgaa
