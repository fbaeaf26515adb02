/- PastLattice: the steps of a region that draws its order. -/
import Derived.Test.YtliedjloceckjaaPLh
namespace Go.Proofs.Ytliedjloceckjaa
open Go.RowKit
attribute [local go_sem ↓] ldP_eq stP_eq
attribute [local go_sem] zero_PC cells_PV fold_PC PC_size fold_PC1 fold_PC2 fold_PC3
def Ph3 (a b c : Pv) (w : World) (_ : World) : Nat → Value → World → Prop
  | 0, x, _ => x = .pointer (some ⟨w.heap.size, 0, none⟩)
  | 1, x, _ => x = PV a
  | 2, x, _ => x = .pointer (some ⟨w.heap.size, 2, none⟩)
  | 3, x, _ => x = PV b
  | 4, x, _ => x = .pointer (some ⟨w.heap.size, 4, none⟩)
  | 5, x, _ => x = PV c
  | _, _, _ => True
theorem Ph3_mono (a b c : Pv) (w : World) (W0 : World) : Mono (Ph3 a b c w W0) := fun i _ _ _ h _ => match i with
  | 0 => h
  | 1 => h
  | 2 => h
  | 3 => h
  | 4 => h
  | 5 => h
  | 6 => trivial
  | 7 => trivial
  | 8 => trivial
  | 9 => trivial
  | 10 => trivial
  | 11 => trivial
  | _ + 12 => trivial
theorem Ph3_inv (a b c : Pv) (w : World) (W0 : World) : ∀ j x U U', j ∉ [] → Ph3 a b c w W0 j x U → Ph3 a b c w W0 j x U' := fun j _ _ _ _ h => match j with
  | 0 => h
  | 1 => h
  | 2 => h
  | 3 => h
  | 4 => h
  | 5 => h
  | 6 => trivial
  | 7 => trivial
  | 8 => trivial
  | 9 => trivial
  | 10 => trivial
  | 11 => trivial
  | _ + 12 => trivial
set_option maxRecDepth 100000 in
set_option maxHeartbeats 4000000 in
theorem st3 {a b c : Pv} {dv : Value} {rp ms : Int} {w w1 : World} (HP0 : Hid (PAt w1 ⟨w.heap.size, 0, none⟩ a)) (HP1 : Hid (PAt w1 ⟨w.heap.size, 2, none⟩ b)) (HP2 : Hid (PAt w1 ⟨w.heap.size, 4, none⟩ c)) {Q : Exit → Act → World → Prop} :
    ∀ (l : Array Bool) (x : Act) (W : World), (∃ v3x0 v3x1 v3x2 v3x3 v3x4 v3x5 v3x6 v3x7 v3x8, x = { tmps := #[CaseV a b c dv rp ms, ptr w.heap.size, .bool false, v3x6, v3x7, v3x8, undef, undef, undef, undef, .bool true, .bool false, v3x0, v3x1, v3x2, v3x3, v3x4, v3x5, undef, undef, undef, undef, undef, undef, undef, undef, undef, undef, undef, undef, undef, undef, undef, undef, undef, undef, undef, undef, undef, undef, undef, undef, undef, undef, undef, undef, undef, undef, undef, undef, undef, undef, undef, undef, undef, undef, undef, undef, undef, undef, undef, undef, undef, undef, undef, undef, undef, undef, undef, undef, undef, undef, undef, undef, undef, undef, undef, undef, undef, undef, undef, undef, undef, undef, undef, undef, undef, undef, undef, undef, undef, undef, undef, undef, undef, undef, undef, undef, undef, undef, undef, undef, undef, undef, undef, undef, undef, undef, undef, undef, undef, undef, undef, undef, undef, undef, undef, undef, undef, undef, undef, undef, undef, undef, undef, undef, undef, undef, undef, undef, undef, undef, undef, undef, undef, undef, undef, undef, undef, undef, undef, undef, undef, undef, undef, undef, undef, undef, undef, undef, undef, undef, undef, undef, undef, undef, undef, undef, undef, undef, undef, undef, undef, undef, undef, undef, undef, undef, undef, undef, undef, undef, undef, undef, undef, undef, undef, undef, undef, undef, undef, undef, undef, undef, undef, undef], defers := [] } ∧ BI 12 9 w1 (Ph3 a b c w w1) [] [] [(6, 9, 1), (7, 10, 3), (8, 11, 5)] l W [v3x0, v3x1, v3x2, v3x3, v3x4, v3x5, v3x6, v3x7, v3x8, undef, undef, undef]) → ∀ i, i ∈ Region.ready .any #[{ dst := some 12, op := Op.fieldAddr 28 (Operand.tmp 1) 0, type := 0, pos := "law.go:187", after := #[], guard := none }, { dst := some 13, op := Op.load 25 (Operand.tmp 12), type := 25, pos := "law.go:187", after := #[{ on := 0, ground := Ground.data }], guard := none }, { dst := some 14, op := Op.fieldAddr 28 (Operand.tmp 1) 1, type := 0, pos := "law.go:187", after := #[{ on := 9, ground := Ground.gcOnly Departure.lateStores }], guard := none }, { dst := some 15, op := Op.load 25 (Operand.tmp 14), type := 25, pos := "law.go:187", after := #[{ on := 2, ground := Ground.data }, { on := 9, ground := Ground.gcOnly Departure.lateStores }], guard := none }, { dst := some 16, op := Op.fieldAddr 28 (Operand.tmp 1) 2, type := 0, pos := "law.go:187", after := #[{ on := 10, ground := Ground.gcOnly Departure.lateStores }], guard := none }, { dst := some 17, op := Op.load 25 (Operand.tmp 16), type := 25, pos := "law.go:187", after := #[{ on := 4, ground := Ground.data }, { on := 10, ground := Ground.gcOnly Departure.lateStores }], guard := none }, { dst := some 3, op := Op.alloc 25, type := 0, pos := "law.go:187", after := #[], guard := none }, { dst := some 4, op := Op.alloc 25, type := 0, pos := "law.go:187", after := #[], guard := none }, { dst := some 5, op := Op.alloc 25, type := 0, pos := "law.go:187", after := #[], guard := none }, { dst := none, op := Op.store 25 (Operand.tmp 3) (Operand.tmp 13), type := 0, pos := "law.go:187", after := #[{ on := 6, ground := Ground.data }, { on := 1, ground := Ground.data }, { on := 0, ground := Ground.phase }, { on := 1, ground := Ground.phase }, { on := 2, ground := Ground.textOnly Departure.lateStores }, { on := 3, ground := Ground.textOnly Departure.lateStores }, { on := 4, ground := Ground.textOnly Departure.lateStores }, { on := 5, ground := Ground.textOnly Departure.lateStores }, { on := 6, ground := Ground.phase }, { on := 7, ground := Ground.phase }, { on := 8, ground := Ground.phase }], guard := none }, { dst := none, op := Op.store 25 (Operand.tmp 4) (Operand.tmp 15), type := 0, pos := "law.go:187", after := #[{ on := 7, ground := Ground.data }, { on := 3, ground := Ground.data }, { on := 9, ground := Ground.chain }, { on := 0, ground := Ground.phase }, { on := 1, ground := Ground.phase }, { on := 2, ground := Ground.phase }, { on := 3, ground := Ground.phase }, { on := 4, ground := Ground.textOnly Departure.lateStores }, { on := 5, ground := Ground.textOnly Departure.lateStores }, { on := 6, ground := Ground.phase }, { on := 7, ground := Ground.phase }, { on := 8, ground := Ground.phase }, { on := 9, ground := Ground.phase }], guard := none }, { dst := none, op := Op.store 25 (Operand.tmp 5) (Operand.tmp 17), type := 0, pos := "law.go:187", after := #[{ on := 8, ground := Ground.data }, { on := 5, ground := Ground.data }, { on := 10, ground := Ground.chain }, { on := 0, ground := Ground.phase }, { on := 1, ground := Ground.phase }, { on := 2, ground := Ground.phase }, { on := 3, ground := Ground.phase }, { on := 4, ground := Ground.phase }, { on := 5, ground := Ground.phase }, { on := 6, ground := Ground.phase }, { on := 7, ground := Ground.phase }, { on := 8, ground := Ground.phase }, { on := 9, ground := Ground.phase }, { on := 10, ground := Ground.phase }], guard := none }] l → wpOp Try.prog #[{ dst := some 12, op := Op.fieldAddr 28 (Operand.tmp 1) 0, type := 0, pos := "law.go:187", after := #[], guard := none }, { dst := some 13, op := Op.load 25 (Operand.tmp 12), type := 25, pos := "law.go:187", after := #[{ on := 0, ground := Ground.data }], guard := none }, { dst := some 14, op := Op.fieldAddr 28 (Operand.tmp 1) 1, type := 0, pos := "law.go:187", after := #[{ on := 9, ground := Ground.gcOnly Departure.lateStores }], guard := none }, { dst := some 15, op := Op.load 25 (Operand.tmp 14), type := 25, pos := "law.go:187", after := #[{ on := 2, ground := Ground.data }, { on := 9, ground := Ground.gcOnly Departure.lateStores }], guard := none }, { dst := some 16, op := Op.fieldAddr 28 (Operand.tmp 1) 2, type := 0, pos := "law.go:187", after := #[{ on := 10, ground := Ground.gcOnly Departure.lateStores }], guard := none }, { dst := some 17, op := Op.load 25 (Operand.tmp 16), type := 25, pos := "law.go:187", after := #[{ on := 4, ground := Ground.data }, { on := 10, ground := Ground.gcOnly Departure.lateStores }], guard := none }, { dst := some 3, op := Op.alloc 25, type := 0, pos := "law.go:187", after := #[], guard := none }, { dst := some 4, op := Op.alloc 25, type := 0, pos := "law.go:187", after := #[], guard := none }, { dst := some 5, op := Op.alloc 25, type := 0, pos := "law.go:187", after := #[], guard := none }, { dst := none, op := Op.store 25 (Operand.tmp 3) (Operand.tmp 13), type := 0, pos := "law.go:187", after := #[{ on := 6, ground := Ground.data }, { on := 1, ground := Ground.data }, { on := 0, ground := Ground.phase }, { on := 1, ground := Ground.phase }, { on := 2, ground := Ground.textOnly Departure.lateStores }, { on := 3, ground := Ground.textOnly Departure.lateStores }, { on := 4, ground := Ground.textOnly Departure.lateStores }, { on := 5, ground := Ground.textOnly Departure.lateStores }, { on := 6, ground := Ground.phase }, { on := 7, ground := Ground.phase }, { on := 8, ground := Ground.phase }], guard := none }, { dst := none, op := Op.store 25 (Operand.tmp 4) (Operand.tmp 15), type := 0, pos := "law.go:187", after := #[{ on := 7, ground := Ground.data }, { on := 3, ground := Ground.data }, { on := 9, ground := Ground.chain }, { on := 0, ground := Ground.phase }, { on := 1, ground := Ground.phase }, { on := 2, ground := Ground.phase }, { on := 3, ground := Ground.phase }, { on := 4, ground := Ground.textOnly Departure.lateStores }, { on := 5, ground := Ground.textOnly Departure.lateStores }, { on := 6, ground := Ground.phase }, { on := 7, ground := Ground.phase }, { on := 8, ground := Ground.phase }, { on := 9, ground := Ground.phase }], guard := none }, { dst := none, op := Op.store 25 (Operand.tmp 5) (Operand.tmp 17), type := 0, pos := "law.go:187", after := #[{ on := 8, ground := Ground.data }, { on := 5, ground := Ground.data }, { on := 10, ground := Ground.chain }, { on := 0, ground := Ground.phase }, { on := 1, ground := Ground.phase }, { on := 2, ground := Ground.phase }, { on := 3, ground := Ground.phase }, { on := 4, ground := Ground.phase }, { on := 5, ground := Ground.phase }, { on := 6, ground := Ground.phase }, { on := 7, ground := Ground.phase }, { on := 8, ground := Ground.phase }, { on := 9, ground := Ground.phase }, { on := 10, ground := Ground.phase }], guard := none }] Q i (fun a' w' => ∃ v3x0 v3x1 v3x2 v3x3 v3x4 v3x5 v3x6 v3x7 v3x8, a' = { tmps := #[CaseV a b c dv rp ms, ptr w.heap.size, .bool false, v3x6, v3x7, v3x8, undef, undef, undef, undef, .bool true, .bool false, v3x0, v3x1, v3x2, v3x3, v3x4, v3x5, undef, undef, undef, undef, undef, undef, undef, undef, undef, undef, undef, undef, undef, undef, undef, undef, undef, undef, undef, undef, undef, undef, undef, undef, undef, undef, undef, undef, undef, undef, undef, undef, undef, undef, undef, undef, undef, undef, undef, undef, undef, undef, undef, undef, undef, undef, undef, undef, undef, undef, undef, undef, undef, undef, undef, undef, undef, undef, undef, undef, undef, undef, undef, undef, undef, undef, undef, undef, undef, undef, undef, undef, undef, undef, undef, undef, undef, undef, undef, undef, undef, undef, undef, undef, undef, undef, undef, undef, undef, undef, undef, undef, undef, undef, undef, undef, undef, undef, undef, undef, undef, undef, undef, undef, undef, undef, undef, undef, undef, undef, undef, undef, undef, undef, undef, undef, undef, undef, undef, undef, undef, undef, undef, undef, undef, undef, undef, undef, undef, undef, undef, undef, undef, undef, undef, undef, undef, undef, undef, undef, undef, undef, undef, undef, undef, undef, undef, undef, undef, undef, undef, undef, undef, undef, undef, undef, undef, undef, undef, undef, undef, undef, undef, undef, undef, undef, undef, undef], defers := [] } ∧ BI 12 9 w1 (Ph3 a b c w w1) [] [] [(6, 9, 1), (7, 10, 3), (8, 11, 5)] (l.setIfInBounds i true) w' [v3x0, v3x1, v3x2, v3x3, v3x4, v3x5, v3x6, v3x7, v3x8, undef, undef, undef]) x W := by
  rintro l x W ⟨v3x0, v3x1, v3x2, v3x3, v3x4, v3x5, v3x6, v3x7, v3x8, rfl, T⟩ i hi
  obtain ⟨hi1, hi2, hi3⟩ := ready_mem hi
  have hi4 := no_true hi2
  have hc : i = 0 ∨ i = 1 ∨ i = 2 ∨ i = 3 ∨ i = 4 ∨ i = 5 ∨ i = 6 ∨ i = 7 ∨ i = 8 ∨ i = 9 ∨ i = 10 ∨ i = 11 := by have h : i < 12 := hi1; omega
  have HT := hide T
  clear T
  rcases hc with rfl | rfl | rfl | rfl | rfl | rfl | rfl | rfl | rfl | rfl | rfl | rfl
  · have HL := hide hi4
    clear hi hi1 hi2 hi3 hi4
    refine wpOp_step (o := { dst := some 12, op := Op.fieldAddr 28 (Operand.tmp 1) 0, type := 0, pos := "law.go:187", after := #[], guard := none }) rfl (fun K hK => ?_)
    go_simp
    exact hK _ _ ⟨.pointer (some ⟨w.heap.size, 0, none⟩), v3x1, v3x2, v3x3, v3x4, v3x5, v3x6, v3x7, v3x8, rfl, HT.out.plain (Ph3_mono a b c w w1) (Below.refl _ _) 0 (by decide) HL.out _ rfl (by simp) (by simp) (by decide)⟩
  · have d0 := hi3 _ rfl { on := 0, ground := Ground.data } (by simp) rfl
    have e0 : v3x0 = .pointer (some ⟨w.heap.size, 0, none⟩) := HT.out.h 0 (by decide) d0 (fun hm => absurd hm (by decide))
    subst e0
    have HL := hide hi4
    clear hi hi1 hi2 hi3 hi4 d0
    have l1 := run_ldP (HP0.out.on HT.out.b)
    refine wpOp_step (o := { dst := some 13, op := Op.load 25 (Operand.tmp 12), type := 25, pos := "law.go:187", after := #[{ on := 0, ground := Ground.data }], guard := none }) rfl (fun K hK => ?_)
    go_simp
    exact hK _ _ ⟨_, PV a, v3x2, v3x3, v3x4, v3x5, v3x6, v3x7, v3x8, rfl, HT.out.plain (Ph3_mono a b c w w1) (Below.refl _ _) 1 (by decide) HL.out _ rfl (by simp) (by simp) (by decide)⟩
  · have HL := hide hi4
    clear hi hi1 hi2 hi3 hi4
    refine wpOp_step (o := { dst := some 14, op := Op.fieldAddr 28 (Operand.tmp 1) 1, type := 0, pos := "law.go:187", after := #[{ on := 9, ground := Ground.gcOnly Departure.lateStores }], guard := none }) rfl (fun K hK => ?_)
    go_simp
    exact hK _ _ ⟨v3x0, v3x1, .pointer (some ⟨w.heap.size, 2, none⟩), v3x3, v3x4, v3x5, v3x6, v3x7, v3x8, rfl, HT.out.plain (Ph3_mono a b c w w1) (Below.refl _ _) 2 (by decide) HL.out _ rfl (by simp) (by simp) (by decide)⟩
  · have d2 := hi3 _ rfl { on := 2, ground := Ground.data } (by simp) rfl
    have e2 : v3x2 = .pointer (some ⟨w.heap.size, 2, none⟩) := HT.out.h 2 (by decide) d2 (fun hm => absurd hm (by decide))
    subst e2
    have HL := hide hi4
    clear hi hi1 hi2 hi3 hi4 d2
    have l1 := run_ldP (HP1.out.on HT.out.b)
    refine wpOp_step (o := { dst := some 15, op := Op.load 25 (Operand.tmp 14), type := 25, pos := "law.go:187", after := #[{ on := 2, ground := Ground.data }, { on := 9, ground := Ground.gcOnly Departure.lateStores }], guard := none }) rfl (fun K hK => ?_)
    go_simp
    exact hK _ _ ⟨v3x0, v3x1, _, PV b, v3x4, v3x5, v3x6, v3x7, v3x8, rfl, HT.out.plain (Ph3_mono a b c w w1) (Below.refl _ _) 3 (by decide) HL.out _ rfl (by simp) (by simp) (by decide)⟩
  · have HL := hide hi4
    clear hi hi1 hi2 hi3 hi4
    refine wpOp_step (o := { dst := some 16, op := Op.fieldAddr 28 (Operand.tmp 1) 2, type := 0, pos := "law.go:187", after := #[{ on := 10, ground := Ground.gcOnly Departure.lateStores }], guard := none }) rfl (fun K hK => ?_)
    go_simp
    exact hK _ _ ⟨v3x0, v3x1, v3x2, v3x3, .pointer (some ⟨w.heap.size, 4, none⟩), v3x5, v3x6, v3x7, v3x8, rfl, HT.out.plain (Ph3_mono a b c w w1) (Below.refl _ _) 4 (by decide) HL.out _ rfl (by simp) (by simp) (by decide)⟩
  · have d4 := hi3 _ rfl { on := 4, ground := Ground.data } (by simp) rfl
    have e4 : v3x4 = .pointer (some ⟨w.heap.size, 4, none⟩) := HT.out.h 4 (by decide) d4 (fun hm => absurd hm (by decide))
    subst e4
    have HL := hide hi4
    clear hi hi1 hi2 hi3 hi4 d4
    have l1 := run_ldP (HP2.out.on HT.out.b)
    refine wpOp_step (o := { dst := some 17, op := Op.load 25 (Operand.tmp 16), type := 25, pos := "law.go:187", after := #[{ on := 4, ground := Ground.data }, { on := 10, ground := Ground.gcOnly Departure.lateStores }], guard := none }) rfl (fun K hK => ?_)
    go_simp
    exact hK _ _ ⟨v3x0, v3x1, v3x2, v3x3, _, PV c, v3x6, v3x7, v3x8, rfl, HT.out.plain (Ph3_mono a b c w w1) (Below.refl _ _) 5 (by decide) HL.out _ rfl (by simp) (by simp) (by decide)⟩
  · have HL := hide hi4
    clear hi hi1 hi2 hi3 hi4
    refine wpOp_step (o := { dst := some 3, op := Op.alloc 25, type := 0, pos := "law.go:187", after := #[], guard := none }) rfl (fun K hK => ?_)
    go_simp
    exact hK _ _ ⟨v3x0, v3x1, v3x2, v3x3, v3x4, v3x5, ptr W.heap.size, v3x7, v3x8, rfl, HT.out.make (Ph3_mono a b c w w1) 6 9 1 (by decide) HL.out (by simp) (by simp) (by simp) (by simp) (fun _ _ => trivial) (by decide)⟩
  · have HL := hide hi4
    clear hi hi1 hi2 hi3 hi4
    refine wpOp_step (o := { dst := some 4, op := Op.alloc 25, type := 0, pos := "law.go:187", after := #[], guard := none }) rfl (fun K hK => ?_)
    go_simp
    exact hK _ _ ⟨v3x0, v3x1, v3x2, v3x3, v3x4, v3x5, v3x6, ptr W.heap.size, v3x8, rfl, HT.out.make (Ph3_mono a b c w w1) 7 10 3 (by decide) HL.out (by simp) (by simp) (by simp) (by simp) (fun _ _ => trivial) (by decide)⟩
  · have HL := hide hi4
    clear hi hi1 hi2 hi3 hi4
    refine wpOp_step (o := { dst := some 5, op := Op.alloc 25, type := 0, pos := "law.go:187", after := #[], guard := none }) rfl (fun K hK => ?_)
    go_simp
    exact hK _ _ ⟨v3x0, v3x1, v3x2, v3x3, v3x4, v3x5, v3x6, v3x7, ptr W.heap.size, rfl, HT.out.make (Ph3_mono a b c w w1) 8 11 5 (by decide) HL.out (by simp) (by simp) (by simp) (by simp) (fun _ _ => trivial) (by decide)⟩
  · have da := hi3 _ rfl { on := 6, ground := Ground.data } (by simp) rfl
    have dc := hi3 _ rfl { on := 1, ground := Ground.data } (by simp) rfl
    have ec : v3x1 = PV a := HT.out.h 1 (by decide) dc (fun hm => absurd hm (by decide))
    obtain ⟨g, eg, PB, T2⟩ := HT.out.fill 6 9 1 a (by decide) hi4 (by simp) (by simp) (by simp) da dc (Or.inl rfl) ec (by simp) (by simp) (Ph3_inv a b c w w1) (fun _ _ => trivial) undef
    have fg : v3x6 = ptr g := eg
    have fc : v3x1 = PV a := ec
    subst fg fc
    have s1 := run_stP (p' := a) PB
    have HT2 := hide T2
    clear T2 PB eg ec da dc HT hi hi1 hi2 hi3 hi4
    refine wpOp_step (o := { dst := none, op := Op.store 25 (Operand.tmp 3) (Operand.tmp 13), type := 0, pos := "law.go:187", after := #[{ on := 6, ground := Ground.data }, { on := 1, ground := Ground.data }, { on := 0, ground := Ground.phase }, { on := 1, ground := Ground.phase }, { on := 2, ground := Ground.textOnly Departure.lateStores }, { on := 3, ground := Ground.textOnly Departure.lateStores }, { on := 4, ground := Ground.textOnly Departure.lateStores }, { on := 5, ground := Ground.textOnly Departure.lateStores }, { on := 6, ground := Ground.phase }, { on := 7, ground := Ground.phase }, { on := 8, ground := Ground.phase }], guard := none }) rfl (fun K hK => ?_)
    go_simp
    exact hK _ _ ⟨v3x0, _, v3x2, v3x3, v3x4, v3x5, _, v3x7, v3x8, rfl, HT2.out⟩
  · have da := hi3 _ rfl { on := 7, ground := Ground.data } (by simp) rfl
    have dc := hi3 _ rfl { on := 3, ground := Ground.data } (by simp) rfl
    have dt := hi3 _ rfl { on := 9, ground := Ground.chain } (by simp) rfl
    have ec : v3x3 = PV b := HT.out.h 3 (by decide) dc (fun hm => absurd hm (by decide))
    obtain ⟨g, eg, PB, T2⟩ := HT.out.fill 7 10 3 b (by decide) hi4 (by simp) (by simp) (by simp) da dc (Or.inr dt) ec (by simp) (by simp) (Ph3_inv a b c w w1) (fun _ _ => trivial) undef
    have fg : v3x7 = ptr g := eg
    have fc : v3x3 = PV b := ec
    subst fg fc
    have s1 := run_stP (p' := b) PB
    have HT2 := hide T2
    clear T2 PB eg ec da dc dt HT hi hi1 hi2 hi3 hi4
    refine wpOp_step (o := { dst := none, op := Op.store 25 (Operand.tmp 4) (Operand.tmp 15), type := 0, pos := "law.go:187", after := #[{ on := 7, ground := Ground.data }, { on := 3, ground := Ground.data }, { on := 9, ground := Ground.chain }, { on := 0, ground := Ground.phase }, { on := 1, ground := Ground.phase }, { on := 2, ground := Ground.phase }, { on := 3, ground := Ground.phase }, { on := 4, ground := Ground.textOnly Departure.lateStores }, { on := 5, ground := Ground.textOnly Departure.lateStores }, { on := 6, ground := Ground.phase }, { on := 7, ground := Ground.phase }, { on := 8, ground := Ground.phase }, { on := 9, ground := Ground.phase }], guard := none }) rfl (fun K hK => ?_)
    go_simp
    exact hK _ _ ⟨v3x0, v3x1, v3x2, _, v3x4, v3x5, v3x6, _, v3x8, rfl, HT2.out⟩
  · have da := hi3 _ rfl { on := 8, ground := Ground.data } (by simp) rfl
    have dc := hi3 _ rfl { on := 5, ground := Ground.data } (by simp) rfl
    have dt := hi3 _ rfl { on := 9, ground := Ground.phase } (by simp) rfl
    have ec : v3x5 = PV c := HT.out.h 5 (by decide) dc (fun hm => absurd hm (by decide))
    obtain ⟨g, eg, PB, T2⟩ := HT.out.fill 8 11 5 c (by decide) hi4 (by simp) (by simp) (by simp) da dc (Or.inr dt) ec (by simp) (by simp) (Ph3_inv a b c w w1) (fun _ _ => trivial) undef
    have fg : v3x8 = ptr g := eg
    have fc : v3x5 = PV c := ec
    subst fg fc
    have s1 := run_stP (p' := c) PB
    have HT2 := hide T2
    clear T2 PB eg ec da dc dt HT hi hi1 hi2 hi3 hi4
    refine wpOp_step (o := { dst := none, op := Op.store 25 (Operand.tmp 5) (Operand.tmp 17), type := 0, pos := "law.go:187", after := #[{ on := 8, ground := Ground.data }, { on := 5, ground := Ground.data }, { on := 10, ground := Ground.chain }, { on := 0, ground := Ground.phase }, { on := 1, ground := Ground.phase }, { on := 2, ground := Ground.phase }, { on := 3, ground := Ground.phase }, { on := 4, ground := Ground.phase }, { on := 5, ground := Ground.phase }, { on := 6, ground := Ground.phase }, { on := 7, ground := Ground.phase }, { on := 8, ground := Ground.phase }, { on := 9, ground := Ground.phase }, { on := 10, ground := Ground.phase }], guard := none }) rfl (fun K hK => ?_)
    go_simp
    exact hK _ _ ⟨v3x0, v3x1, v3x2, v3x3, v3x4, _, v3x6, v3x7, _, rfl, HT2.out⟩
end Go.Proofs.Ytliedjloceckjaa
