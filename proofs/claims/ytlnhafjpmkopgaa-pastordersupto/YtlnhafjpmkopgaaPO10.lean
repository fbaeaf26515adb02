/- PastOrders: the steps of a region that draws its order. -/
import Derived.Test.YtlnhafjpmkopgaaPOh
namespace Go.Proofs.Ytlnhafjpmkopgaa
open Go.RowKit
attribute [local go_sem ↓] ldP_eq stP_eq
attribute [local go_sem] zero_PC cells_PV fold_PC PC_size fold_PC1 fold_PC2 fold_PC3 cells_CasV build_PC1
def PhO10 (a _ _ : Pv) (w : World) (_ : World) : Nat → Value → World → Prop
  | 0, x, _ => x = .pointer (some ⟨w.heap.size, 0, none⟩)
  | 1, x, _ => x = PV a
  | 3, x, _ => x = .bool true
  | 4, x, _ => x = .bool true
  | 5, x, _ => x = .pointer (some ⟨w.heap.size, 0, none⟩)
  | 6, x, _ => x = PV a
  | 9, x, _ => x = .pointer (some ⟨w.heap.size, 0, none⟩)
  | 10, x, _ => x = PV a
  | 12, x, _ => x = .bool true
  | 13, x, _ => x = .bool true
  | 14, x, _ => x = .bool true
  | _, _, _ => True
theorem PhO10_mono (a b c : Pv) (w : World) (W0 : World) : Mono (PhO10 a b c w W0) := fun i _ _ _ h _ => match i with
  | 0 => h
  | 1 => h
  | 3 => h
  | 4 => h
  | 5 => h
  | 6 => h
  | 9 => h
  | 10 => h
  | 12 => h
  | 13 => h
  | 14 => h
  | 2 => trivial
  | 7 => trivial
  | 8 => trivial
  | 11 => trivial
  | _ + 15 => trivial
set_option maxRecDepth 100000 in
set_option maxHeartbeats 4000000 in
theorem stO10 {a b c : Pv} {dv : Value} {rp ms ab bc ac : Int} {e0 : Bool} {w y2 : World} {u10 u11 u12 u13 u14 u15 u16 u17 u18 u19 u20 u21 u22 u23 u24 u25 u26 u27 u28 u29 u30 u31 u32 u33 u34 u35 u36 u37 u38 u39 u40 u41 u42 u43 u44 u45 u46 u47 u48 u49 u50 u51 u52 u53 u54 u55 u56 u57 u58 u59 u6 u60 u61 u62 u63 u64 u65 u66 u67 u68 u69 u7 u70 u71 u72 u73 u74 u75 u8 u9 v8x27 : Value} {p8_13 p8_28 p8_4 p8_7 : Pv} (HCB : Hid (CBox y2 w.heap.size (CasC a b c dv rp ms))) (HA : Hid (PSrc y2 a)) {Q : Exit → Act → World → Prop} :
    ∀ (l : Array Bool) (x : Act) (W : World), (∃ v10x0 v10x1 v10x2 v10x3 v10x4 v10x5 v10x6 v10x7 v10x8 v10x9 v10x10 v10x11 v10x12 v10x13 v10x14, x = { tmps := #[CasV a b c dv rp ms, ptr w.heap.size, v10x14, .int .i64 ab, .int .i64 bc, .int .i64 ac, u6, u7, u8, u9, u10, u11, u12, u13, u14, u15, u16, u17, u18, u19, u20, u21, u22, u23, u24, u25, u26, u27, u28, u29, u30, u31, u32, u33, u34, u35, u36, u37, u38, u39, u40, u41, u42, u43, u44, u45, u46, u47, u48, u49, u50, u51, u52, u53, u54, u55, u56, u57, u58, u59, u60, u61, u62, u63, u64, u65, u66, u67, u68, u69, u70, u71, u72, u73, u74, u75, .bool false, .int .i64 ab, .bool e0, .pointer (some ⟨w.heap.size, 0, none⟩), PV a, PV p8_4, .pointer (some ⟨w.heap.size, 2, none⟩), PV b, PV p8_7, .bool e0, .bool false, .bool false, .pointer (some ⟨w.heap.size, 0, none⟩), PV a, PV p8_13, .pointer (some ⟨w.heap.size, 2, none⟩), PV b, .int .i64 ab, .int .i64 ab, .bool false, .bool false, .bool false, .pointer (some ⟨w.heap.size, 0, none⟩), PV a, .pointer (some ⟨w.heap.size, 2, none⟩), PV b, .pointer (some ⟨w.heap.size, 2, none⟩), PV b, v8x27, PV p8_28, .int .i64 ab, .int .i64 ab, .bool false, .bool false, v10x0, v10x1, v10x2, v10x3, v10x4, v10x5, v10x6, v10x7, v10x8, v10x9, v10x10, v10x11, v10x12, v10x13], defers := [] } ∧ BI 15 22 y2 (PhO10 a b c w y2) [] [(2, CanonOf (runsAt a.P)), (7, CanonOf (runsAt a.P)), (8, IsP (mP a.P)), (11, CanonOf (runsAt a.P))] [] l W [v10x0, v10x1, v10x2, v10x3, v10x4, v10x5, v10x6, v10x7, v10x8, v10x9, v10x10, v10x11, v10x12, v10x13, v10x14]) → ∀ i, i ∈ Region.ready .any #[{ dst := some 110, op := Op.fieldAddr 28 (Operand.tmp 1) 0, type := 0, pos := "law.go:226", after := #[], guard := none }, { dst := some 111, op := Op.load 25 (Operand.tmp 110), type := 25, pos := "law.go:226", after := #[{ on := 0, ground := Ground.data }], guard := none }, { dst := some 112, op := Op.call { callee := Callee.value (Operand.func 7), args := #[Operand.tmp 111], argTypes := #[25] }, type := 25, pos := "law.go:226", after := #[{ on := 1, ground := Ground.data }], guard := none }, { dst := some 113, op := Op.call { callee := Callee.value (Operand.func 21), args := #[Operand.tmp 112], argTypes := #[25] }, type := 4, pos := "law.go:226", after := #[{ on := 2, ground := Ground.data }, { on := 2, ground := Ground.chain }], guard := none }, { dst := some 114, op := Op.move (Operand.tmp 113), type := 4, pos := "law.go:226", after := #[{ on := 3, ground := Ground.data }, { on := 3, ground := Ground.chain }], guard := none }, { dst := some 115, op := Op.fieldAddr 28 (Operand.tmp 1) 0, type := 0, pos := "law.go:226", after := #[{ on := 4, ground := Ground.guard }], guard := some (4, true) }, { dst := some 116, op := Op.load 25 (Operand.tmp 115), type := 25, pos := "law.go:226", after := #[{ on := 5, ground := Ground.data }, { on := 4, ground := Ground.guard }], guard := some (4, true) }, { dst := some 117, op := Op.call { callee := Callee.value (Operand.func 7), args := #[Operand.tmp 116], argTypes := #[25] }, type := 25, pos := "law.go:226", after := #[{ on := 6, ground := Ground.data }, { on := 4, ground := Ground.chain }, { on := 4, ground := Ground.guard }], guard := some (4, true) }, { dst := some 118, op := Op.call { callee := Callee.value (Operand.func 7), args := #[Operand.tmp 117], argTypes := #[25] }, type := 25, pos := "law.go:226", after := #[{ on := 7, ground := Ground.data }, { on := 7, ground := Ground.chain }, { on := 4, ground := Ground.guard }], guard := some (4, true) }, { dst := some 119, op := Op.fieldAddr 28 (Operand.tmp 1) 0, type := 0, pos := "law.go:226", after := #[{ on := 4, ground := Ground.guard }], guard := some (4, true) }, { dst := some 120, op := Op.load 25 (Operand.tmp 119), type := 25, pos := "law.go:226", after := #[{ on := 9, ground := Ground.data }, { on := 4, ground := Ground.guard }], guard := some (4, true) }, { dst := some 121, op := Op.call { callee := Callee.value (Operand.func 7), args := #[Operand.tmp 120], argTypes := #[25] }, type := 25, pos := "law.go:226", after := #[{ on := 10, ground := Ground.data }, { on := 8, ground := Ground.chain }, { on := 4, ground := Ground.guard }], guard := some (4, true) }, { dst := some 122, op := Op.call { callee := Callee.value (Operand.func 20), args := #[Operand.tmp 118, Operand.tmp 121], argTypes := #[25, 25] }, type := 4, pos := "law.go:226", after := #[{ on := 8, ground := Ground.data }, { on := 11, ground := Ground.data }, { on := 11, ground := Ground.chain }, { on := 4, ground := Ground.guard }], guard := some (4, true) }, { dst := some 123, op := Op.pick (Operand.tmp 114) (Operand.tmp 122) (Operand.const (Value.bool false)), type := 4, pos := "law.go:226", after := #[{ on := 4, ground := Ground.data }, { on := 12, ground := Ground.data }], guard := none }, { dst := some 2, op := Op.assign (Operand.tmp 123), type := 4, pos := "law.go:226", after := #[{ on := 13, ground := Ground.data }, { on := 12, ground := Ground.chain }, { on := 0, ground := Ground.phase }, { on := 1, ground := Ground.phase }, { on := 2, ground := Ground.phase }, { on := 3, ground := Ground.phase }, { on := 4, ground := Ground.phase }, { on := 5, ground := Ground.phase }, { on := 6, ground := Ground.phase }, { on := 7, ground := Ground.phase }, { on := 8, ground := Ground.phase }, { on := 9, ground := Ground.phase }, { on := 10, ground := Ground.phase }, { on := 11, ground := Ground.phase }, { on := 12, ground := Ground.phase }, { on := 13, ground := Ground.phase }], guard := none }] l → wpOp Try.prog #[{ dst := some 110, op := Op.fieldAddr 28 (Operand.tmp 1) 0, type := 0, pos := "law.go:226", after := #[], guard := none }, { dst := some 111, op := Op.load 25 (Operand.tmp 110), type := 25, pos := "law.go:226", after := #[{ on := 0, ground := Ground.data }], guard := none }, { dst := some 112, op := Op.call { callee := Callee.value (Operand.func 7), args := #[Operand.tmp 111], argTypes := #[25] }, type := 25, pos := "law.go:226", after := #[{ on := 1, ground := Ground.data }], guard := none }, { dst := some 113, op := Op.call { callee := Callee.value (Operand.func 21), args := #[Operand.tmp 112], argTypes := #[25] }, type := 4, pos := "law.go:226", after := #[{ on := 2, ground := Ground.data }, { on := 2, ground := Ground.chain }], guard := none }, { dst := some 114, op := Op.move (Operand.tmp 113), type := 4, pos := "law.go:226", after := #[{ on := 3, ground := Ground.data }, { on := 3, ground := Ground.chain }], guard := none }, { dst := some 115, op := Op.fieldAddr 28 (Operand.tmp 1) 0, type := 0, pos := "law.go:226", after := #[{ on := 4, ground := Ground.guard }], guard := some (4, true) }, { dst := some 116, op := Op.load 25 (Operand.tmp 115), type := 25, pos := "law.go:226", after := #[{ on := 5, ground := Ground.data }, { on := 4, ground := Ground.guard }], guard := some (4, true) }, { dst := some 117, op := Op.call { callee := Callee.value (Operand.func 7), args := #[Operand.tmp 116], argTypes := #[25] }, type := 25, pos := "law.go:226", after := #[{ on := 6, ground := Ground.data }, { on := 4, ground := Ground.chain }, { on := 4, ground := Ground.guard }], guard := some (4, true) }, { dst := some 118, op := Op.call { callee := Callee.value (Operand.func 7), args := #[Operand.tmp 117], argTypes := #[25] }, type := 25, pos := "law.go:226", after := #[{ on := 7, ground := Ground.data }, { on := 7, ground := Ground.chain }, { on := 4, ground := Ground.guard }], guard := some (4, true) }, { dst := some 119, op := Op.fieldAddr 28 (Operand.tmp 1) 0, type := 0, pos := "law.go:226", after := #[{ on := 4, ground := Ground.guard }], guard := some (4, true) }, { dst := some 120, op := Op.load 25 (Operand.tmp 119), type := 25, pos := "law.go:226", after := #[{ on := 9, ground := Ground.data }, { on := 4, ground := Ground.guard }], guard := some (4, true) }, { dst := some 121, op := Op.call { callee := Callee.value (Operand.func 7), args := #[Operand.tmp 120], argTypes := #[25] }, type := 25, pos := "law.go:226", after := #[{ on := 10, ground := Ground.data }, { on := 8, ground := Ground.chain }, { on := 4, ground := Ground.guard }], guard := some (4, true) }, { dst := some 122, op := Op.call { callee := Callee.value (Operand.func 20), args := #[Operand.tmp 118, Operand.tmp 121], argTypes := #[25, 25] }, type := 4, pos := "law.go:226", after := #[{ on := 8, ground := Ground.data }, { on := 11, ground := Ground.data }, { on := 11, ground := Ground.chain }, { on := 4, ground := Ground.guard }], guard := some (4, true) }, { dst := some 123, op := Op.pick (Operand.tmp 114) (Operand.tmp 122) (Operand.const (Value.bool false)), type := 4, pos := "law.go:226", after := #[{ on := 4, ground := Ground.data }, { on := 12, ground := Ground.data }], guard := none }, { dst := some 2, op := Op.assign (Operand.tmp 123), type := 4, pos := "law.go:226", after := #[{ on := 13, ground := Ground.data }, { on := 12, ground := Ground.chain }, { on := 0, ground := Ground.phase }, { on := 1, ground := Ground.phase }, { on := 2, ground := Ground.phase }, { on := 3, ground := Ground.phase }, { on := 4, ground := Ground.phase }, { on := 5, ground := Ground.phase }, { on := 6, ground := Ground.phase }, { on := 7, ground := Ground.phase }, { on := 8, ground := Ground.phase }, { on := 9, ground := Ground.phase }, { on := 10, ground := Ground.phase }, { on := 11, ground := Ground.phase }, { on := 12, ground := Ground.phase }, { on := 13, ground := Ground.phase }], guard := none }] Q i (fun a' w' => ∃ v10x0 v10x1 v10x2 v10x3 v10x4 v10x5 v10x6 v10x7 v10x8 v10x9 v10x10 v10x11 v10x12 v10x13 v10x14, a' = { tmps := #[CasV a b c dv rp ms, ptr w.heap.size, v10x14, .int .i64 ab, .int .i64 bc, .int .i64 ac, u6, u7, u8, u9, u10, u11, u12, u13, u14, u15, u16, u17, u18, u19, u20, u21, u22, u23, u24, u25, u26, u27, u28, u29, u30, u31, u32, u33, u34, u35, u36, u37, u38, u39, u40, u41, u42, u43, u44, u45, u46, u47, u48, u49, u50, u51, u52, u53, u54, u55, u56, u57, u58, u59, u60, u61, u62, u63, u64, u65, u66, u67, u68, u69, u70, u71, u72, u73, u74, u75, .bool false, .int .i64 ab, .bool e0, .pointer (some ⟨w.heap.size, 0, none⟩), PV a, PV p8_4, .pointer (some ⟨w.heap.size, 2, none⟩), PV b, PV p8_7, .bool e0, .bool false, .bool false, .pointer (some ⟨w.heap.size, 0, none⟩), PV a, PV p8_13, .pointer (some ⟨w.heap.size, 2, none⟩), PV b, .int .i64 ab, .int .i64 ab, .bool false, .bool false, .bool false, .pointer (some ⟨w.heap.size, 0, none⟩), PV a, .pointer (some ⟨w.heap.size, 2, none⟩), PV b, .pointer (some ⟨w.heap.size, 2, none⟩), PV b, v8x27, PV p8_28, .int .i64 ab, .int .i64 ab, .bool false, .bool false, v10x0, v10x1, v10x2, v10x3, v10x4, v10x5, v10x6, v10x7, v10x8, v10x9, v10x10, v10x11, v10x12, v10x13], defers := [] } ∧ BI 15 22 y2 (PhO10 a b c w y2) [] [(2, CanonOf (runsAt a.P)), (7, CanonOf (runsAt a.P)), (8, IsP (mP a.P)), (11, CanonOf (runsAt a.P))] [] (l.setIfInBounds i true) w' [v10x0, v10x1, v10x2, v10x3, v10x4, v10x5, v10x6, v10x7, v10x8, v10x9, v10x10, v10x11, v10x12, v10x13, v10x14]) x W := by
  rintro l x W ⟨v10x0, v10x1, v10x2, v10x3, v10x4, v10x5, v10x6, v10x7, v10x8, v10x9, v10x10, v10x11, v10x12, v10x13, v10x14, rfl, T⟩ i hi
  obtain ⟨hi1, hi2, hi3⟩ := ready_mem hi
  have hi4 := no_true hi2
  have hc : i = 0 ∨ i = 1 ∨ i = 2 ∨ i = 3 ∨ i = 4 ∨ i = 5 ∨ i = 6 ∨ i = 7 ∨ i = 8 ∨ i = 9 ∨ i = 10 ∨ i = 11 ∨ i = 12 ∨ i = 13 ∨ i = 14 := by have h : i < 15 := hi1; omega
  have HT := hide T
  clear T
  rcases hc with rfl | rfl | rfl | rfl | rfl | rfl | rfl | rfl | rfl | rfl | rfl | rfl | rfl | rfl | rfl
  · have HL := hide hi4
    clear hi hi1 hi2 hi3 hi4
    refine wpOp_step (o := { dst := some 110, op := Op.fieldAddr 28 (Operand.tmp 1) 0, type := 0, pos := "law.go:226", after := #[], guard := none }) rfl (fun K hK => ?_)
    go_simp
    exact hK _ _ ⟨.pointer (some ⟨w.heap.size, 0, none⟩), v10x1, v10x2, v10x3, v10x4, v10x5, v10x6, v10x7, v10x8, v10x9, v10x10, v10x11, v10x12, v10x13, v10x14, rfl, HT.out.plain (PhO10_mono a b c w y2) (Below.refl _ _) 0 (by decide) HL.out _ rfl (by simp) (by simp) (by decide)⟩
  · have d0 := hi3 _ rfl { on := 0, ground := Ground.data } (by simp) rfl
    have e0 : v10x0 = .pointer (some ⟨w.heap.size, 0, none⟩) := HT.out.h 0 (by decide) d0 (fun hm => absurd hm (by decide))
    subst e0
    have HL := hide hi4
    clear hi hi1 hi2 hi3 hi4 d0
    have l1 := run_ldP (HCB.out.below HT.out.b).pa
    refine wpOp_step (o := { dst := some 111, op := Op.load 25 (Operand.tmp 110), type := 25, pos := "law.go:226", after := #[{ on := 0, ground := Ground.data }], guard := none }) rfl (fun K hK => ?_)
    go_simp
    exact hK _ _ ⟨_, PV a, v10x2, v10x3, v10x4, v10x5, v10x6, v10x7, v10x8, v10x9, v10x10, v10x11, v10x12, v10x13, v10x14, rfl, HT.out.plain (PhO10_mono a b c w y2) (Below.refl _ _) 1 (by decide) HL.out _ rfl (by simp) (by simp) (by decide)⟩
  · have d1 := hi3 _ rfl { on := 1, ground := Ground.data } (by simp) rfl
    have e1 : v10x1 = PV a := HT.out.h 1 (by decide) d1 (fun hm => absurd hm (by decide))
    subst e1
    have HL := hide hi4
    clear hi hi1 hi2 hi3 hi4 d1
    refine wpOp_step (o := { dst := some 112, op := Op.call { callee := Callee.value (Operand.func 7), args := #[Operand.tmp 111], argTypes := #[25] }, type := 25, pos := "law.go:226", after := #[{ on := 1, ground := Ground.data }], guard := none }) rfl (fun K hK => ?_)
    go_simp
    go_wp2_with fail
    refine (pastNorm_any a _ (HA.out.below HT.out.b)).mono ?_
    rintro e w' ⟨pp, rfl, pS, pN, pb, pq⟩
    exact hK _ _ ⟨v10x0, _, PV pp, v10x3, v10x4, v10x5, v10x6, v10x7, v10x8, v10x9, v10x10, v10x11, v10x12, v10x13, v10x14, rfl, HT.out.call (PhO10_mono a b c w y2) pb 2 (CanonOf (runsAt a.P)) (by decide) HL.out (by simp) (by simp) pp pS pN (pq) (fun _ _ => trivial) (by simp) (by decide)⟩
  · have d2 := hi3 _ rfl { on := 2, ground := Ground.data } (by simp) rfl
    obtain ⟨p2, e2, S2, q2, -⟩ := HT.out.r (2, CanonOf (runsAt a.P)) (by simp) d2
    have f2 : v10x2 = PV p2 := e2
    subst f2
    have HS2 := hide S2
    have HQ2 : Hid (CanonOf (runsAt a.P) p2.P) := q2
    clear e2 S2 q2
    have HL := hide hi4
    clear hi hi1 hi2 hi3 hi4 d2
    refine wpOp_step (o := { dst := some 113, op := Op.call { callee := Callee.value (Operand.func 21), args := #[Operand.tmp 112], argTypes := #[25] }, type := 4, pos := "law.go:226", after := #[{ on := 2, ground := Ground.data }, { on := 2, ground := Ground.chain }], guard := none }) rfl (fun K hK => ?_)
    go_simp
    go_wp2_with fail
    refine (isNormP_any p2 _ HS2.out).mono ?_
    rintro e w' ⟨z, rfl, hz, pb⟩
    obtain rfl : z = true := hz.out.2 (chain_of_canon HQ2.out)
    exact hK _ _ ⟨v10x0, v10x1, _, .bool true, v10x4, v10x5, v10x6, v10x7, v10x8, v10x9, v10x10, v10x11, v10x12, v10x13, v10x14, rfl, HT.out.plain (PhO10_mono a b c w y2) pb 3 (by decide) HL.out _ rfl (by simp) (by simp) (by decide)⟩
  · have d3 := hi3 _ rfl { on := 3, ground := Ground.data } (by simp) rfl
    have e3 : v10x3 = .bool true := HT.out.h 3 (by decide) d3 (fun hm => absurd hm (by decide))
    subst e3
    have HL := hide hi4
    clear hi hi1 hi2 hi3 hi4 d3
    refine wpOp_step (o := { dst := some 114, op := Op.move (Operand.tmp 113), type := 4, pos := "law.go:226", after := #[{ on := 3, ground := Ground.data }, { on := 3, ground := Ground.chain }], guard := none }) rfl (fun K hK => ?_)
    go_simp
    exact hK _ _ ⟨v10x0, v10x1, v10x2, _, .bool true, v10x5, v10x6, v10x7, v10x8, v10x9, v10x10, v10x11, v10x12, v10x13, v10x14, rfl, HT.out.plain (PhO10_mono a b c w y2) (Below.refl _ _) 4 (by decide) HL.out _ rfl (by simp) (by simp) (by decide)⟩
  · have d4 := hi3 _ rfl { on := 4, ground := Ground.guard } (by simp) rfl
    have e4 : v10x4 = .bool true := HT.out.h 4 (by decide) d4 (fun hm => absurd hm (by decide))
    subst e4
    have HL := hide hi4
    clear hi hi1 hi2 hi3 hi4 d4
    refine wpOp_step (o := { dst := some 115, op := Op.fieldAddr 28 (Operand.tmp 1) 0, type := 0, pos := "law.go:226", after := #[{ on := 4, ground := Ground.guard }], guard := some (4, true) }) rfl (fun K hK => ?_)
    go_simp
    exact hK _ _ ⟨v10x0, v10x1, v10x2, v10x3, _, .pointer (some ⟨w.heap.size, 0, none⟩), v10x6, v10x7, v10x8, v10x9, v10x10, v10x11, v10x12, v10x13, v10x14, rfl, HT.out.plain (PhO10_mono a b c w y2) (Below.refl _ _) 5 (by decide) HL.out _ rfl (by simp) (by simp) (by decide)⟩
  · have d5 := hi3 _ rfl { on := 5, ground := Ground.data } (by simp) rfl
    have d4 := hi3 _ rfl { on := 4, ground := Ground.guard } (by simp) rfl
    have e5 : v10x5 = .pointer (some ⟨w.heap.size, 0, none⟩) := HT.out.h 5 (by decide) d5 (fun hm => absurd hm (by decide))
    subst e5
    have e4 : v10x4 = .bool true := HT.out.h 4 (by decide) d4 (fun hm => absurd hm (by decide))
    subst e4
    have HL := hide hi4
    clear hi hi1 hi2 hi3 hi4 d5 d4
    have l1 := run_ldP (HCB.out.below HT.out.b).pa
    refine wpOp_step (o := { dst := some 116, op := Op.load 25 (Operand.tmp 115), type := 25, pos := "law.go:226", after := #[{ on := 5, ground := Ground.data }, { on := 4, ground := Ground.guard }], guard := some (4, true) }) rfl (fun K hK => ?_)
    go_simp
    exact hK _ _ ⟨v10x0, v10x1, v10x2, v10x3, _, _, PV a, v10x7, v10x8, v10x9, v10x10, v10x11, v10x12, v10x13, v10x14, rfl, HT.out.plain (PhO10_mono a b c w y2) (Below.refl _ _) 6 (by decide) HL.out _ rfl (by simp) (by simp) (by decide)⟩
  · have d6 := hi3 _ rfl { on := 6, ground := Ground.data } (by simp) rfl
    have d4 := hi3 _ rfl { on := 4, ground := Ground.chain } (by simp) rfl
    have e6 : v10x6 = PV a := HT.out.h 6 (by decide) d6 (fun hm => absurd hm (by decide))
    subst e6
    have e4 : v10x4 = .bool true := HT.out.h 4 (by decide) d4 (fun hm => absurd hm (by decide))
    subst e4
    have HL := hide hi4
    clear hi hi1 hi2 hi3 hi4 d6 d4
    refine wpOp_step (o := { dst := some 117, op := Op.call { callee := Callee.value (Operand.func 7), args := #[Operand.tmp 116], argTypes := #[25] }, type := 25, pos := "law.go:226", after := #[{ on := 6, ground := Ground.data }, { on := 4, ground := Ground.chain }, { on := 4, ground := Ground.guard }], guard := some (4, true) }) rfl (fun K hK => ?_)
    go_simp
    go_wp2_with fail
    refine (pastNorm_any a _ (HA.out.below HT.out.b)).mono ?_
    rintro e w' ⟨pp, rfl, pS, pN, pb, pq⟩
    exact hK _ _ ⟨v10x0, v10x1, v10x2, v10x3, _, v10x5, _, PV pp, v10x8, v10x9, v10x10, v10x11, v10x12, v10x13, v10x14, rfl, HT.out.call (PhO10_mono a b c w y2) pb 7 (CanonOf (runsAt a.P)) (by decide) HL.out (by simp) (by simp) pp pS pN (pq) (fun _ _ => trivial) (by simp) (by decide)⟩
  · have d7 := hi3 _ rfl { on := 7, ground := Ground.data } (by simp) rfl
    have d4 := hi3 _ rfl { on := 4, ground := Ground.guard } (by simp) rfl
    obtain ⟨p7, e7, S7, q7, -⟩ := HT.out.r (7, CanonOf (runsAt a.P)) (by simp) d7
    have f7 : v10x7 = PV p7 := e7
    subst f7
    have HS7 := hide S7
    have HQ7 : Hid (CanonOf (runsAt a.P) p7.P) := q7
    clear e7 S7 q7
    have e4 : v10x4 = .bool true := HT.out.h 4 (by decide) d4 (fun hm => absurd hm (by decide))
    subst e4
    have HL := hide hi4
    clear hi hi1 hi2 hi3 hi4 d7 d4
    refine wpOp_step (o := { dst := some 118, op := Op.call { callee := Callee.value (Operand.func 7), args := #[Operand.tmp 117], argTypes := #[25] }, type := 25, pos := "law.go:226", after := #[{ on := 7, ground := Ground.data }, { on := 7, ground := Ground.chain }, { on := 4, ground := Ground.guard }], guard := some (4, true) }) rfl (fun K hK => ?_)
    go_simp
    go_wp2_with fail
    refine (pastNorm_any p7 _ HS7.out).mono ?_
    rintro e w' ⟨pp, rfl, pS, pN, pb, pq⟩
    exact hK _ _ ⟨v10x0, v10x1, v10x2, v10x3, _, v10x5, v10x6, _, PV pp, v10x9, v10x10, v10x11, v10x12, v10x13, v10x14, rfl, HT.out.call (PhO10_mono a b c w y2) pb 8 (IsP (mP a.P)) (by decide) HL.out (by simp) (by simp) pp pS pN ((isP_norm pq).congr (isP_norm HQ7.out).mem) (fun _ _ => trivial) (by simp) (by decide)⟩
  · have d4 := hi3 _ rfl { on := 4, ground := Ground.guard } (by simp) rfl
    have e4 : v10x4 = .bool true := HT.out.h 4 (by decide) d4 (fun hm => absurd hm (by decide))
    subst e4
    have HL := hide hi4
    clear hi hi1 hi2 hi3 hi4 d4
    refine wpOp_step (o := { dst := some 119, op := Op.fieldAddr 28 (Operand.tmp 1) 0, type := 0, pos := "law.go:226", after := #[{ on := 4, ground := Ground.guard }], guard := some (4, true) }) rfl (fun K hK => ?_)
    go_simp
    exact hK _ _ ⟨v10x0, v10x1, v10x2, v10x3, _, v10x5, v10x6, v10x7, v10x8, .pointer (some ⟨w.heap.size, 0, none⟩), v10x10, v10x11, v10x12, v10x13, v10x14, rfl, HT.out.plain (PhO10_mono a b c w y2) (Below.refl _ _) 9 (by decide) HL.out _ rfl (by simp) (by simp) (by decide)⟩
  · have d9 := hi3 _ rfl { on := 9, ground := Ground.data } (by simp) rfl
    have d4 := hi3 _ rfl { on := 4, ground := Ground.guard } (by simp) rfl
    have e9 : v10x9 = .pointer (some ⟨w.heap.size, 0, none⟩) := HT.out.h 9 (by decide) d9 (fun hm => absurd hm (by decide))
    subst e9
    have e4 : v10x4 = .bool true := HT.out.h 4 (by decide) d4 (fun hm => absurd hm (by decide))
    subst e4
    have HL := hide hi4
    clear hi hi1 hi2 hi3 hi4 d9 d4
    have l1 := run_ldP (HCB.out.below HT.out.b).pa
    refine wpOp_step (o := { dst := some 120, op := Op.load 25 (Operand.tmp 119), type := 25, pos := "law.go:226", after := #[{ on := 9, ground := Ground.data }, { on := 4, ground := Ground.guard }], guard := some (4, true) }) rfl (fun K hK => ?_)
    go_simp
    exact hK _ _ ⟨v10x0, v10x1, v10x2, v10x3, _, v10x5, v10x6, v10x7, v10x8, _, PV a, v10x11, v10x12, v10x13, v10x14, rfl, HT.out.plain (PhO10_mono a b c w y2) (Below.refl _ _) 10 (by decide) HL.out _ rfl (by simp) (by simp) (by decide)⟩
  · have d10 := hi3 _ rfl { on := 10, ground := Ground.data } (by simp) rfl
    have d4 := hi3 _ rfl { on := 4, ground := Ground.guard } (by simp) rfl
    have e10 : v10x10 = PV a := HT.out.h 10 (by decide) d10 (fun hm => absurd hm (by decide))
    subst e10
    have e4 : v10x4 = .bool true := HT.out.h 4 (by decide) d4 (fun hm => absurd hm (by decide))
    subst e4
    have HL := hide hi4
    clear hi hi1 hi2 hi3 hi4 d10 d4
    refine wpOp_step (o := { dst := some 121, op := Op.call { callee := Callee.value (Operand.func 7), args := #[Operand.tmp 120], argTypes := #[25] }, type := 25, pos := "law.go:226", after := #[{ on := 10, ground := Ground.data }, { on := 8, ground := Ground.chain }, { on := 4, ground := Ground.guard }], guard := some (4, true) }) rfl (fun K hK => ?_)
    go_simp
    go_wp2_with fail
    refine (pastNorm_any a _ (HA.out.below HT.out.b)).mono ?_
    rintro e w' ⟨pp, rfl, pS, pN, pb, pq⟩
    exact hK _ _ ⟨v10x0, v10x1, v10x2, v10x3, _, v10x5, v10x6, v10x7, v10x8, v10x9, _, PV pp, v10x12, v10x13, v10x14, rfl, HT.out.call (PhO10_mono a b c w y2) pb 11 (CanonOf (runsAt a.P)) (by decide) HL.out (by simp) (by simp) pp pS pN (pq) (fun _ _ => trivial) (by simp) (by decide)⟩
  · have d8 := hi3 _ rfl { on := 8, ground := Ground.data } (by simp) rfl
    have d11 := hi3 _ rfl { on := 11, ground := Ground.data } (by simp) rfl
    have d4 := hi3 _ rfl { on := 4, ground := Ground.guard } (by simp) rfl
    obtain ⟨p8, e8, S8, q8, -⟩ := HT.out.r (8, IsP (mP a.P)) (by simp) d8
    have f8 : v10x8 = PV p8 := e8
    subst f8
    have HS8 := hide S8
    have HQ8 : Hid (IsP (mP a.P) p8.P) := q8
    clear e8 S8 q8
    obtain ⟨p11, e11, S11, q11, -⟩ := HT.out.r (11, CanonOf (runsAt a.P)) (by simp) d11
    have f11 : v10x11 = PV p11 := e11
    subst f11
    have HS11 := hide S11
    have HQ11 : Hid (CanonOf (runsAt a.P) p11.P) := q11
    clear e11 S11 q11
    have e4 : v10x4 = .bool true := HT.out.h 4 (by decide) d4 (fun hm => absurd hm (by decide))
    subst e4
    have HL := hide hi4
    clear hi hi1 hi2 hi3 hi4 d8 d11 d4
    refine wpOp_step (o := { dst := some 122, op := Op.call { callee := Callee.value (Operand.func 20), args := #[Operand.tmp 118, Operand.tmp 121], argTypes := #[25, 25] }, type := 4, pos := "law.go:226", after := #[{ on := 8, ground := Ground.data }, { on := 11, ground := Ground.data }, { on := 11, ground := Ground.chain }, { on := 4, ground := Ground.guard }], guard := some (4, true) }) rfl (fun K hK => ?_)
    go_simp
    go_wp2_with fail
    refine (samePast_any p8 p11 _ HS8.out HS11.out).mono ?_
    rintro e w' ⟨z, rfl, hz, pb⟩
    obtain rfl : z = true := hz.2 (HQ8.out.unique (isP_norm HQ11.out) (fun _ _ _ => Iff.rfl))
    exact hK _ _ ⟨v10x0, v10x1, v10x2, v10x3, _, v10x5, v10x6, v10x7, _, v10x9, v10x10, _, .bool true, v10x13, v10x14, rfl, HT.out.plain (PhO10_mono a b c w y2) pb 12 (by decide) HL.out _ rfl (by simp) (by simp) (by decide)⟩
  · have d4 := hi3 _ rfl { on := 4, ground := Ground.data } (by simp) rfl
    have d12 := hi3 _ rfl { on := 12, ground := Ground.data } (by simp) rfl
    have e4 : v10x4 = .bool true := HT.out.h 4 (by decide) d4 (fun hm => absurd hm (by decide))
    subst e4
    have e12 : v10x12 = .bool true := HT.out.h 12 (by decide) d12 (fun hm => absurd hm (by decide))
    subst e12
    have HL := hide hi4
    clear hi hi1 hi2 hi3 hi4 d4 d12
    refine wpOp_step (o := { dst := some 123, op := Op.pick (Operand.tmp 114) (Operand.tmp 122) (Operand.const (Value.bool false)), type := 4, pos := "law.go:226", after := #[{ on := 4, ground := Ground.data }, { on := 12, ground := Ground.data }], guard := none }) rfl (fun K hK => ?_)
    go_simp
    exact hK _ _ ⟨v10x0, v10x1, v10x2, v10x3, _, v10x5, v10x6, v10x7, v10x8, v10x9, v10x10, v10x11, _, .bool true, v10x14, rfl, HT.out.plain (PhO10_mono a b c w y2) (Below.refl _ _) 13 (by decide) HL.out _ rfl (by simp) (by simp) (by decide)⟩
  · have d13 := hi3 _ rfl { on := 13, ground := Ground.data } (by simp) rfl
    have e13 : v10x13 = .bool true := HT.out.h 13 (by decide) d13 (fun hm => absurd hm (by decide))
    subst e13
    have HL := hide hi4
    clear hi hi1 hi2 hi3 hi4 d13
    refine wpOp_step (o := { dst := some 2, op := Op.assign (Operand.tmp 123), type := 4, pos := "law.go:226", after := #[{ on := 13, ground := Ground.data }, { on := 12, ground := Ground.chain }, { on := 0, ground := Ground.phase }, { on := 1, ground := Ground.phase }, { on := 2, ground := Ground.phase }, { on := 3, ground := Ground.phase }, { on := 4, ground := Ground.phase }, { on := 5, ground := Ground.phase }, { on := 6, ground := Ground.phase }, { on := 7, ground := Ground.phase }, { on := 8, ground := Ground.phase }, { on := 9, ground := Ground.phase }, { on := 10, ground := Ground.phase }, { on := 11, ground := Ground.phase }, { on := 12, ground := Ground.phase }, { on := 13, ground := Ground.phase }], guard := none }) rfl (fun K hK => ?_)
    go_simp
    exact hK _ _ ⟨v10x0, v10x1, v10x2, v10x3, v10x4, v10x5, v10x6, v10x7, v10x8, v10x9, v10x10, v10x11, v10x12, _, .bool true, rfl, HT.out.plain (PhO10_mono a b c w y2) (Below.refl _ _) 14 (by decide) HL.out _ rfl (by simp) (by simp) (by decide)⟩
end Go.Proofs.Ytlnhafjpmkopgaa
