/- BarrowRunsAreSets: the steps of its region 18. -/
import Derived.Test.YthehbnfkobkciaaBR20
namespace Go.Proofs.Ythehbnfkobkciaa
open Go.RowKit
def Ph18 (ao bo co a7 : Option Addr) (n cap m cap' l cap2 n7 c7 : Nat) (A B C X7 : List Rn) (w : World) : Nat → Value → World → Prop
  | 0, x, _ => x = .pointer (some ⟨w.heap.size, 0, none⟩)
  | 1, x, _ => x = .slice ao n cap
  | 2, x, _ => x = .pointer (some ⟨w.heap.size, 1, none⟩)
  | 3, x, _ => x = .slice bo m cap'
  | 4, x, _ => x = .pointer (some ⟨w.heap.size, 2, none⟩)
  | 5, x, _ => x = .slice co l cap2
  | 6, x, W => ∃ g, x = .slice (some ⟨g, 0, none⟩) 2 2 ∧ W.cell? ⟨g, 0, none⟩ = some (.slice bo m cap') ∧ W.cell? ⟨g, 1, none⟩ = some (.slice co l cap2)
  | 7, x, W => ∃ ra rn rc RL, x = .slice ra rn rc ∧ RSrc W ra rn rc RL ∧ (UnionOf B C) RL
  | 8, x, W => ∃ ra rn rc RL, x = .slice ra rn rc ∧ RSrc W ra rn rc RL ∧ (fun R => ∃ E, UnionOf B C E ∧ MeetOf A E R) RL
  | 9, x, _ => x = .slice a7 n7 c7
  | 10, x, _ => x = .pointer (some ⟨w.heap.size, 0, none⟩)
  | 11, x, _ => x = .slice ao n cap
  | 12, x, _ => x = .pointer (some ⟨w.heap.size, 2, none⟩)
  | 13, x, _ => x = .slice co l cap2
  | 14, x, W => ∃ ra rn rc RL, x = .slice ra rn rc ∧ RSrc W ra rn rc RL ∧ (MeetOf A C) RL
  | 15, x, W => ∃ g ra rn rc RL, x = .slice (some ⟨g, 0, none⟩) 2 2 ∧ W.cell? ⟨g, 0, none⟩ = some (.slice a7 n7 c7) ∧ W.cell? ⟨g, 1, none⟩ = some (.slice ra rn rc) ∧ RSrc W ra rn rc RL ∧ MeetOf A C RL
  | 16, x, W => ∃ ra rn rc RL, x = .slice ra rn rc ∧ RSrc W ra rn rc RL ∧ (fun R => ∃ M, MeetOf A C M ∧ UnionOf X7 M R) RL
  | 17, x, _ => x = .bool true
  | 18, x, _ => x = .bool false
  | _, _, _ => True
theorem Ph18_mono (ao bo co a7 : Option Addr) (n cap m cap' l cap2 n7 c7 : Nat) (A B C X7 : List Rn) (w : World) : Mono (Ph18 ao bo co a7 n cap m cap' l cap2 n7 c7 A B C X7 w) := fun i x W W' h hb => match i with
  | 0 => h
  | 1 => h
  | 2 => h
  | 3 => h
  | 4 => h
  | 5 => h
  | 6 => by obtain ⟨g, e, c0, c1⟩ := h; exact ⟨g, e, cell_on hb c0, cell_on hb c1⟩
  | 7 => by obtain ⟨ra, rn, rc, RL, e, S, q⟩ := h; exact ⟨ra, rn, rc, RL, e, S.below hb, q⟩
  | 8 => by obtain ⟨ra, rn, rc, RL, e, S, q⟩ := h; exact ⟨ra, rn, rc, RL, e, S.below hb, q⟩
  | 9 => h
  | 10 => h
  | 11 => h
  | 12 => h
  | 13 => h
  | 14 => by obtain ⟨ra, rn, rc, RL, e, S, q⟩ := h; exact ⟨ra, rn, rc, RL, e, S.below hb, q⟩
  | 15 => by obtain ⟨g, ra, rn, rc, RL, e, c0, c1, S, q⟩ := h; exact ⟨g, ra, rn, rc, RL, e, cell_on hb c0, cell_on hb c1, S.below hb, q⟩
  | 16 => by obtain ⟨ra, rn, rc, RL, e, S, q⟩ := h; exact ⟨ra, rn, rc, RL, e, S.below hb, q⟩
  | 17 => h
  | 18 => h
  | _ + 19 => trivial
set_option maxRecDepth 100000 in
set_option maxHeartbeats 4000000 in
theorem st18 {ao bo co a7 : Option Addr} {n cap m cap' l cap2 n7 c7 : Nat} {A B C X7 : List Rn} {w w24 : World} {p q : Bool} {z : Int} {a3 a4 a5 a6 a8 : Option Addr} {c3 c4 c5 c6 c8 n3 n4 n5 n6 n8 : Nat} {u100 u101 u102 u103 u104 u105 u106 u107 u108 u109 u11 u110 u111 u112 u113 u114 u115 u116 u117 u118 u119 u12 u120 u121 u122 u123 u124 u125 u126 u127 u128 u129 u13 u130 u131 u132 u133 u134 u135 u136 u137 u138 u139 u14 u140 u141 u142 u143 u144 u145 u146 u147 u148 u149 u15 u150 u151 u152 u153 u154 u155 u156 u157 u158 u159 u16 u160 u161 u162 u163 u164 u165 u166 u167 u168 u169 u17 u170 u171 u172 u173 u174 u175 u176 u177 u178 u18 u19 u199 u20 u200 u201 u202 u203 u204 u205 u206 u207 u208 u209 u21 u210 u211 u212 u213 u214 u215 u216 u217 u218 u219 u22 u220 u221 u222 u223 u224 u225 u226 u227 u228 u229 u23 u230 u231 u232 u233 u234 u235 u236 u237 u238 u239 u24 u240 u241 u242 u243 u244 u245 u246 u247 u248 u249 u25 u250 u251 u252 u253 u254 u255 u256 u257 u258 u259 u26 u260 u261 u262 u263 u264 u265 u266 u267 u268 u269 u27 u270 u271 u272 u273 u274 u275 u276 u28 u29 u30 u31 u32 u33 u34 u35 u36 u37 u38 u39 u40 u41 u42 u43 u44 u45 u46 u47 u48 u49 u50 u51 u52 u53 u54 u55 u56 u57 u58 u59 u60 u61 u62 u63 u64 u65 u66 u67 u68 u69 u70 u71 u72 u73 u74 u75 u76 u77 u78 u79 u80 u81 u82 u83 u84 u85 u86 u87 u88 u89 u90 u91 u92 u93 u94 u95 u96 u97 u98 u99 : Value} (HSk : Hid (RSrc w24 ao n cap A)) (HRk : Hid (RSrc w24 bo m cap' B)) (HTk : Hid (RSrc w24 co l cap2 C)) (HX7 : Hid (RSrc w24 a7 n7 c7 X7)) (HP7 : Hid (MeetOf A B X7)) (HKC : Hid (w24.cell? ⟨w.heap.size, 0, none⟩ = some (.slice ao n cap) ∧ w24.cell? ⟨w.heap.size, 1, none⟩ = some (.slice bo m cap') ∧ w24.cell? ⟨w.heap.size, 2, none⟩ = some (.slice co l cap2))) (_ : n ≤ 1048576) (hnB : m ≤ 1048576) (hnC : l ≤ 1048576) (hn7 : n7 ≤ 500000001) {Q : Exit → Act → World → Prop} :
    ∀ (fl : Array Bool) (x : Act) (W : World), (∃ v0 v1 v2 v3 v4 v5 v6 v7 v8 v9 v10 v11 v12 v13 v14 v15 v16 v17 v18, x = { tmps := #[Value.agg #[Value.slice ao n cap, Value.slice bo m cap', Value.slice co l cap2, Value.int IntKind.i64 z], Value.pointer (some { block := w.heap.size, off := 0 }), Value.bool false, Value.slice a3 n3 c3, Value.slice a4 n4 c4, Value.slice a5 n5 c5, Value.slice a6 n6 c6, Value.slice a7 n7 c7, Value.slice a8 n8 c8, Value.bool p, Value.bool q, u11, u12, u13, u14, u15, u16, u17, u18, u19, u20, u21, u22, u23, u24, u25, u26, u27, u28, u29, u30, u31, u32, u33, u34, u35, u36, u37, u38, u39, u40, u41, u42, u43, u44, u45, u46, u47, u48, u49, u50, u51, u52, u53, u54, u55, u56, u57, u58, u59, u60, u61, u62, u63, u64, u65, u66, u67, u68, u69, u70, u71, u72, u73, u74, u75, u76, u77, u78, u79, u80, u81, u82, u83, u84, u85, u86, u87, u88, u89, u90, u91, u92, u93, u94, u95, u96, u97, u98, u99, u100, u101, u102, u103, u104, u105, u106, u107, u108, u109, u110, u111, u112, u113, u114, u115, u116, u117, u118, u119, u120, u121, u122, u123, u124, u125, u126, u127, u128, u129, u130, u131, u132, u133, u134, u135, u136, u137, u138, u139, u140, u141, u142, u143, u144, u145, u146, u147, u148, u149, u150, u151, u152, u153, u154, u155, u156, u157, u158, u159, u160, u161, u162, u163, u164, u165, u166, u167, u168, u169, u170, u171, u172, u173, u174, u175, u176, u177, u178, Value.bool false, v0, v1, v2, v3, v4, v5, v6, v7, v8, v9, v10, v11, v12, v13, v14, v15, v16, v17, v18, u199, u200, u201, u202, u203, u204, u205, u206, u207, u208, u209, u210, u211, u212, u213, u214, u215, u216, u217, u218, u219, u220, u221, u222, u223, u224, u225, u226, u227, u228, u229, u230, u231, u232, u233, u234, u235, u236, u237, u238, u239, u240, u241, u242, u243, u244, u245, u246, u247, u248, u249, u250, u251, u252, u253, u254, u255, u256, u257, u258, u259, u260, u261, u262, u263, u264, u265, u266, u267, u268, u269, u270, u271, u272, u273, u274, u275, u276], defers := [] } ∧ RI 19 w24 (Ph18 ao bo co a7 n cap m cap' l cap2 n7 c7 A B C X7 w) fl W [v0, v1, v2, v3, v4, v5, v6, v7, v8, v9, v10, v11, v12, v13, v14, v15, v16, v17, v18]) → ∀ i, i ∈ Region.ready .any #[{ dst := some 180, op := Op.fieldAddr 24 (Operand.tmp 1) 0, type := 0, pos := "top01.go:38", after := #[], guard := none }, { dst := some 181, op := Op.load 22 (Operand.tmp 180), type := 22, pos := "top01.go:38", after := #[{ on := 0, ground := Ground.data }], guard := none }, { dst := some 182, op := Op.fieldAddr 24 (Operand.tmp 1) 1, type := 0, pos := "top01.go:38", after := #[], guard := none }, { dst := some 183, op := Op.load 22 (Operand.tmp 182), type := 22, pos := "top01.go:38", after := #[{ on := 2, ground := Ground.data }], guard := none }, { dst := some 184, op := Op.fieldAddr 24 (Operand.tmp 1) 2, type := 0, pos := "top01.go:38", after := #[], guard := none }, { dst := some 185, op := Op.load 22 (Operand.tmp 184), type := 22, pos := "top01.go:38", after := #[{ on := 4, ground := Ground.data }], guard := none }, { dst := some 186, op := Op.buildSlice 35 2 #[(0, Operand.tmp 183), (1, Operand.tmp 185)], type := 35, pos := "top01.go:38", after := #[{ on := 3, ground := Ground.data }, { on := 5, ground := Ground.data }], guard := none }, { dst := some 187, op := Op.call { callee := Callee.value (Operand.func 5), args := #[Operand.tmp 186], argTypes := #[35] }, type := 22, pos := "top01.go:38", after := #[{ on := 6, ground := Ground.data }], guard := none }, { dst := some 188, op := Op.call { callee := Callee.value (Operand.func 7), args := #[Operand.tmp 181, Operand.tmp 187], argTypes := #[22, 22] }, type := 22, pos := "top01.go:38", after := #[{ on := 1, ground := Ground.data }, { on := 7, ground := Ground.data }, { on := 7, ground := Ground.chain }], guard := none }, { dst := some 189, op := Op.move (Operand.tmp 7), type := 22, pos := "top01.go:38", after := #[], guard := none }, { dst := some 190, op := Op.fieldAddr 24 (Operand.tmp 1) 0, type := 0, pos := "top01.go:38", after := #[], guard := none }, { dst := some 191, op := Op.load 22 (Operand.tmp 190), type := 22, pos := "top01.go:38", after := #[{ on := 10, ground := Ground.data }], guard := none }, { dst := some 192, op := Op.fieldAddr 24 (Operand.tmp 1) 2, type := 0, pos := "top01.go:38", after := #[], guard := none }, { dst := some 193, op := Op.load 22 (Operand.tmp 192), type := 22, pos := "top01.go:38", after := #[{ on := 12, ground := Ground.data }], guard := none }, { dst := some 194, op := Op.call { callee := Callee.value (Operand.func 7), args := #[Operand.tmp 191, Operand.tmp 193], argTypes := #[22, 22] }, type := 22, pos := "top01.go:38", after := #[{ on := 11, ground := Ground.data }, { on := 13, ground := Ground.data }, { on := 8, ground := Ground.chain }], guard := none }, { dst := some 195, op := Op.buildSlice 35 2 #[(0, Operand.tmp 189), (1, Operand.tmp 194)], type := 35, pos := "top01.go:38", after := #[{ on := 9, ground := Ground.data }, { on := 14, ground := Ground.data }], guard := none }, { dst := some 196, op := Op.call { callee := Callee.value (Operand.func 5), args := #[Operand.tmp 195], argTypes := #[35] }, type := 22, pos := "top01.go:38", after := #[{ on := 15, ground := Ground.data }, { on := 14, ground := Ground.chain }], guard := none }, { dst := some 197, op := Op.call { callee := Callee.value (Operand.func 4), args := #[Operand.tmp 188, Operand.tmp 196], argTypes := #[22, 22] }, type := 4, pos := "top01.go:38", after := #[{ on := 8, ground := Ground.data }, { on := 16, ground := Ground.data }, { on := 16, ground := Ground.chain }], guard := none }, { dst := some 198, op := Op.unOp UnOp.not 4 (Operand.tmp 197), type := 4, pos := "top01.go:38", after := #[{ on := 17, ground := Ground.data }], guard := none }] fl → wpOp Try.prog #[{ dst := some 180, op := Op.fieldAddr 24 (Operand.tmp 1) 0, type := 0, pos := "top01.go:38", after := #[], guard := none }, { dst := some 181, op := Op.load 22 (Operand.tmp 180), type := 22, pos := "top01.go:38", after := #[{ on := 0, ground := Ground.data }], guard := none }, { dst := some 182, op := Op.fieldAddr 24 (Operand.tmp 1) 1, type := 0, pos := "top01.go:38", after := #[], guard := none }, { dst := some 183, op := Op.load 22 (Operand.tmp 182), type := 22, pos := "top01.go:38", after := #[{ on := 2, ground := Ground.data }], guard := none }, { dst := some 184, op := Op.fieldAddr 24 (Operand.tmp 1) 2, type := 0, pos := "top01.go:38", after := #[], guard := none }, { dst := some 185, op := Op.load 22 (Operand.tmp 184), type := 22, pos := "top01.go:38", after := #[{ on := 4, ground := Ground.data }], guard := none }, { dst := some 186, op := Op.buildSlice 35 2 #[(0, Operand.tmp 183), (1, Operand.tmp 185)], type := 35, pos := "top01.go:38", after := #[{ on := 3, ground := Ground.data }, { on := 5, ground := Ground.data }], guard := none }, { dst := some 187, op := Op.call { callee := Callee.value (Operand.func 5), args := #[Operand.tmp 186], argTypes := #[35] }, type := 22, pos := "top01.go:38", after := #[{ on := 6, ground := Ground.data }], guard := none }, { dst := some 188, op := Op.call { callee := Callee.value (Operand.func 7), args := #[Operand.tmp 181, Operand.tmp 187], argTypes := #[22, 22] }, type := 22, pos := "top01.go:38", after := #[{ on := 1, ground := Ground.data }, { on := 7, ground := Ground.data }, { on := 7, ground := Ground.chain }], guard := none }, { dst := some 189, op := Op.move (Operand.tmp 7), type := 22, pos := "top01.go:38", after := #[], guard := none }, { dst := some 190, op := Op.fieldAddr 24 (Operand.tmp 1) 0, type := 0, pos := "top01.go:38", after := #[], guard := none }, { dst := some 191, op := Op.load 22 (Operand.tmp 190), type := 22, pos := "top01.go:38", after := #[{ on := 10, ground := Ground.data }], guard := none }, { dst := some 192, op := Op.fieldAddr 24 (Operand.tmp 1) 2, type := 0, pos := "top01.go:38", after := #[], guard := none }, { dst := some 193, op := Op.load 22 (Operand.tmp 192), type := 22, pos := "top01.go:38", after := #[{ on := 12, ground := Ground.data }], guard := none }, { dst := some 194, op := Op.call { callee := Callee.value (Operand.func 7), args := #[Operand.tmp 191, Operand.tmp 193], argTypes := #[22, 22] }, type := 22, pos := "top01.go:38", after := #[{ on := 11, ground := Ground.data }, { on := 13, ground := Ground.data }, { on := 8, ground := Ground.chain }], guard := none }, { dst := some 195, op := Op.buildSlice 35 2 #[(0, Operand.tmp 189), (1, Operand.tmp 194)], type := 35, pos := "top01.go:38", after := #[{ on := 9, ground := Ground.data }, { on := 14, ground := Ground.data }], guard := none }, { dst := some 196, op := Op.call { callee := Callee.value (Operand.func 5), args := #[Operand.tmp 195], argTypes := #[35] }, type := 22, pos := "top01.go:38", after := #[{ on := 15, ground := Ground.data }, { on := 14, ground := Ground.chain }], guard := none }, { dst := some 197, op := Op.call { callee := Callee.value (Operand.func 4), args := #[Operand.tmp 188, Operand.tmp 196], argTypes := #[22, 22] }, type := 4, pos := "top01.go:38", after := #[{ on := 8, ground := Ground.data }, { on := 16, ground := Ground.data }, { on := 16, ground := Ground.chain }], guard := none }, { dst := some 198, op := Op.unOp UnOp.not 4 (Operand.tmp 197), type := 4, pos := "top01.go:38", after := #[{ on := 17, ground := Ground.data }], guard := none }] Q i (fun a' w' => ∃ v0 v1 v2 v3 v4 v5 v6 v7 v8 v9 v10 v11 v12 v13 v14 v15 v16 v17 v18, a' = { tmps := #[Value.agg #[Value.slice ao n cap, Value.slice bo m cap', Value.slice co l cap2, Value.int IntKind.i64 z], Value.pointer (some { block := w.heap.size, off := 0 }), Value.bool false, Value.slice a3 n3 c3, Value.slice a4 n4 c4, Value.slice a5 n5 c5, Value.slice a6 n6 c6, Value.slice a7 n7 c7, Value.slice a8 n8 c8, Value.bool p, Value.bool q, u11, u12, u13, u14, u15, u16, u17, u18, u19, u20, u21, u22, u23, u24, u25, u26, u27, u28, u29, u30, u31, u32, u33, u34, u35, u36, u37, u38, u39, u40, u41, u42, u43, u44, u45, u46, u47, u48, u49, u50, u51, u52, u53, u54, u55, u56, u57, u58, u59, u60, u61, u62, u63, u64, u65, u66, u67, u68, u69, u70, u71, u72, u73, u74, u75, u76, u77, u78, u79, u80, u81, u82, u83, u84, u85, u86, u87, u88, u89, u90, u91, u92, u93, u94, u95, u96, u97, u98, u99, u100, u101, u102, u103, u104, u105, u106, u107, u108, u109, u110, u111, u112, u113, u114, u115, u116, u117, u118, u119, u120, u121, u122, u123, u124, u125, u126, u127, u128, u129, u130, u131, u132, u133, u134, u135, u136, u137, u138, u139, u140, u141, u142, u143, u144, u145, u146, u147, u148, u149, u150, u151, u152, u153, u154, u155, u156, u157, u158, u159, u160, u161, u162, u163, u164, u165, u166, u167, u168, u169, u170, u171, u172, u173, u174, u175, u176, u177, u178, Value.bool false, v0, v1, v2, v3, v4, v5, v6, v7, v8, v9, v10, v11, v12, v13, v14, v15, v16, v17, v18, u199, u200, u201, u202, u203, u204, u205, u206, u207, u208, u209, u210, u211, u212, u213, u214, u215, u216, u217, u218, u219, u220, u221, u222, u223, u224, u225, u226, u227, u228, u229, u230, u231, u232, u233, u234, u235, u236, u237, u238, u239, u240, u241, u242, u243, u244, u245, u246, u247, u248, u249, u250, u251, u252, u253, u254, u255, u256, u257, u258, u259, u260, u261, u262, u263, u264, u265, u266, u267, u268, u269, u270, u271, u272, u273, u274, u275, u276], defers := [] } ∧ RI 19 w24 (Ph18 ao bo co a7 n cap m cap' l cap2 n7 c7 A B C X7 w) (fl.setIfInBounds i true) w' [v0, v1, v2, v3, v4, v5, v6, v7, v8, v9, v10, v11, v12, v13, v14, v15, v16, v17, v18]) x W := by
  rintro fl x W ⟨v0, v1, v2, v3, v4, v5, v6, v7, v8, v9, v10, v11, v12, v13, v14, v15, v16, v17, v18, rfl, T⟩ i hi
  obtain ⟨hi1, hi2, hi3⟩ := ready_mem hi
  have hc : i = 0 ∨ i = 1 ∨ i = 2 ∨ i = 3 ∨ i = 4 ∨ i = 5 ∨ i = 6 ∨ i = 7 ∨ i = 8 ∨ i = 9 ∨ i = 10 ∨ i = 11 ∨ i = 12 ∨ i = 13 ∨ i = 14 ∨ i = 15 ∨ i = 16 ∨ i = 17 ∨ i = 18 := by have h : i < 19 := hi1; omega
  have HT := hide T
  clear T hi2
  rcases hc with rfl | rfl | rfl | rfl | rfl | rfl | rfl | rfl | rfl | rfl | rfl | rfl | rfl | rfl | rfl | rfl | rfl | rfl | rfl
  · clear hi hi1 hi3
    refine wpOp_step (o := { dst := some 180, op := Op.fieldAddr 24 (Operand.tmp 1) 0, type := 0, pos := "top01.go:38", after := #[], guard := none }) rfl (fun K hK => ?_)
    go_simp
    exact hK _ _ ⟨.pointer (some ⟨w.heap.size, 0, none⟩), v1, v2, v3, v4, v5, v6, v7, v8, v9, v10, v11, v12, v13, v14, v15, v16, v17, v18, rfl, HT.out.put (Ph18_mono ao bo co a7 n cap m cap' l cap2 n7 c7 A B C X7 w) (Below.refl _ _) 0 (by decide) _ rfl⟩
  · have d0 := hi3 _ rfl { on := 0, ground := Ground.data } (by simp) rfl
    have e0 : v0 = .pointer (some ⟨w.heap.size, 0, none⟩) := HT.out.h 0 (by decide) d0
    subst e0
    clear hi hi1 hi3 d0
    have l1 := cell_on HT.out.b HKC.out.1
    refine wpOp_step (o := { dst := some 181, op := Op.load 22 (Operand.tmp 180), type := 22, pos := "top01.go:38", after := #[{ on := 0, ground := Ground.data }], guard := none }) rfl (fun K hK => ?_)
    go_simp
    exact hK _ _ ⟨_, .slice ao n cap, v2, v3, v4, v5, v6, v7, v8, v9, v10, v11, v12, v13, v14, v15, v16, v17, v18, rfl, HT.out.put (Ph18_mono ao bo co a7 n cap m cap' l cap2 n7 c7 A B C X7 w) (Below.refl _ _) 1 (by decide) _ rfl⟩
  · clear hi hi1 hi3
    refine wpOp_step (o := { dst := some 182, op := Op.fieldAddr 24 (Operand.tmp 1) 1, type := 0, pos := "top01.go:38", after := #[], guard := none }) rfl (fun K hK => ?_)
    go_simp
    exact hK _ _ ⟨v0, v1, .pointer (some ⟨w.heap.size, 1, none⟩), v3, v4, v5, v6, v7, v8, v9, v10, v11, v12, v13, v14, v15, v16, v17, v18, rfl, HT.out.put (Ph18_mono ao bo co a7 n cap m cap' l cap2 n7 c7 A B C X7 w) (Below.refl _ _) 2 (by decide) _ rfl⟩
  · have d2 := hi3 _ rfl { on := 2, ground := Ground.data } (by simp) rfl
    have e2 : v2 = .pointer (some ⟨w.heap.size, 1, none⟩) := HT.out.h 2 (by decide) d2
    subst e2
    clear hi hi1 hi3 d2
    have l1 := cell_on HT.out.b HKC.out.2.1
    refine wpOp_step (o := { dst := some 183, op := Op.load 22 (Operand.tmp 182), type := 22, pos := "top01.go:38", after := #[{ on := 2, ground := Ground.data }], guard := none }) rfl (fun K hK => ?_)
    go_simp
    exact hK _ _ ⟨v0, v1, _, .slice bo m cap', v4, v5, v6, v7, v8, v9, v10, v11, v12, v13, v14, v15, v16, v17, v18, rfl, HT.out.put (Ph18_mono ao bo co a7 n cap m cap' l cap2 n7 c7 A B C X7 w) (Below.refl _ _) 3 (by decide) _ rfl⟩
  · clear hi hi1 hi3
    refine wpOp_step (o := { dst := some 184, op := Op.fieldAddr 24 (Operand.tmp 1) 2, type := 0, pos := "top01.go:38", after := #[], guard := none }) rfl (fun K hK => ?_)
    go_simp
    exact hK _ _ ⟨v0, v1, v2, v3, .pointer (some ⟨w.heap.size, 2, none⟩), v5, v6, v7, v8, v9, v10, v11, v12, v13, v14, v15, v16, v17, v18, rfl, HT.out.put (Ph18_mono ao bo co a7 n cap m cap' l cap2 n7 c7 A B C X7 w) (Below.refl _ _) 4 (by decide) _ rfl⟩
  · have d4 := hi3 _ rfl { on := 4, ground := Ground.data } (by simp) rfl
    have e4 : v4 = .pointer (some ⟨w.heap.size, 2, none⟩) := HT.out.h 4 (by decide) d4
    subst e4
    clear hi hi1 hi3 d4
    have l1 := cell_on HT.out.b HKC.out.2.2
    refine wpOp_step (o := { dst := some 185, op := Op.load 22 (Operand.tmp 184), type := 22, pos := "top01.go:38", after := #[{ on := 4, ground := Ground.data }], guard := none }) rfl (fun K hK => ?_)
    go_simp
    exact hK _ _ ⟨v0, v1, v2, v3, _, .slice co l cap2, v6, v7, v8, v9, v10, v11, v12, v13, v14, v15, v16, v17, v18, rfl, HT.out.put (Ph18_mono ao bo co a7 n cap m cap' l cap2 n7 c7 A B C X7 w) (Below.refl _ _) 5 (by decide) _ rfl⟩
  · have d3 := hi3 _ rfl { on := 3, ground := Ground.data } (by simp) rfl
    have d5 := hi3 _ rfl { on := 5, ground := Ground.data } (by simp) rfl
    have e3 : v3 = .slice bo m cap' := HT.out.h 3 (by decide) d3
    subst e3
    have e5 : v5 = .slice co l cap2 := HT.out.h 5 (by decide) d5
    subst e5
    clear hi hi1 hi3 d3 d5
    refine wpOp_step (o := { dst := some 186, op := Op.buildSlice 35 2 #[(0, Operand.tmp 183), (1, Operand.tmp 185)], type := 35, pos := "top01.go:38", after := #[{ on := 3, ground := Ground.data }, { on := 5, ground := Ground.data }], guard := none }) rfl (fun K hK => ?_)
    go_simp
    exact hK _ _ ⟨v0, v1, v2, _, v4, _, .slice (some ⟨W.heap.size, 0, none⟩) 2 2, v7, v8, v9, v10, v11, v12, v13, v14, v15, v16, v17, v18, rfl, HT.out.put (Ph18_mono ao bo co a7 n cap m cap' l cap2 n7 c7 A B C X7 w) (below_new _ _) 6 (by decide) _ ⟨_, rfl, World.cell?_alloc_new _ _ _ _, World.cell?_alloc_new _ _ _ _⟩⟩
  · have d6 := hi3 _ rfl { on := 6, ground := Ground.data } (by simp) rfl
    obtain ⟨g6, e6, C6_0, C6_1⟩ : ∃ g, v6 = .slice (some ⟨g, 0, none⟩) 2 2 ∧ W.cell? ⟨g, 0, none⟩ = some (.slice bo m cap') ∧ W.cell? ⟨g, 1, none⟩ = some (.slice co l cap2) := HT.out.h 6 (by decide) d6
    subst e6
    have HC6_0 := hide C6_0
    have HC6_1 := hide C6_1
    clear C6_0 C6_1
    clear hi hi1 hi3 d6
    refine wpOp_step (o := { dst := some 187, op := Op.call { callee := Callee.value (Operand.func 5), args := #[Operand.tmp 186], argTypes := #[35] }, type := 22, pos := "top01.go:38", after := #[{ on := 6, ground := Ground.data }], guard := none }) rfl (fun K hK => ?_)
    go_simp
    go_wp2_with fail
    refine (union_any _ bo co m cap' l cap2 B C _ (HRk.out.below HT.out.b) (HTk.out.below HT.out.b) HC6_0.out HC6_1.out (by omega)).mono ?_
    rintro e w' ⟨pa, pn, pc, pL, rfl, pS, pb, pq⟩
    exact hK _ _ ⟨v0, v1, v2, v3, v4, v5, _, .slice pa pn pc, v8, v9, v10, v11, v12, v13, v14, v15, v16, v17, v18, rfl, HT.out.put (Ph18_mono ao bo co a7 n cap m cap' l cap2 n7 c7 A B C X7 w) pb 7 (by decide) _ ⟨_, _, _, _, rfl, pS, pq⟩⟩
  · have d1 := hi3 _ rfl { on := 1, ground := Ground.data } (by simp) rfl
    have d7 := hi3 _ rfl { on := 7, ground := Ground.data } (by simp) rfl
    have e1 : v1 = .slice ao n cap := HT.out.h 1 (by decide) d1
    subst e1
    obtain ⟨r7a, r7n, r7c, r7L, e7, S7, Q7⟩ : ∃ ra rn rc RL, v7 = .slice ra rn rc ∧ RSrc W ra rn rc RL ∧ (UnionOf B C) RL := HT.out.h 7 (by decide) d7
    subst e7
    have HS7 := hide S7
    have HQ7 := hide Q7
    clear S7 Q7
    clear hi hi1 hi3 d1 d7
    refine wpOp_step (o := { dst := some 188, op := Op.call { callee := Callee.value (Operand.func 7), args := #[Operand.tmp 181, Operand.tmp 187], argTypes := #[22, 22] }, type := 22, pos := "top01.go:38", after := #[{ on := 1, ground := Ground.data }, { on := 7, ground := Ground.data }, { on := 7, ground := Ground.chain }], guard := none }) rfl (fun K hK => ?_)
    go_simp
    go_wp2_with fail
    refine (meet_any ao r7a n cap r7n r7c A r7L _ (HSk.out.below HT.out.b) HS7.out).mono ?_
    rintro e w' ⟨pa, pn, pc, pL, rfl, pS, pb, pq⟩
    exact hK _ _ ⟨v0, _, v2, v3, v4, v5, v6, _, .slice pa pn pc, v9, v10, v11, v12, v13, v14, v15, v16, v17, v18, rfl, HT.out.put (Ph18_mono ao bo co a7 n cap m cap' l cap2 n7 c7 A B C X7 w) pb 8 (by decide) _ ⟨_, _, _, _, rfl, pS, ⟨_, HQ7.out, pq⟩⟩⟩
  · clear hi hi1 hi3
    refine wpOp_step (o := { dst := some 189, op := Op.move (Operand.tmp 7), type := 22, pos := "top01.go:38", after := #[], guard := none }) rfl (fun K hK => ?_)
    go_simp
    exact hK _ _ ⟨v0, v1, v2, v3, v4, v5, v6, v7, v8, .slice a7 n7 c7, v10, v11, v12, v13, v14, v15, v16, v17, v18, rfl, HT.out.put (Ph18_mono ao bo co a7 n cap m cap' l cap2 n7 c7 A B C X7 w) (Below.refl _ _) 9 (by decide) _ rfl⟩
  · clear hi hi1 hi3
    refine wpOp_step (o := { dst := some 190, op := Op.fieldAddr 24 (Operand.tmp 1) 0, type := 0, pos := "top01.go:38", after := #[], guard := none }) rfl (fun K hK => ?_)
    go_simp
    exact hK _ _ ⟨v0, v1, v2, v3, v4, v5, v6, v7, v8, v9, .pointer (some ⟨w.heap.size, 0, none⟩), v11, v12, v13, v14, v15, v16, v17, v18, rfl, HT.out.put (Ph18_mono ao bo co a7 n cap m cap' l cap2 n7 c7 A B C X7 w) (Below.refl _ _) 10 (by decide) _ rfl⟩
  · have d10 := hi3 _ rfl { on := 10, ground := Ground.data } (by simp) rfl
    have e10 : v10 = .pointer (some ⟨w.heap.size, 0, none⟩) := HT.out.h 10 (by decide) d10
    subst e10
    clear hi hi1 hi3 d10
    have l1 := cell_on HT.out.b HKC.out.1
    refine wpOp_step (o := { dst := some 191, op := Op.load 22 (Operand.tmp 190), type := 22, pos := "top01.go:38", after := #[{ on := 10, ground := Ground.data }], guard := none }) rfl (fun K hK => ?_)
    go_simp
    exact hK _ _ ⟨v0, v1, v2, v3, v4, v5, v6, v7, v8, v9, _, .slice ao n cap, v12, v13, v14, v15, v16, v17, v18, rfl, HT.out.put (Ph18_mono ao bo co a7 n cap m cap' l cap2 n7 c7 A B C X7 w) (Below.refl _ _) 11 (by decide) _ rfl⟩
  · clear hi hi1 hi3
    refine wpOp_step (o := { dst := some 192, op := Op.fieldAddr 24 (Operand.tmp 1) 2, type := 0, pos := "top01.go:38", after := #[], guard := none }) rfl (fun K hK => ?_)
    go_simp
    exact hK _ _ ⟨v0, v1, v2, v3, v4, v5, v6, v7, v8, v9, v10, v11, .pointer (some ⟨w.heap.size, 2, none⟩), v13, v14, v15, v16, v17, v18, rfl, HT.out.put (Ph18_mono ao bo co a7 n cap m cap' l cap2 n7 c7 A B C X7 w) (Below.refl _ _) 12 (by decide) _ rfl⟩
  · have d12 := hi3 _ rfl { on := 12, ground := Ground.data } (by simp) rfl
    have e12 : v12 = .pointer (some ⟨w.heap.size, 2, none⟩) := HT.out.h 12 (by decide) d12
    subst e12
    clear hi hi1 hi3 d12
    have l1 := cell_on HT.out.b HKC.out.2.2
    refine wpOp_step (o := { dst := some 193, op := Op.load 22 (Operand.tmp 192), type := 22, pos := "top01.go:38", after := #[{ on := 12, ground := Ground.data }], guard := none }) rfl (fun K hK => ?_)
    go_simp
    exact hK _ _ ⟨v0, v1, v2, v3, v4, v5, v6, v7, v8, v9, v10, v11, _, .slice co l cap2, v14, v15, v16, v17, v18, rfl, HT.out.put (Ph18_mono ao bo co a7 n cap m cap' l cap2 n7 c7 A B C X7 w) (Below.refl _ _) 13 (by decide) _ rfl⟩
  · have d11 := hi3 _ rfl { on := 11, ground := Ground.data } (by simp) rfl
    have d13 := hi3 _ rfl { on := 13, ground := Ground.data } (by simp) rfl
    have e11 : v11 = .slice ao n cap := HT.out.h 11 (by decide) d11
    subst e11
    have e13 : v13 = .slice co l cap2 := HT.out.h 13 (by decide) d13
    subst e13
    clear hi hi1 hi3 d11 d13
    refine wpOp_step (o := { dst := some 194, op := Op.call { callee := Callee.value (Operand.func 7), args := #[Operand.tmp 191, Operand.tmp 193], argTypes := #[22, 22] }, type := 22, pos := "top01.go:38", after := #[{ on := 11, ground := Ground.data }, { on := 13, ground := Ground.data }, { on := 8, ground := Ground.chain }], guard := none }) rfl (fun K hK => ?_)
    go_simp
    go_wp2_with fail
    refine (meet_any ao co n cap l cap2 A C _ (HSk.out.below HT.out.b) (HTk.out.below HT.out.b)).mono ?_
    rintro e w' ⟨pa, pn, pc, pL, rfl, pS, pb, pq⟩
    exact hK _ _ ⟨v0, v1, v2, v3, v4, v5, v6, v7, v8, v9, v10, _, v12, _, .slice pa pn pc, v15, v16, v17, v18, rfl, HT.out.put (Ph18_mono ao bo co a7 n cap m cap' l cap2 n7 c7 A B C X7 w) pb 14 (by decide) _ ⟨_, _, _, _, rfl, pS, pq⟩⟩
  · have d9 := hi3 _ rfl { on := 9, ground := Ground.data } (by simp) rfl
    have d14 := hi3 _ rfl { on := 14, ground := Ground.data } (by simp) rfl
    have e9 : v9 = .slice a7 n7 c7 := HT.out.h 9 (by decide) d9
    subst e9
    obtain ⟨r14a, r14n, r14c, r14L, e14, S14, Q14⟩ : ∃ ra rn rc RL, v14 = .slice ra rn rc ∧ RSrc W ra rn rc RL ∧ (MeetOf A C) RL := HT.out.h 14 (by decide) d14
    subst e14
    have HS14 := hide S14
    have HQ14 := hide Q14
    clear S14 Q14
    clear hi hi1 hi3 d9 d14
    refine wpOp_step (o := { dst := some 195, op := Op.buildSlice 35 2 #[(0, Operand.tmp 189), (1, Operand.tmp 194)], type := 35, pos := "top01.go:38", after := #[{ on := 9, ground := Ground.data }, { on := 14, ground := Ground.data }], guard := none }) rfl (fun K hK => ?_)
    go_simp
    exact hK _ _ ⟨v0, v1, v2, v3, v4, v5, v6, v7, v8, _, v10, v11, v12, v13, _, .slice (some ⟨W.heap.size, 0, none⟩) 2 2, v16, v17, v18, rfl, HT.out.put (Ph18_mono ao bo co a7 n cap m cap' l cap2 n7 c7 A B C X7 w) (below_new _ _) 15 (by decide) _ ⟨_, r14a, r14n, r14c, r14L, rfl, World.cell?_alloc_new _ _ _ _, World.cell?_alloc_new _ _ _ _, HS14.out.below (below_new _ _), HQ14.out⟩⟩
  · have d15 := hi3 _ rfl { on := 15, ground := Ground.data } (by simp) rfl
    obtain ⟨g15, g15a, g15n, g15c, g15L, e15, C15_0, C15_1, G15, Q15⟩ : ∃ g ra rn rc RL, v15 = .slice (some ⟨g, 0, none⟩) 2 2 ∧ W.cell? ⟨g, 0, none⟩ = some (.slice a7 n7 c7) ∧ W.cell? ⟨g, 1, none⟩ = some (.slice ra rn rc) ∧ RSrc W ra rn rc RL ∧ MeetOf A C RL := HT.out.h 15 (by decide) d15
    subst e15
    have HC15_0 := hide C15_0
    have HC15_1 := hide C15_1
    have HG15 := hide G15
    have HQ15 := hide Q15
    clear C15_0 C15_1 G15 Q15
    clear hi hi1 hi3 d15
    refine wpOp_step (o := { dst := some 196, op := Op.call { callee := Callee.value (Operand.func 5), args := #[Operand.tmp 195], argTypes := #[35] }, type := 22, pos := "top01.go:38", after := #[{ on := 15, ground := Ground.data }, { on := 14, ground := Ground.chain }], guard := none }) rfl (fun K hK => ?_)
    go_simp
    go_wp2_with fail
    refine (union_any _ a7 g15a n7 c7 g15n g15c X7 g15L _ (HX7.out.below HT.out.b) HG15.out HC15_0.out HC15_1.out (by have h := HG15.out.len; have h2 := form_small (Int.le_refl _) HQ15.out.1; omega)).mono ?_
    rintro e w' ⟨pa, pn, pc, pL, rfl, pS, pb, pq⟩
    exact hK _ _ ⟨v0, v1, v2, v3, v4, v5, v6, v7, v8, v9, v10, v11, v12, v13, v14, _, .slice pa pn pc, v17, v18, rfl, HT.out.put (Ph18_mono ao bo co a7 n cap m cap' l cap2 n7 c7 A B C X7 w) pb 16 (by decide) _ ⟨_, _, _, _, rfl, pS, ⟨_, HQ15.out, pq⟩⟩⟩
  · have d8 := hi3 _ rfl { on := 8, ground := Ground.data } (by simp) rfl
    have d16 := hi3 _ rfl { on := 16, ground := Ground.data } (by simp) rfl
    obtain ⟨r8a, r8n, r8c, r8L, e8, S8, Q8⟩ : ∃ ra rn rc RL, v8 = .slice ra rn rc ∧ RSrc W ra rn rc RL ∧ (fun R => ∃ E, UnionOf B C E ∧ MeetOf A E R) RL := HT.out.h 8 (by decide) d8
    subst e8
    have HS8 := hide S8
    have HQ8 := hide Q8
    clear S8 Q8
    obtain ⟨r16a, r16n, r16c, r16L, e16, S16, Q16⟩ : ∃ ra rn rc RL, v16 = .slice ra rn rc ∧ RSrc W ra rn rc RL ∧ (fun R => ∃ M, MeetOf A C M ∧ UnionOf X7 M R) RL := HT.out.h 16 (by decide) d16
    subst e16
    have HS16 := hide S16
    have HQ16 := hide Q16
    clear S16 Q16
    clear hi hi1 hi3 d8 d16
    refine wpOp_step (o := { dst := some 197, op := Op.call { callee := Callee.value (Operand.func 4), args := #[Operand.tmp 188, Operand.tmp 196], argTypes := #[22, 22] }, type := 4, pos := "top01.go:38", after := #[{ on := 8, ground := Ground.data }, { on := 16, ground := Ground.data }, { on := 16, ground := Ground.chain }], guard := none }) rfl (fun K hK => ?_)
    go_simp
    go_wp2_with fail
    refine (same_any r8a r16a r8n r8c r16n r16c r8L r16L _ HS8.out HS16.out ((by obtain ⟨E, hE, hF⟩ := HQ8.out; obtain ⟨M, hM, hJ⟩ := HQ16.out; exact law_md hE hF HP7.out hM hJ))).mono ?_
    rintro e w' ⟨rfl, pb⟩
    exact hK _ _ ⟨v0, v1, v2, v3, v4, v5, v6, v7, _, v9, v10, v11, v12, v13, v14, v15, _, .bool true, v18, rfl, HT.out.put (Ph18_mono ao bo co a7 n cap m cap' l cap2 n7 c7 A B C X7 w) pb 17 (by decide) _ rfl⟩
  · have d17 := hi3 _ rfl { on := 17, ground := Ground.data } (by simp) rfl
    have e17 : v17 = .bool true := HT.out.h 17 (by decide) d17
    subst e17
    clear hi hi1 hi3 d17
    refine wpOp_step (o := { dst := some 198, op := Op.unOp UnOp.not 4 (Operand.tmp 197), type := 4, pos := "top01.go:38", after := #[{ on := 17, ground := Ground.data }], guard := none }) rfl (fun K hK => ?_)
    go_simp
    exact hK _ _ ⟨v0, v1, v2, v3, v4, v5, v6, v7, v8, v9, v10, v11, v12, v13, v14, v15, v16, _, .bool false, rfl, HT.out.put (Ph18_mono ao bo co a7 n cap m cap' l cap2 n7 c7 A B C X7 w) (Below.refl _ _) 18 (by decide) _ rfl⟩
end Go.Proofs.Ythehbnfkobkciaa
