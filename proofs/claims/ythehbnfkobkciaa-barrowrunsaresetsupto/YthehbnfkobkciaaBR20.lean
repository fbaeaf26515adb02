/- BarrowRunsAreSets: the steps of its region 20. -/
import Derived.Test.YthehbnfkobkciaaRRi
import Derived.Test.YthehbnfkobkciaaRSm
import Derived.Test.YthehbnfkobkciaaBPm
namespace Go.Proofs.Ythehbnfkobkciaa
open Go.RowKit
theorem cell_on {W W' : World} {p : Addr} {x : Value} (hb : Below W.heap.size W W') (h : W.cell? p = some x) : W'.cell? p = some x := (hb.cell (World.block_lt_of_cell? _ _ h)).trans h
def Ph20 (ao bo co a5 a6 : Option Addr) (n cap m cap' l cap2 n5 c5 n6 c6 : Nat) (A B C X5 X6 : List Rn) (w : World) : Nat → Value → World → Prop
  | 0, x, _ => x = .pointer (some ⟨w.heap.size, 0, none⟩)
  | 1, x, _ => x = .slice ao n cap
  | 2, x, _ => x = .pointer (some ⟨w.heap.size, 1, none⟩)
  | 3, x, _ => x = .slice bo m cap'
  | 4, x, _ => x = .pointer (some ⟨w.heap.size, 2, none⟩)
  | 5, x, _ => x = .slice co l cap2
  | 6, x, W => ∃ g, x = .slice (some ⟨g, 0, none⟩) 3 3 ∧ W.cell? ⟨g, 0, none⟩ = some (.slice ao n cap) ∧ W.cell? ⟨g, 1, none⟩ = some (.slice bo m cap') ∧ W.cell? ⟨g, 2, none⟩ = some (.slice co l cap2)
  | 7, x, W => ∃ ra rn rc RL, x = .slice ra rn rc ∧ RSrc W ra rn rc RL ∧ (fun R => form 1 R ∧ ∀ x, mem R x ↔ mem A x ∨ mem B x ∨ mem C x) RL
  | 8, x, _ => x = .slice a6 n6 c6
  | 9, x, _ => x = .slice a5 n5 c5
  | 10, x, W => ∃ g, x = .slice (some ⟨g, 0, none⟩) 2 2 ∧ W.cell? ⟨g, 0, none⟩ = some (.slice a6 n6 c6) ∧ W.cell? ⟨g, 1, none⟩ = some (.slice a5 n5 c5)
  | 11, x, W => ∃ ra rn rc RL, x = .slice ra rn rc ∧ RSrc W ra rn rc RL ∧ (UnionOf X6 X5) RL
  | 12, x, _ => x = .bool true
  | 13, x, _ => x = .bool false
  | 14, x, _ => x = .bool false
  | 15, x, _ => x = .pointer (some ⟨w.heap.size, 0, none⟩)
  | 16, x, _ => x = .slice ao n cap
  | 17, x, _ => x = .pointer (some ⟨w.heap.size, 1, none⟩)
  | 18, x, _ => x = .slice bo m cap'
  | 19, x, _ => x = .pointer (some ⟨w.heap.size, 2, none⟩)
  | 20, x, _ => x = .slice co l cap2
  | 21, x, W => ∃ ra rn rc RL, x = .slice ra rn rc ∧ RSrc W ra rn rc RL ∧ (MeetOf B C) RL
  | 22, x, W => ∃ g ra rn rc RL, x = .slice (some ⟨g, 0, none⟩) 2 2 ∧ W.cell? ⟨g, 0, none⟩ = some (.slice ao n cap) ∧ W.cell? ⟨g, 1, none⟩ = some (.slice ra rn rc) ∧ RSrc W ra rn rc RL ∧ MeetOf B C RL
  | 23, x, W => ∃ ra rn rc RL, x = .slice ra rn rc ∧ RSrc W ra rn rc RL ∧ (fun R => ∃ M, MeetOf B C M ∧ UnionOf A M R) RL
  | 24, x, _ => x = .slice a6 n6 c6
  | 25, x, _ => x = .pointer (some ⟨w.heap.size, 0, none⟩)
  | 26, x, _ => x = .slice ao n cap
  | 27, x, _ => x = .pointer (some ⟨w.heap.size, 2, none⟩)
  | 28, x, _ => x = .slice co l cap2
  | 29, x, W => ∃ g, x = .slice (some ⟨g, 0, none⟩) 2 2 ∧ W.cell? ⟨g, 0, none⟩ = some (.slice ao n cap) ∧ W.cell? ⟨g, 1, none⟩ = some (.slice co l cap2)
  | 30, x, W => ∃ ra rn rc RL, x = .slice ra rn rc ∧ RSrc W ra rn rc RL ∧ (UnionOf A C) RL
  | 31, x, W => ∃ ra rn rc RL, x = .slice ra rn rc ∧ RSrc W ra rn rc RL ∧ (fun R => ∃ N, UnionOf A C N ∧ MeetOf X6 N R) RL
  | 32, x, _ => x = .bool true
  | 33, x, _ => x = .bool false
  | 34, x, _ => x = .bool false
  | _, _, _ => True
theorem Ph20_mono (ao bo co a5 a6 : Option Addr) (n cap m cap' l cap2 n5 c5 n6 c6 : Nat) (A B C X5 X6 : List Rn) (w : World) : Mono (Ph20 ao bo co a5 a6 n cap m cap' l cap2 n5 c5 n6 c6 A B C X5 X6 w) := fun i x W W' h hb => match i with
  | 0 => h
  | 1 => h
  | 2 => h
  | 3 => h
  | 4 => h
  | 5 => h
  | 6 => by obtain ⟨g, e, c0, c1, c2⟩ := h; exact ⟨g, e, cell_on hb c0, cell_on hb c1, cell_on hb c2⟩
  | 7 => by obtain ⟨ra, rn, rc, RL, e, S, q⟩ := h; exact ⟨ra, rn, rc, RL, e, S.below hb, q⟩
  | 8 => h
  | 9 => h
  | 10 => by obtain ⟨g, e, c0, c1⟩ := h; exact ⟨g, e, cell_on hb c0, cell_on hb c1⟩
  | 11 => by obtain ⟨ra, rn, rc, RL, e, S, q⟩ := h; exact ⟨ra, rn, rc, RL, e, S.below hb, q⟩
  | 12 => h
  | 13 => h
  | 14 => h
  | 15 => h
  | 16 => h
  | 17 => h
  | 18 => h
  | 19 => h
  | 20 => h
  | 21 => by obtain ⟨ra, rn, rc, RL, e, S, q⟩ := h; exact ⟨ra, rn, rc, RL, e, S.below hb, q⟩
  | 22 => by obtain ⟨g, ra, rn, rc, RL, e, c0, c1, S, q⟩ := h; exact ⟨g, ra, rn, rc, RL, e, cell_on hb c0, cell_on hb c1, S.below hb, q⟩
  | 23 => by obtain ⟨ra, rn, rc, RL, e, S, q⟩ := h; exact ⟨ra, rn, rc, RL, e, S.below hb, q⟩
  | 24 => h
  | 25 => h
  | 26 => h
  | 27 => h
  | 28 => h
  | 29 => by obtain ⟨g, e, c0, c1⟩ := h; exact ⟨g, e, cell_on hb c0, cell_on hb c1⟩
  | 30 => by obtain ⟨ra, rn, rc, RL, e, S, q⟩ := h; exact ⟨ra, rn, rc, RL, e, S.below hb, q⟩
  | 31 => by obtain ⟨ra, rn, rc, RL, e, S, q⟩ := h; exact ⟨ra, rn, rc, RL, e, S.below hb, q⟩
  | 32 => h
  | 33 => h
  | 34 => h
  | _ + 35 => trivial
set_option maxRecDepth 100000 in
set_option maxHeartbeats 4000000 in
theorem st20 {ao bo co a5 a6 : Option Addr} {n cap m cap' l cap2 n5 c5 n6 c6 : Nat} {A B C X5 X6 : List Rn} {w w25 : World} {p q : Bool} {z : Int} {a3 a4 a7 a8 : Option Addr} {c3 c4 c7 c8 n3 n4 n7 n8 : Nat} {u100 u101 u102 u103 u104 u105 u106 u107 u108 u109 u11 u110 u111 u112 u113 u114 u115 u116 u117 u118 u119 u12 u120 u121 u122 u123 u124 u125 u126 u127 u128 u129 u13 u130 u131 u132 u133 u134 u135 u136 u137 u138 u139 u14 u140 u141 u142 u143 u144 u145 u146 u147 u148 u149 u15 u150 u151 u152 u153 u154 u155 u156 u157 u158 u159 u16 u160 u161 u162 u163 u164 u165 u166 u167 u168 u169 u17 u170 u171 u172 u173 u174 u175 u176 u177 u178 u179 u18 u180 u181 u182 u183 u184 u185 u186 u187 u188 u189 u19 u190 u191 u192 u193 u194 u195 u196 u197 u20 u21 u22 u23 u234 u235 u236 u237 u238 u239 u24 u240 u241 u242 u243 u244 u245 u246 u247 u248 u249 u25 u250 u251 u252 u253 u254 u255 u256 u257 u258 u259 u26 u260 u261 u262 u263 u264 u265 u266 u267 u268 u269 u27 u270 u271 u272 u273 u274 u275 u276 u28 u29 u30 u31 u32 u33 u34 u35 u36 u37 u38 u39 u40 u41 u42 u43 u44 u45 u46 u47 u48 u49 u50 u51 u52 u53 u54 u55 u56 u57 u58 u59 u60 u61 u62 u63 u64 u65 u66 u67 u68 u69 u70 u71 u72 u73 u74 u75 u76 u77 u78 u79 u80 u81 u82 u83 u84 u85 u86 u87 u88 u89 u90 u91 u92 u93 u94 u95 u96 u97 u98 u99 : Value} (HSk : Hid (RSrc w25 ao n cap A)) (HRk : Hid (RSrc w25 bo m cap' B)) (HTk : Hid (RSrc w25 co l cap2 C)) (HX6 : Hid (RSrc w25 a6 n6 c6 X6)) (HX5 : Hid (RSrc w25 a5 n5 c5 X5)) (HP6 : Hid (UnionOf A B X6)) (HP5 : Hid (NormOf C X5)) (HKC : Hid (w25.cell? ⟨w.heap.size, 0, none⟩ = some (.slice ao n cap) ∧ w25.cell? ⟨w.heap.size, 1, none⟩ = some (.slice bo m cap') ∧ w25.cell? ⟨w.heap.size, 2, none⟩ = some (.slice co l cap2))) (hnA : n ≤ 1048576) (hnB : m ≤ 1048576) (hnC : l ≤ 1048576) (hn5 : n5 ≤ 500000001) (hn6 : n6 ≤ 500000001) {Q : Exit → Act → World → Prop} :
    ∀ (fl : Array Bool) (x : Act) (W : World), (∃ v0 v1 v2 v3 v4 v5 v6 v7 v8 v9 v10 v11 v12 v13 v14 v15 v16 v17 v18 v19 v20 v21 v22 v23 v24 v25 v26 v27 v28 v29 v30 v31 v32 v33 v34, x = { tmps := #[Value.agg #[Value.slice ao n cap, Value.slice bo m cap', Value.slice co l cap2, Value.int IntKind.i64 z], Value.pointer (some { block := w.heap.size, off := 0 }), Value.bool false, Value.slice a3 n3 c3, Value.slice a4 n4 c4, Value.slice a5 n5 c5, Value.slice a6 n6 c6, Value.slice a7 n7 c7, Value.slice a8 n8 c8, Value.bool p, Value.bool q, u11, u12, u13, u14, u15, u16, u17, u18, u19, u20, u21, u22, u23, u24, u25, u26, u27, u28, u29, u30, u31, u32, u33, u34, u35, u36, u37, u38, u39, u40, u41, u42, u43, u44, u45, u46, u47, u48, u49, u50, u51, u52, u53, u54, u55, u56, u57, u58, u59, u60, u61, u62, u63, u64, u65, u66, u67, u68, u69, u70, u71, u72, u73, u74, u75, u76, u77, u78, u79, u80, u81, u82, u83, u84, u85, u86, u87, u88, u89, u90, u91, u92, u93, u94, u95, u96, u97, u98, u99, u100, u101, u102, u103, u104, u105, u106, u107, u108, u109, u110, u111, u112, u113, u114, u115, u116, u117, u118, u119, u120, u121, u122, u123, u124, u125, u126, u127, u128, u129, u130, u131, u132, u133, u134, u135, u136, u137, u138, u139, u140, u141, u142, u143, u144, u145, u146, u147, u148, u149, u150, u151, u152, u153, u154, u155, u156, u157, u158, u159, u160, u161, u162, u163, u164, u165, u166, u167, u168, u169, u170, u171, u172, u173, u174, u175, u176, u177, u178, u179, u180, u181, u182, u183, u184, u185, u186, u187, u188, u189, u190, u191, u192, u193, u194, u195, u196, u197, Value.bool false, v0, v1, v2, v3, v4, v5, v6, v7, v8, v9, v10, v11, v12, v13, v14, v15, v16, v17, v18, v19, v20, v21, v22, v23, v24, v25, v26, v27, v28, v29, v30, v31, v32, v33, v34, u234, u235, u236, u237, u238, u239, u240, u241, u242, u243, u244, u245, u246, u247, u248, u249, u250, u251, u252, u253, u254, u255, u256, u257, u258, u259, u260, u261, u262, u263, u264, u265, u266, u267, u268, u269, u270, u271, u272, u273, u274, u275, u276], defers := [] } ∧ RI 35 w25 (Ph20 ao bo co a5 a6 n cap m cap' l cap2 n5 c5 n6 c6 A B C X5 X6 w) fl W [v0, v1, v2, v3, v4, v5, v6, v7, v8, v9, v10, v11, v12, v13, v14, v15, v16, v17, v18, v19, v20, v21, v22, v23, v24, v25, v26, v27, v28, v29, v30, v31, v32, v33, v34]) → ∀ i, i ∈ Region.ready .any #[{ dst := some 199, op := Op.fieldAddr 24 (Operand.tmp 1) 0, type := 0, pos := "top01.go:41", after := #[], guard := none }, { dst := some 200, op := Op.load 22 (Operand.tmp 199), type := 22, pos := "top01.go:41", after := #[{ on := 0, ground := Ground.data }], guard := none }, { dst := some 201, op := Op.fieldAddr 24 (Operand.tmp 1) 1, type := 0, pos := "top01.go:41", after := #[], guard := none }, { dst := some 202, op := Op.load 22 (Operand.tmp 201), type := 22, pos := "top01.go:41", after := #[{ on := 2, ground := Ground.data }], guard := none }, { dst := some 203, op := Op.fieldAddr 24 (Operand.tmp 1) 2, type := 0, pos := "top01.go:41", after := #[], guard := none }, { dst := some 204, op := Op.load 22 (Operand.tmp 203), type := 22, pos := "top01.go:41", after := #[{ on := 4, ground := Ground.data }], guard := none }, { dst := some 205, op := Op.buildSlice 35 3 #[(0, Operand.tmp 200), (1, Operand.tmp 202), (2, Operand.tmp 204)], type := 35, pos := "top01.go:41", after := #[{ on := 1, ground := Ground.data }, { on := 3, ground := Ground.data }, { on := 5, ground := Ground.data }], guard := none }, { dst := some 206, op := Op.call { callee := Callee.value (Operand.func 5), args := #[Operand.tmp 205], argTypes := #[35] }, type := 22, pos := "top01.go:41", after := #[{ on := 6, ground := Ground.data }], guard := none }, { dst := some 207, op := Op.move (Operand.tmp 6), type := 22, pos := "top01.go:41", after := #[], guard := none }, { dst := some 208, op := Op.move (Operand.tmp 5), type := 22, pos := "top01.go:41", after := #[], guard := none }, { dst := some 209, op := Op.buildSlice 35 2 #[(0, Operand.tmp 207), (1, Operand.tmp 208)], type := 35, pos := "top01.go:41", after := #[{ on := 8, ground := Ground.data }, { on := 9, ground := Ground.data }], guard := none }, { dst := some 210, op := Op.call { callee := Callee.value (Operand.func 5), args := #[Operand.tmp 209], argTypes := #[35] }, type := 22, pos := "top01.go:41", after := #[{ on := 10, ground := Ground.data }, { on := 7, ground := Ground.chain }], guard := none }, { dst := some 211, op := Op.call { callee := Callee.value (Operand.func 4), args := #[Operand.tmp 206, Operand.tmp 210], argTypes := #[22, 22] }, type := 4, pos := "top01.go:41", after := #[{ on := 7, ground := Ground.data }, { on := 11, ground := Ground.data }, { on := 11, ground := Ground.chain }], guard := none }, { dst := some 212, op := Op.unOp UnOp.not 4 (Operand.tmp 211), type := 4, pos := "top01.go:41", after := #[{ on := 12, ground := Ground.data }], guard := none }, { dst := some 213, op := Op.move (Operand.tmp 212), type := 4, pos := "top01.go:41", after := #[{ on := 13, ground := Ground.data }, { on := 12, ground := Ground.chain }], guard := none }, { dst := some 214, op := Op.fieldAddr 24 (Operand.tmp 1) 0, type := 0, pos := "top01.go:41", after := #[{ on := 14, ground := Ground.guard }], guard := some (14, false) }, { dst := some 215, op := Op.load 22 (Operand.tmp 214), type := 22, pos := "top01.go:41", after := #[{ on := 15, ground := Ground.data }, { on := 14, ground := Ground.guard }], guard := some (14, false) }, { dst := some 216, op := Op.fieldAddr 24 (Operand.tmp 1) 1, type := 0, pos := "top01.go:41", after := #[{ on := 14, ground := Ground.guard }], guard := some (14, false) }, { dst := some 217, op := Op.load 22 (Operand.tmp 216), type := 22, pos := "top01.go:41", after := #[{ on := 17, ground := Ground.data }, { on := 14, ground := Ground.guard }], guard := some (14, false) }, { dst := some 218, op := Op.fieldAddr 24 (Operand.tmp 1) 2, type := 0, pos := "top01.go:41", after := #[{ on := 14, ground := Ground.guard }], guard := some (14, false) }, { dst := some 219, op := Op.load 22 (Operand.tmp 218), type := 22, pos := "top01.go:41", after := #[{ on := 19, ground := Ground.data }, { on := 14, ground := Ground.guard }], guard := some (14, false) }, { dst := some 220, op := Op.call { callee := Callee.value (Operand.func 7), args := #[Operand.tmp 217, Operand.tmp 219], argTypes := #[22, 22] }, type := 22, pos := "top01.go:41", after := #[{ on := 18, ground := Ground.data }, { on := 20, ground := Ground.data }, { on := 14, ground := Ground.chain }, { on := 14, ground := Ground.guard }], guard := some (14, false) }, { dst := some 221, op := Op.buildSlice 35 2 #[(0, Operand.tmp 215), (1, Operand.tmp 220)], type := 35, pos := "top01.go:41", after := #[{ on := 16, ground := Ground.data }, { on := 21, ground := Ground.data }, { on := 14, ground := Ground.guard }], guard := some (14, false) }, { dst := some 222, op := Op.call { callee := Callee.value (Operand.func 5), args := #[Operand.tmp 221], argTypes := #[35] }, type := 22, pos := "top01.go:41", after := #[{ on := 22, ground := Ground.data }, { on := 21, ground := Ground.chain }, { on := 14, ground := Ground.guard }], guard := some (14, false) }, { dst := some 223, op := Op.move (Operand.tmp 6), type := 22, pos := "top01.go:41", after := #[{ on := 14, ground := Ground.guard }], guard := some (14, false) }, { dst := some 224, op := Op.fieldAddr 24 (Operand.tmp 1) 0, type := 0, pos := "top01.go:41", after := #[{ on := 14, ground := Ground.guard }], guard := some (14, false) }, { dst := some 225, op := Op.load 22 (Operand.tmp 224), type := 22, pos := "top01.go:41", after := #[{ on := 25, ground := Ground.data }, { on := 14, ground := Ground.guard }], guard := some (14, false) }, { dst := some 226, op := Op.fieldAddr 24 (Operand.tmp 1) 2, type := 0, pos := "top01.go:41", after := #[{ on := 14, ground := Ground.guard }], guard := some (14, false) }, { dst := some 227, op := Op.load 22 (Operand.tmp 226), type := 22, pos := "top01.go:41", after := #[{ on := 27, ground := Ground.data }, { on := 14, ground := Ground.guard }], guard := some (14, false) }, { dst := some 228, op := Op.buildSlice 35 2 #[(0, Operand.tmp 225), (1, Operand.tmp 227)], type := 35, pos := "top01.go:41", after := #[{ on := 26, ground := Ground.data }, { on := 28, ground := Ground.data }, { on := 14, ground := Ground.guard }], guard := some (14, false) }, { dst := some 229, op := Op.call { callee := Callee.value (Operand.func 5), args := #[Operand.tmp 228], argTypes := #[35] }, type := 22, pos := "top01.go:41", after := #[{ on := 29, ground := Ground.data }, { on := 23, ground := Ground.chain }, { on := 14, ground := Ground.guard }], guard := some (14, false) }, { dst := some 230, op := Op.call { callee := Callee.value (Operand.func 7), args := #[Operand.tmp 223, Operand.tmp 229], argTypes := #[22, 22] }, type := 22, pos := "top01.go:41", after := #[{ on := 24, ground := Ground.data }, { on := 30, ground := Ground.data }, { on := 30, ground := Ground.chain }, { on := 14, ground := Ground.guard }], guard := some (14, false) }, { dst := some 231, op := Op.call { callee := Callee.value (Operand.func 4), args := #[Operand.tmp 222, Operand.tmp 230], argTypes := #[22, 22] }, type := 4, pos := "top01.go:41", after := #[{ on := 23, ground := Ground.data }, { on := 31, ground := Ground.data }, { on := 31, ground := Ground.chain }, { on := 14, ground := Ground.guard }], guard := some (14, false) }, { dst := some 232, op := Op.unOp UnOp.not 4 (Operand.tmp 231), type := 4, pos := "top01.go:41", after := #[{ on := 32, ground := Ground.data }, { on := 14, ground := Ground.guard }], guard := some (14, false) }, { dst := some 233, op := Op.pick (Operand.tmp 213) (Operand.const (Value.bool true)) (Operand.tmp 232), type := 4, pos := "top01.go:41", after := #[{ on := 14, ground := Ground.data }, { on := 33, ground := Ground.data }], guard := none }] fl → wpOp Try.prog #[{ dst := some 199, op := Op.fieldAddr 24 (Operand.tmp 1) 0, type := 0, pos := "top01.go:41", after := #[], guard := none }, { dst := some 200, op := Op.load 22 (Operand.tmp 199), type := 22, pos := "top01.go:41", after := #[{ on := 0, ground := Ground.data }], guard := none }, { dst := some 201, op := Op.fieldAddr 24 (Operand.tmp 1) 1, type := 0, pos := "top01.go:41", after := #[], guard := none }, { dst := some 202, op := Op.load 22 (Operand.tmp 201), type := 22, pos := "top01.go:41", after := #[{ on := 2, ground := Ground.data }], guard := none }, { dst := some 203, op := Op.fieldAddr 24 (Operand.tmp 1) 2, type := 0, pos := "top01.go:41", after := #[], guard := none }, { dst := some 204, op := Op.load 22 (Operand.tmp 203), type := 22, pos := "top01.go:41", after := #[{ on := 4, ground := Ground.data }], guard := none }, { dst := some 205, op := Op.buildSlice 35 3 #[(0, Operand.tmp 200), (1, Operand.tmp 202), (2, Operand.tmp 204)], type := 35, pos := "top01.go:41", after := #[{ on := 1, ground := Ground.data }, { on := 3, ground := Ground.data }, { on := 5, ground := Ground.data }], guard := none }, { dst := some 206, op := Op.call { callee := Callee.value (Operand.func 5), args := #[Operand.tmp 205], argTypes := #[35] }, type := 22, pos := "top01.go:41", after := #[{ on := 6, ground := Ground.data }], guard := none }, { dst := some 207, op := Op.move (Operand.tmp 6), type := 22, pos := "top01.go:41", after := #[], guard := none }, { dst := some 208, op := Op.move (Operand.tmp 5), type := 22, pos := "top01.go:41", after := #[], guard := none }, { dst := some 209, op := Op.buildSlice 35 2 #[(0, Operand.tmp 207), (1, Operand.tmp 208)], type := 35, pos := "top01.go:41", after := #[{ on := 8, ground := Ground.data }, { on := 9, ground := Ground.data }], guard := none }, { dst := some 210, op := Op.call { callee := Callee.value (Operand.func 5), args := #[Operand.tmp 209], argTypes := #[35] }, type := 22, pos := "top01.go:41", after := #[{ on := 10, ground := Ground.data }, { on := 7, ground := Ground.chain }], guard := none }, { dst := some 211, op := Op.call { callee := Callee.value (Operand.func 4), args := #[Operand.tmp 206, Operand.tmp 210], argTypes := #[22, 22] }, type := 4, pos := "top01.go:41", after := #[{ on := 7, ground := Ground.data }, { on := 11, ground := Ground.data }, { on := 11, ground := Ground.chain }], guard := none }, { dst := some 212, op := Op.unOp UnOp.not 4 (Operand.tmp 211), type := 4, pos := "top01.go:41", after := #[{ on := 12, ground := Ground.data }], guard := none }, { dst := some 213, op := Op.move (Operand.tmp 212), type := 4, pos := "top01.go:41", after := #[{ on := 13, ground := Ground.data }, { on := 12, ground := Ground.chain }], guard := none }, { dst := some 214, op := Op.fieldAddr 24 (Operand.tmp 1) 0, type := 0, pos := "top01.go:41", after := #[{ on := 14, ground := Ground.guard }], guard := some (14, false) }, { dst := some 215, op := Op.load 22 (Operand.tmp 214), type := 22, pos := "top01.go:41", after := #[{ on := 15, ground := Ground.data }, { on := 14, ground := Ground.guard }], guard := some (14, false) }, { dst := some 216, op := Op.fieldAddr 24 (Operand.tmp 1) 1, type := 0, pos := "top01.go:41", after := #[{ on := 14, ground := Ground.guard }], guard := some (14, false) }, { dst := some 217, op := Op.load 22 (Operand.tmp 216), type := 22, pos := "top01.go:41", after := #[{ on := 17, ground := Ground.data }, { on := 14, ground := Ground.guard }], guard := some (14, false) }, { dst := some 218, op := Op.fieldAddr 24 (Operand.tmp 1) 2, type := 0, pos := "top01.go:41", after := #[{ on := 14, ground := Ground.guard }], guard := some (14, false) }, { dst := some 219, op := Op.load 22 (Operand.tmp 218), type := 22, pos := "top01.go:41", after := #[{ on := 19, ground := Ground.data }, { on := 14, ground := Ground.guard }], guard := some (14, false) }, { dst := some 220, op := Op.call { callee := Callee.value (Operand.func 7), args := #[Operand.tmp 217, Operand.tmp 219], argTypes := #[22, 22] }, type := 22, pos := "top01.go:41", after := #[{ on := 18, ground := Ground.data }, { on := 20, ground := Ground.data }, { on := 14, ground := Ground.chain }, { on := 14, ground := Ground.guard }], guard := some (14, false) }, { dst := some 221, op := Op.buildSlice 35 2 #[(0, Operand.tmp 215), (1, Operand.tmp 220)], type := 35, pos := "top01.go:41", after := #[{ on := 16, ground := Ground.data }, { on := 21, ground := Ground.data }, { on := 14, ground := Ground.guard }], guard := some (14, false) }, { dst := some 222, op := Op.call { callee := Callee.value (Operand.func 5), args := #[Operand.tmp 221], argTypes := #[35] }, type := 22, pos := "top01.go:41", after := #[{ on := 22, ground := Ground.data }, { on := 21, ground := Ground.chain }, { on := 14, ground := Ground.guard }], guard := some (14, false) }, { dst := some 223, op := Op.move (Operand.tmp 6), type := 22, pos := "top01.go:41", after := #[{ on := 14, ground := Ground.guard }], guard := some (14, false) }, { dst := some 224, op := Op.fieldAddr 24 (Operand.tmp 1) 0, type := 0, pos := "top01.go:41", after := #[{ on := 14, ground := Ground.guard }], guard := some (14, false) }, { dst := some 225, op := Op.load 22 (Operand.tmp 224), type := 22, pos := "top01.go:41", after := #[{ on := 25, ground := Ground.data }, { on := 14, ground := Ground.guard }], guard := some (14, false) }, { dst := some 226, op := Op.fieldAddr 24 (Operand.tmp 1) 2, type := 0, pos := "top01.go:41", after := #[{ on := 14, ground := Ground.guard }], guard := some (14, false) }, { dst := some 227, op := Op.load 22 (Operand.tmp 226), type := 22, pos := "top01.go:41", after := #[{ on := 27, ground := Ground.data }, { on := 14, ground := Ground.guard }], guard := some (14, false) }, { dst := some 228, op := Op.buildSlice 35 2 #[(0, Operand.tmp 225), (1, Operand.tmp 227)], type := 35, pos := "top01.go:41", after := #[{ on := 26, ground := Ground.data }, { on := 28, ground := Ground.data }, { on := 14, ground := Ground.guard }], guard := some (14, false) }, { dst := some 229, op := Op.call { callee := Callee.value (Operand.func 5), args := #[Operand.tmp 228], argTypes := #[35] }, type := 22, pos := "top01.go:41", after := #[{ on := 29, ground := Ground.data }, { on := 23, ground := Ground.chain }, { on := 14, ground := Ground.guard }], guard := some (14, false) }, { dst := some 230, op := Op.call { callee := Callee.value (Operand.func 7), args := #[Operand.tmp 223, Operand.tmp 229], argTypes := #[22, 22] }, type := 22, pos := "top01.go:41", after := #[{ on := 24, ground := Ground.data }, { on := 30, ground := Ground.data }, { on := 30, ground := Ground.chain }, { on := 14, ground := Ground.guard }], guard := some (14, false) }, { dst := some 231, op := Op.call { callee := Callee.value (Operand.func 4), args := #[Operand.tmp 222, Operand.tmp 230], argTypes := #[22, 22] }, type := 4, pos := "top01.go:41", after := #[{ on := 23, ground := Ground.data }, { on := 31, ground := Ground.data }, { on := 31, ground := Ground.chain }, { on := 14, ground := Ground.guard }], guard := some (14, false) }, { dst := some 232, op := Op.unOp UnOp.not 4 (Operand.tmp 231), type := 4, pos := "top01.go:41", after := #[{ on := 32, ground := Ground.data }, { on := 14, ground := Ground.guard }], guard := some (14, false) }, { dst := some 233, op := Op.pick (Operand.tmp 213) (Operand.const (Value.bool true)) (Operand.tmp 232), type := 4, pos := "top01.go:41", after := #[{ on := 14, ground := Ground.data }, { on := 33, ground := Ground.data }], guard := none }] Q i (fun a' w' => ∃ v0 v1 v2 v3 v4 v5 v6 v7 v8 v9 v10 v11 v12 v13 v14 v15 v16 v17 v18 v19 v20 v21 v22 v23 v24 v25 v26 v27 v28 v29 v30 v31 v32 v33 v34, a' = { tmps := #[Value.agg #[Value.slice ao n cap, Value.slice bo m cap', Value.slice co l cap2, Value.int IntKind.i64 z], Value.pointer (some { block := w.heap.size, off := 0 }), Value.bool false, Value.slice a3 n3 c3, Value.slice a4 n4 c4, Value.slice a5 n5 c5, Value.slice a6 n6 c6, Value.slice a7 n7 c7, Value.slice a8 n8 c8, Value.bool p, Value.bool q, u11, u12, u13, u14, u15, u16, u17, u18, u19, u20, u21, u22, u23, u24, u25, u26, u27, u28, u29, u30, u31, u32, u33, u34, u35, u36, u37, u38, u39, u40, u41, u42, u43, u44, u45, u46, u47, u48, u49, u50, u51, u52, u53, u54, u55, u56, u57, u58, u59, u60, u61, u62, u63, u64, u65, u66, u67, u68, u69, u70, u71, u72, u73, u74, u75, u76, u77, u78, u79, u80, u81, u82, u83, u84, u85, u86, u87, u88, u89, u90, u91, u92, u93, u94, u95, u96, u97, u98, u99, u100, u101, u102, u103, u104, u105, u106, u107, u108, u109, u110, u111, u112, u113, u114, u115, u116, u117, u118, u119, u120, u121, u122, u123, u124, u125, u126, u127, u128, u129, u130, u131, u132, u133, u134, u135, u136, u137, u138, u139, u140, u141, u142, u143, u144, u145, u146, u147, u148, u149, u150, u151, u152, u153, u154, u155, u156, u157, u158, u159, u160, u161, u162, u163, u164, u165, u166, u167, u168, u169, u170, u171, u172, u173, u174, u175, u176, u177, u178, u179, u180, u181, u182, u183, u184, u185, u186, u187, u188, u189, u190, u191, u192, u193, u194, u195, u196, u197, Value.bool false, v0, v1, v2, v3, v4, v5, v6, v7, v8, v9, v10, v11, v12, v13, v14, v15, v16, v17, v18, v19, v20, v21, v22, v23, v24, v25, v26, v27, v28, v29, v30, v31, v32, v33, v34, u234, u235, u236, u237, u238, u239, u240, u241, u242, u243, u244, u245, u246, u247, u248, u249, u250, u251, u252, u253, u254, u255, u256, u257, u258, u259, u260, u261, u262, u263, u264, u265, u266, u267, u268, u269, u270, u271, u272, u273, u274, u275, u276], defers := [] } ∧ RI 35 w25 (Ph20 ao bo co a5 a6 n cap m cap' l cap2 n5 c5 n6 c6 A B C X5 X6 w) (fl.setIfInBounds i true) w' [v0, v1, v2, v3, v4, v5, v6, v7, v8, v9, v10, v11, v12, v13, v14, v15, v16, v17, v18, v19, v20, v21, v22, v23, v24, v25, v26, v27, v28, v29, v30, v31, v32, v33, v34]) x W := by
  rintro fl x W ⟨v0, v1, v2, v3, v4, v5, v6, v7, v8, v9, v10, v11, v12, v13, v14, v15, v16, v17, v18, v19, v20, v21, v22, v23, v24, v25, v26, v27, v28, v29, v30, v31, v32, v33, v34, rfl, T⟩ i hi
  obtain ⟨hi1, hi2, hi3⟩ := ready_mem hi
  have hc : i = 0 ∨ i = 1 ∨ i = 2 ∨ i = 3 ∨ i = 4 ∨ i = 5 ∨ i = 6 ∨ i = 7 ∨ i = 8 ∨ i = 9 ∨ i = 10 ∨ i = 11 ∨ i = 12 ∨ i = 13 ∨ i = 14 ∨ i = 15 ∨ i = 16 ∨ i = 17 ∨ i = 18 ∨ i = 19 ∨ i = 20 ∨ i = 21 ∨ i = 22 ∨ i = 23 ∨ i = 24 ∨ i = 25 ∨ i = 26 ∨ i = 27 ∨ i = 28 ∨ i = 29 ∨ i = 30 ∨ i = 31 ∨ i = 32 ∨ i = 33 ∨ i = 34 := by have h : i < 35 := hi1; omega
  have HT := hide T
  clear T hi2
  rcases hc with rfl | rfl | rfl | rfl | rfl | rfl | rfl | rfl | rfl | rfl | rfl | rfl | rfl | rfl | rfl | rfl | rfl | rfl | rfl | rfl | rfl | rfl | rfl | rfl | rfl | rfl | rfl | rfl | rfl | rfl | rfl | rfl | rfl | rfl | rfl
  · clear hi hi1 hi3
    refine wpOp_step (o := { dst := some 199, op := Op.fieldAddr 24 (Operand.tmp 1) 0, type := 0, pos := "top01.go:41", after := #[], guard := none }) rfl (fun K hK => ?_)
    go_simp
    exact hK _ _ ⟨.pointer (some ⟨w.heap.size, 0, none⟩), v1, v2, v3, v4, v5, v6, v7, v8, v9, v10, v11, v12, v13, v14, v15, v16, v17, v18, v19, v20, v21, v22, v23, v24, v25, v26, v27, v28, v29, v30, v31, v32, v33, v34, rfl, HT.out.put (Ph20_mono ao bo co a5 a6 n cap m cap' l cap2 n5 c5 n6 c6 A B C X5 X6 w) (Below.refl _ _) 0 (by decide) _ rfl⟩
  · have d0 := hi3 _ rfl { on := 0, ground := Ground.data } (by simp) rfl
    have e0 : v0 = .pointer (some ⟨w.heap.size, 0, none⟩) := HT.out.h 0 (by decide) d0
    subst e0
    clear hi hi1 hi3 d0
    have l1 := cell_on HT.out.b HKC.out.1
    refine wpOp_step (o := { dst := some 200, op := Op.load 22 (Operand.tmp 199), type := 22, pos := "top01.go:41", after := #[{ on := 0, ground := Ground.data }], guard := none }) rfl (fun K hK => ?_)
    go_simp
    exact hK _ _ ⟨_, .slice ao n cap, v2, v3, v4, v5, v6, v7, v8, v9, v10, v11, v12, v13, v14, v15, v16, v17, v18, v19, v20, v21, v22, v23, v24, v25, v26, v27, v28, v29, v30, v31, v32, v33, v34, rfl, HT.out.put (Ph20_mono ao bo co a5 a6 n cap m cap' l cap2 n5 c5 n6 c6 A B C X5 X6 w) (Below.refl _ _) 1 (by decide) _ rfl⟩
  · clear hi hi1 hi3
    refine wpOp_step (o := { dst := some 201, op := Op.fieldAddr 24 (Operand.tmp 1) 1, type := 0, pos := "top01.go:41", after := #[], guard := none }) rfl (fun K hK => ?_)
    go_simp
    exact hK _ _ ⟨v0, v1, .pointer (some ⟨w.heap.size, 1, none⟩), v3, v4, v5, v6, v7, v8, v9, v10, v11, v12, v13, v14, v15, v16, v17, v18, v19, v20, v21, v22, v23, v24, v25, v26, v27, v28, v29, v30, v31, v32, v33, v34, rfl, HT.out.put (Ph20_mono ao bo co a5 a6 n cap m cap' l cap2 n5 c5 n6 c6 A B C X5 X6 w) (Below.refl _ _) 2 (by decide) _ rfl⟩
  · have d2 := hi3 _ rfl { on := 2, ground := Ground.data } (by simp) rfl
    have e2 : v2 = .pointer (some ⟨w.heap.size, 1, none⟩) := HT.out.h 2 (by decide) d2
    subst e2
    clear hi hi1 hi3 d2
    have l1 := cell_on HT.out.b HKC.out.2.1
    refine wpOp_step (o := { dst := some 202, op := Op.load 22 (Operand.tmp 201), type := 22, pos := "top01.go:41", after := #[{ on := 2, ground := Ground.data }], guard := none }) rfl (fun K hK => ?_)
    go_simp
    exact hK _ _ ⟨v0, v1, _, .slice bo m cap', v4, v5, v6, v7, v8, v9, v10, v11, v12, v13, v14, v15, v16, v17, v18, v19, v20, v21, v22, v23, v24, v25, v26, v27, v28, v29, v30, v31, v32, v33, v34, rfl, HT.out.put (Ph20_mono ao bo co a5 a6 n cap m cap' l cap2 n5 c5 n6 c6 A B C X5 X6 w) (Below.refl _ _) 3 (by decide) _ rfl⟩
  · clear hi hi1 hi3
    refine wpOp_step (o := { dst := some 203, op := Op.fieldAddr 24 (Operand.tmp 1) 2, type := 0, pos := "top01.go:41", after := #[], guard := none }) rfl (fun K hK => ?_)
    go_simp
    exact hK _ _ ⟨v0, v1, v2, v3, .pointer (some ⟨w.heap.size, 2, none⟩), v5, v6, v7, v8, v9, v10, v11, v12, v13, v14, v15, v16, v17, v18, v19, v20, v21, v22, v23, v24, v25, v26, v27, v28, v29, v30, v31, v32, v33, v34, rfl, HT.out.put (Ph20_mono ao bo co a5 a6 n cap m cap' l cap2 n5 c5 n6 c6 A B C X5 X6 w) (Below.refl _ _) 4 (by decide) _ rfl⟩
  · have d4 := hi3 _ rfl { on := 4, ground := Ground.data } (by simp) rfl
    have e4 : v4 = .pointer (some ⟨w.heap.size, 2, none⟩) := HT.out.h 4 (by decide) d4
    subst e4
    clear hi hi1 hi3 d4
    have l1 := cell_on HT.out.b HKC.out.2.2
    refine wpOp_step (o := { dst := some 204, op := Op.load 22 (Operand.tmp 203), type := 22, pos := "top01.go:41", after := #[{ on := 4, ground := Ground.data }], guard := none }) rfl (fun K hK => ?_)
    go_simp
    exact hK _ _ ⟨v0, v1, v2, v3, _, .slice co l cap2, v6, v7, v8, v9, v10, v11, v12, v13, v14, v15, v16, v17, v18, v19, v20, v21, v22, v23, v24, v25, v26, v27, v28, v29, v30, v31, v32, v33, v34, rfl, HT.out.put (Ph20_mono ao bo co a5 a6 n cap m cap' l cap2 n5 c5 n6 c6 A B C X5 X6 w) (Below.refl _ _) 5 (by decide) _ rfl⟩
  · have d1 := hi3 _ rfl { on := 1, ground := Ground.data } (by simp) rfl
    have d3 := hi3 _ rfl { on := 3, ground := Ground.data } (by simp) rfl
    have d5 := hi3 _ rfl { on := 5, ground := Ground.data } (by simp) rfl
    have e1 : v1 = .slice ao n cap := HT.out.h 1 (by decide) d1
    subst e1
    have e3 : v3 = .slice bo m cap' := HT.out.h 3 (by decide) d3
    subst e3
    have e5 : v5 = .slice co l cap2 := HT.out.h 5 (by decide) d5
    subst e5
    clear hi hi1 hi3 d1 d3 d5
    refine wpOp_step (o := { dst := some 205, op := Op.buildSlice 35 3 #[(0, Operand.tmp 200), (1, Operand.tmp 202), (2, Operand.tmp 204)], type := 35, pos := "top01.go:41", after := #[{ on := 1, ground := Ground.data }, { on := 3, ground := Ground.data }, { on := 5, ground := Ground.data }], guard := none }) rfl (fun K hK => ?_)
    go_simp
    exact hK _ _ ⟨v0, _, v2, _, v4, _, .slice (some ⟨W.heap.size, 0, none⟩) 3 3, v7, v8, v9, v10, v11, v12, v13, v14, v15, v16, v17, v18, v19, v20, v21, v22, v23, v24, v25, v26, v27, v28, v29, v30, v31, v32, v33, v34, rfl, HT.out.put (Ph20_mono ao bo co a5 a6 n cap m cap' l cap2 n5 c5 n6 c6 A B C X5 X6 w) (below_new _ _) 6 (by decide) _ ⟨_, rfl, World.cell?_alloc_new _ _ _ _, World.cell?_alloc_new _ _ _ _, World.cell?_alloc_new _ _ _ _⟩⟩
  · have d6 := hi3 _ rfl { on := 6, ground := Ground.data } (by simp) rfl
    obtain ⟨g6, e6, C6_0, C6_1, C6_2⟩ : ∃ g, v6 = .slice (some ⟨g, 0, none⟩) 3 3 ∧ W.cell? ⟨g, 0, none⟩ = some (.slice ao n cap) ∧ W.cell? ⟨g, 1, none⟩ = some (.slice bo m cap') ∧ W.cell? ⟨g, 2, none⟩ = some (.slice co l cap2) := HT.out.h 6 (by decide) d6
    subst e6
    have HC6_0 := hide C6_0
    have HC6_1 := hide C6_1
    have HC6_2 := hide C6_2
    clear C6_0 C6_1 C6_2
    clear hi hi1 hi3 d6
    refine wpOp_step (o := { dst := some 206, op := Op.call { callee := Callee.value (Operand.func 5), args := #[Operand.tmp 205], argTypes := #[35] }, type := 22, pos := "top01.go:41", after := #[{ on := 6, ground := Ground.data }], guard := none }) rfl (fun K hK => ?_)
    go_simp
    go_wp2_with fail
    refine (union3c_any _ ao bo co n cap m cap' l cap2 A B C _ (HSk.out.below HT.out.b) (HRk.out.below HT.out.b) (HTk.out.below HT.out.b) HC6_0.out HC6_1.out HC6_2.out (by omega)).mono ?_
    rintro e w' ⟨pa, pn, pc, pL, rfl, pS, pb, pq⟩
    exact hK _ _ ⟨v0, v1, v2, v3, v4, v5, _, .slice pa pn pc, v8, v9, v10, v11, v12, v13, v14, v15, v16, v17, v18, v19, v20, v21, v22, v23, v24, v25, v26, v27, v28, v29, v30, v31, v32, v33, v34, rfl, HT.out.put (Ph20_mono ao bo co a5 a6 n cap m cap' l cap2 n5 c5 n6 c6 A B C X5 X6 w) pb 7 (by decide) _ ⟨_, _, _, _, rfl, pS, pq⟩⟩
  · clear hi hi1 hi3
    refine wpOp_step (o := { dst := some 207, op := Op.move (Operand.tmp 6), type := 22, pos := "top01.go:41", after := #[], guard := none }) rfl (fun K hK => ?_)
    go_simp
    exact hK _ _ ⟨v0, v1, v2, v3, v4, v5, v6, v7, .slice a6 n6 c6, v9, v10, v11, v12, v13, v14, v15, v16, v17, v18, v19, v20, v21, v22, v23, v24, v25, v26, v27, v28, v29, v30, v31, v32, v33, v34, rfl, HT.out.put (Ph20_mono ao bo co a5 a6 n cap m cap' l cap2 n5 c5 n6 c6 A B C X5 X6 w) (Below.refl _ _) 8 (by decide) _ rfl⟩
  · clear hi hi1 hi3
    refine wpOp_step (o := { dst := some 208, op := Op.move (Operand.tmp 5), type := 22, pos := "top01.go:41", after := #[], guard := none }) rfl (fun K hK => ?_)
    go_simp
    exact hK _ _ ⟨v0, v1, v2, v3, v4, v5, v6, v7, v8, .slice a5 n5 c5, v10, v11, v12, v13, v14, v15, v16, v17, v18, v19, v20, v21, v22, v23, v24, v25, v26, v27, v28, v29, v30, v31, v32, v33, v34, rfl, HT.out.put (Ph20_mono ao bo co a5 a6 n cap m cap' l cap2 n5 c5 n6 c6 A B C X5 X6 w) (Below.refl _ _) 9 (by decide) _ rfl⟩
  · have d8 := hi3 _ rfl { on := 8, ground := Ground.data } (by simp) rfl
    have d9 := hi3 _ rfl { on := 9, ground := Ground.data } (by simp) rfl
    have e8 : v8 = .slice a6 n6 c6 := HT.out.h 8 (by decide) d8
    subst e8
    have e9 : v9 = .slice a5 n5 c5 := HT.out.h 9 (by decide) d9
    subst e9
    clear hi hi1 hi3 d8 d9
    refine wpOp_step (o := { dst := some 209, op := Op.buildSlice 35 2 #[(0, Operand.tmp 207), (1, Operand.tmp 208)], type := 35, pos := "top01.go:41", after := #[{ on := 8, ground := Ground.data }, { on := 9, ground := Ground.data }], guard := none }) rfl (fun K hK => ?_)
    go_simp
    exact hK _ _ ⟨v0, v1, v2, v3, v4, v5, v6, v7, _, _, .slice (some ⟨W.heap.size, 0, none⟩) 2 2, v11, v12, v13, v14, v15, v16, v17, v18, v19, v20, v21, v22, v23, v24, v25, v26, v27, v28, v29, v30, v31, v32, v33, v34, rfl, HT.out.put (Ph20_mono ao bo co a5 a6 n cap m cap' l cap2 n5 c5 n6 c6 A B C X5 X6 w) (below_new _ _) 10 (by decide) _ ⟨_, rfl, World.cell?_alloc_new _ _ _ _, World.cell?_alloc_new _ _ _ _⟩⟩
  · have d10 := hi3 _ rfl { on := 10, ground := Ground.data } (by simp) rfl
    obtain ⟨g10, e10, C10_0, C10_1⟩ : ∃ g, v10 = .slice (some ⟨g, 0, none⟩) 2 2 ∧ W.cell? ⟨g, 0, none⟩ = some (.slice a6 n6 c6) ∧ W.cell? ⟨g, 1, none⟩ = some (.slice a5 n5 c5) := HT.out.h 10 (by decide) d10
    subst e10
    have HC10_0 := hide C10_0
    have HC10_1 := hide C10_1
    clear C10_0 C10_1
    clear hi hi1 hi3 d10
    refine wpOp_step (o := { dst := some 210, op := Op.call { callee := Callee.value (Operand.func 5), args := #[Operand.tmp 209], argTypes := #[35] }, type := 22, pos := "top01.go:41", after := #[{ on := 10, ground := Ground.data }, { on := 7, ground := Ground.chain }], guard := none }) rfl (fun K hK => ?_)
    go_simp
    go_wp2_with fail
    refine (union_any _ a6 a5 n6 c6 n5 c5 X6 X5 _ (HX6.out.below HT.out.b) (HX5.out.below HT.out.b) HC10_0.out HC10_1.out (by omega)).mono ?_
    rintro e w' ⟨pa, pn, pc, pL, rfl, pS, pb, pq⟩
    exact hK _ _ ⟨v0, v1, v2, v3, v4, v5, v6, v7, v8, v9, _, .slice pa pn pc, v12, v13, v14, v15, v16, v17, v18, v19, v20, v21, v22, v23, v24, v25, v26, v27, v28, v29, v30, v31, v32, v33, v34, rfl, HT.out.put (Ph20_mono ao bo co a5 a6 n cap m cap' l cap2 n5 c5 n6 c6 A B C X5 X6 w) pb 11 (by decide) _ ⟨_, _, _, _, rfl, pS, pq⟩⟩
  · have d7 := hi3 _ rfl { on := 7, ground := Ground.data } (by simp) rfl
    have d11 := hi3 _ rfl { on := 11, ground := Ground.data } (by simp) rfl
    obtain ⟨r7a, r7n, r7c, r7L, e7, S7, Q7⟩ : ∃ ra rn rc RL, v7 = .slice ra rn rc ∧ RSrc W ra rn rc RL ∧ (fun R => form 1 R ∧ ∀ x, mem R x ↔ mem A x ∨ mem B x ∨ mem C x) RL := HT.out.h 7 (by decide) d7
    subst e7
    have HS7 := hide S7
    have HQ7 := hide Q7
    clear S7 Q7
    obtain ⟨r11a, r11n, r11c, r11L, e11, S11, Q11⟩ : ∃ ra rn rc RL, v11 = .slice ra rn rc ∧ RSrc W ra rn rc RL ∧ (UnionOf X6 X5) RL := HT.out.h 11 (by decide) d11
    subst e11
    have HS11 := hide S11
    have HQ11 := hide Q11
    clear S11 Q11
    clear hi hi1 hi3 d7 d11
    refine wpOp_step (o := { dst := some 211, op := Op.call { callee := Callee.value (Operand.func 4), args := #[Operand.tmp 206, Operand.tmp 210], argTypes := #[22, 22] }, type := 4, pos := "top01.go:41", after := #[{ on := 7, ground := Ground.data }, { on := 11, ground := Ground.data }, { on := 11, ground := Ground.chain }], guard := none }) rfl (fun K hK => ?_)
    go_simp
    go_wp2_with fail
    refine (same_any r7a r11a r7n r7c r11n r11c r7L r11L _ HS7.out HS11.out (law_u3 HQ7.out HP6.out HP5.out HQ11.out)).mono ?_
    rintro e w' ⟨rfl, pb⟩
    exact hK _ _ ⟨v0, v1, v2, v3, v4, v5, v6, _, v8, v9, v10, _, .bool true, v13, v14, v15, v16, v17, v18, v19, v20, v21, v22, v23, v24, v25, v26, v27, v28, v29, v30, v31, v32, v33, v34, rfl, HT.out.put (Ph20_mono ao bo co a5 a6 n cap m cap' l cap2 n5 c5 n6 c6 A B C X5 X6 w) pb 12 (by decide) _ rfl⟩
  · have d12 := hi3 _ rfl { on := 12, ground := Ground.data } (by simp) rfl
    have e12 : v12 = .bool true := HT.out.h 12 (by decide) d12
    subst e12
    clear hi hi1 hi3 d12
    refine wpOp_step (o := { dst := some 212, op := Op.unOp UnOp.not 4 (Operand.tmp 211), type := 4, pos := "top01.go:41", after := #[{ on := 12, ground := Ground.data }], guard := none }) rfl (fun K hK => ?_)
    go_simp
    exact hK _ _ ⟨v0, v1, v2, v3, v4, v5, v6, v7, v8, v9, v10, v11, _, .bool false, v14, v15, v16, v17, v18, v19, v20, v21, v22, v23, v24, v25, v26, v27, v28, v29, v30, v31, v32, v33, v34, rfl, HT.out.put (Ph20_mono ao bo co a5 a6 n cap m cap' l cap2 n5 c5 n6 c6 A B C X5 X6 w) (Below.refl _ _) 13 (by decide) _ rfl⟩
  · have d13 := hi3 _ rfl { on := 13, ground := Ground.data } (by simp) rfl
    have e13 : v13 = .bool false := HT.out.h 13 (by decide) d13
    subst e13
    clear hi hi1 hi3 d13
    refine wpOp_step (o := { dst := some 213, op := Op.move (Operand.tmp 212), type := 4, pos := "top01.go:41", after := #[{ on := 13, ground := Ground.data }, { on := 12, ground := Ground.chain }], guard := none }) rfl (fun K hK => ?_)
    go_simp
    exact hK _ _ ⟨v0, v1, v2, v3, v4, v5, v6, v7, v8, v9, v10, v11, v12, _, .bool false, v15, v16, v17, v18, v19, v20, v21, v22, v23, v24, v25, v26, v27, v28, v29, v30, v31, v32, v33, v34, rfl, HT.out.put (Ph20_mono ao bo co a5 a6 n cap m cap' l cap2 n5 c5 n6 c6 A B C X5 X6 w) (Below.refl _ _) 14 (by decide) _ rfl⟩
  · have d14 := hi3 _ rfl { on := 14, ground := Ground.guard } (by simp) rfl
    have e14 : v14 = .bool false := HT.out.h 14 (by decide) d14
    subst e14
    clear hi hi1 hi3 d14
    refine wpOp_step (o := { dst := some 214, op := Op.fieldAddr 24 (Operand.tmp 1) 0, type := 0, pos := "top01.go:41", after := #[{ on := 14, ground := Ground.guard }], guard := some (14, false) }) rfl (fun K hK => ?_)
    go_simp
    exact hK _ _ ⟨v0, v1, v2, v3, v4, v5, v6, v7, v8, v9, v10, v11, v12, v13, _, .pointer (some ⟨w.heap.size, 0, none⟩), v16, v17, v18, v19, v20, v21, v22, v23, v24, v25, v26, v27, v28, v29, v30, v31, v32, v33, v34, rfl, HT.out.put (Ph20_mono ao bo co a5 a6 n cap m cap' l cap2 n5 c5 n6 c6 A B C X5 X6 w) (Below.refl _ _) 15 (by decide) _ rfl⟩
  · have d15 := hi3 _ rfl { on := 15, ground := Ground.data } (by simp) rfl
    have d14 := hi3 _ rfl { on := 14, ground := Ground.guard } (by simp) rfl
    have e15 : v15 = .pointer (some ⟨w.heap.size, 0, none⟩) := HT.out.h 15 (by decide) d15
    subst e15
    have e14 : v14 = .bool false := HT.out.h 14 (by decide) d14
    subst e14
    clear hi hi1 hi3 d15 d14
    have l1 := cell_on HT.out.b HKC.out.1
    refine wpOp_step (o := { dst := some 215, op := Op.load 22 (Operand.tmp 214), type := 22, pos := "top01.go:41", after := #[{ on := 15, ground := Ground.data }, { on := 14, ground := Ground.guard }], guard := some (14, false) }) rfl (fun K hK => ?_)
    go_simp
    exact hK _ _ ⟨v0, v1, v2, v3, v4, v5, v6, v7, v8, v9, v10, v11, v12, v13, _, _, .slice ao n cap, v17, v18, v19, v20, v21, v22, v23, v24, v25, v26, v27, v28, v29, v30, v31, v32, v33, v34, rfl, HT.out.put (Ph20_mono ao bo co a5 a6 n cap m cap' l cap2 n5 c5 n6 c6 A B C X5 X6 w) (Below.refl _ _) 16 (by decide) _ rfl⟩
  · have d14 := hi3 _ rfl { on := 14, ground := Ground.guard } (by simp) rfl
    have e14 : v14 = .bool false := HT.out.h 14 (by decide) d14
    subst e14
    clear hi hi1 hi3 d14
    refine wpOp_step (o := { dst := some 216, op := Op.fieldAddr 24 (Operand.tmp 1) 1, type := 0, pos := "top01.go:41", after := #[{ on := 14, ground := Ground.guard }], guard := some (14, false) }) rfl (fun K hK => ?_)
    go_simp
    exact hK _ _ ⟨v0, v1, v2, v3, v4, v5, v6, v7, v8, v9, v10, v11, v12, v13, _, v15, v16, .pointer (some ⟨w.heap.size, 1, none⟩), v18, v19, v20, v21, v22, v23, v24, v25, v26, v27, v28, v29, v30, v31, v32, v33, v34, rfl, HT.out.put (Ph20_mono ao bo co a5 a6 n cap m cap' l cap2 n5 c5 n6 c6 A B C X5 X6 w) (Below.refl _ _) 17 (by decide) _ rfl⟩
  · have d17 := hi3 _ rfl { on := 17, ground := Ground.data } (by simp) rfl
    have d14 := hi3 _ rfl { on := 14, ground := Ground.guard } (by simp) rfl
    have e17 : v17 = .pointer (some ⟨w.heap.size, 1, none⟩) := HT.out.h 17 (by decide) d17
    subst e17
    have e14 : v14 = .bool false := HT.out.h 14 (by decide) d14
    subst e14
    clear hi hi1 hi3 d17 d14
    have l1 := cell_on HT.out.b HKC.out.2.1
    refine wpOp_step (o := { dst := some 217, op := Op.load 22 (Operand.tmp 216), type := 22, pos := "top01.go:41", after := #[{ on := 17, ground := Ground.data }, { on := 14, ground := Ground.guard }], guard := some (14, false) }) rfl (fun K hK => ?_)
    go_simp
    exact hK _ _ ⟨v0, v1, v2, v3, v4, v5, v6, v7, v8, v9, v10, v11, v12, v13, _, v15, v16, _, .slice bo m cap', v19, v20, v21, v22, v23, v24, v25, v26, v27, v28, v29, v30, v31, v32, v33, v34, rfl, HT.out.put (Ph20_mono ao bo co a5 a6 n cap m cap' l cap2 n5 c5 n6 c6 A B C X5 X6 w) (Below.refl _ _) 18 (by decide) _ rfl⟩
  · have d14 := hi3 _ rfl { on := 14, ground := Ground.guard } (by simp) rfl
    have e14 : v14 = .bool false := HT.out.h 14 (by decide) d14
    subst e14
    clear hi hi1 hi3 d14
    refine wpOp_step (o := { dst := some 218, op := Op.fieldAddr 24 (Operand.tmp 1) 2, type := 0, pos := "top01.go:41", after := #[{ on := 14, ground := Ground.guard }], guard := some (14, false) }) rfl (fun K hK => ?_)
    go_simp
    exact hK _ _ ⟨v0, v1, v2, v3, v4, v5, v6, v7, v8, v9, v10, v11, v12, v13, _, v15, v16, v17, v18, .pointer (some ⟨w.heap.size, 2, none⟩), v20, v21, v22, v23, v24, v25, v26, v27, v28, v29, v30, v31, v32, v33, v34, rfl, HT.out.put (Ph20_mono ao bo co a5 a6 n cap m cap' l cap2 n5 c5 n6 c6 A B C X5 X6 w) (Below.refl _ _) 19 (by decide) _ rfl⟩
  · have d19 := hi3 _ rfl { on := 19, ground := Ground.data } (by simp) rfl
    have d14 := hi3 _ rfl { on := 14, ground := Ground.guard } (by simp) rfl
    have e19 : v19 = .pointer (some ⟨w.heap.size, 2, none⟩) := HT.out.h 19 (by decide) d19
    subst e19
    have e14 : v14 = .bool false := HT.out.h 14 (by decide) d14
    subst e14
    clear hi hi1 hi3 d19 d14
    have l1 := cell_on HT.out.b HKC.out.2.2
    refine wpOp_step (o := { dst := some 219, op := Op.load 22 (Operand.tmp 218), type := 22, pos := "top01.go:41", after := #[{ on := 19, ground := Ground.data }, { on := 14, ground := Ground.guard }], guard := some (14, false) }) rfl (fun K hK => ?_)
    go_simp
    exact hK _ _ ⟨v0, v1, v2, v3, v4, v5, v6, v7, v8, v9, v10, v11, v12, v13, _, v15, v16, v17, v18, _, .slice co l cap2, v21, v22, v23, v24, v25, v26, v27, v28, v29, v30, v31, v32, v33, v34, rfl, HT.out.put (Ph20_mono ao bo co a5 a6 n cap m cap' l cap2 n5 c5 n6 c6 A B C X5 X6 w) (Below.refl _ _) 20 (by decide) _ rfl⟩
  · have d18 := hi3 _ rfl { on := 18, ground := Ground.data } (by simp) rfl
    have d20 := hi3 _ rfl { on := 20, ground := Ground.data } (by simp) rfl
    have d14 := hi3 _ rfl { on := 14, ground := Ground.chain } (by simp) rfl
    have e18 : v18 = .slice bo m cap' := HT.out.h 18 (by decide) d18
    subst e18
    have e20 : v20 = .slice co l cap2 := HT.out.h 20 (by decide) d20
    subst e20
    have e14 : v14 = .bool false := HT.out.h 14 (by decide) d14
    subst e14
    clear hi hi1 hi3 d18 d20 d14
    refine wpOp_step (o := { dst := some 220, op := Op.call { callee := Callee.value (Operand.func 7), args := #[Operand.tmp 217, Operand.tmp 219], argTypes := #[22, 22] }, type := 22, pos := "top01.go:41", after := #[{ on := 18, ground := Ground.data }, { on := 20, ground := Ground.data }, { on := 14, ground := Ground.chain }, { on := 14, ground := Ground.guard }], guard := some (14, false) }) rfl (fun K hK => ?_)
    go_simp
    go_wp2_with fail
    refine (meet_any bo co m cap' l cap2 B C _ (HRk.out.below HT.out.b) (HTk.out.below HT.out.b)).mono ?_
    rintro e w' ⟨pa, pn, pc, pL, rfl, pS, pb, pq⟩
    exact hK _ _ ⟨v0, v1, v2, v3, v4, v5, v6, v7, v8, v9, v10, v11, v12, v13, _, v15, v16, v17, _, v19, _, .slice pa pn pc, v22, v23, v24, v25, v26, v27, v28, v29, v30, v31, v32, v33, v34, rfl, HT.out.put (Ph20_mono ao bo co a5 a6 n cap m cap' l cap2 n5 c5 n6 c6 A B C X5 X6 w) pb 21 (by decide) _ ⟨_, _, _, _, rfl, pS, pq⟩⟩
  · have d16 := hi3 _ rfl { on := 16, ground := Ground.data } (by simp) rfl
    have d21 := hi3 _ rfl { on := 21, ground := Ground.data } (by simp) rfl
    have d14 := hi3 _ rfl { on := 14, ground := Ground.guard } (by simp) rfl
    have e16 : v16 = .slice ao n cap := HT.out.h 16 (by decide) d16
    subst e16
    obtain ⟨r21a, r21n, r21c, r21L, e21, S21, Q21⟩ : ∃ ra rn rc RL, v21 = .slice ra rn rc ∧ RSrc W ra rn rc RL ∧ (MeetOf B C) RL := HT.out.h 21 (by decide) d21
    subst e21
    have HS21 := hide S21
    have HQ21 := hide Q21
    clear S21 Q21
    have e14 : v14 = .bool false := HT.out.h 14 (by decide) d14
    subst e14
    clear hi hi1 hi3 d16 d21 d14
    refine wpOp_step (o := { dst := some 221, op := Op.buildSlice 35 2 #[(0, Operand.tmp 215), (1, Operand.tmp 220)], type := 35, pos := "top01.go:41", after := #[{ on := 16, ground := Ground.data }, { on := 21, ground := Ground.data }, { on := 14, ground := Ground.guard }], guard := some (14, false) }) rfl (fun K hK => ?_)
    go_simp
    exact hK _ _ ⟨v0, v1, v2, v3, v4, v5, v6, v7, v8, v9, v10, v11, v12, v13, _, v15, _, v17, v18, v19, v20, _, .slice (some ⟨W.heap.size, 0, none⟩) 2 2, v23, v24, v25, v26, v27, v28, v29, v30, v31, v32, v33, v34, rfl, HT.out.put (Ph20_mono ao bo co a5 a6 n cap m cap' l cap2 n5 c5 n6 c6 A B C X5 X6 w) (below_new _ _) 22 (by decide) _ ⟨_, r21a, r21n, r21c, r21L, rfl, World.cell?_alloc_new _ _ _ _, World.cell?_alloc_new _ _ _ _, HS21.out.below (below_new _ _), HQ21.out⟩⟩
  · have d22 := hi3 _ rfl { on := 22, ground := Ground.data } (by simp) rfl
    have d14 := hi3 _ rfl { on := 14, ground := Ground.guard } (by simp) rfl
    obtain ⟨g22, g22a, g22n, g22c, g22L, e22, C22_0, C22_1, G22, Q22⟩ : ∃ g ra rn rc RL, v22 = .slice (some ⟨g, 0, none⟩) 2 2 ∧ W.cell? ⟨g, 0, none⟩ = some (.slice ao n cap) ∧ W.cell? ⟨g, 1, none⟩ = some (.slice ra rn rc) ∧ RSrc W ra rn rc RL ∧ MeetOf B C RL := HT.out.h 22 (by decide) d22
    subst e22
    have HC22_0 := hide C22_0
    have HC22_1 := hide C22_1
    have HG22 := hide G22
    have HQ22 := hide Q22
    clear C22_0 C22_1 G22 Q22
    have e14 : v14 = .bool false := HT.out.h 14 (by decide) d14
    subst e14
    clear hi hi1 hi3 d22 d14
    refine wpOp_step (o := { dst := some 222, op := Op.call { callee := Callee.value (Operand.func 5), args := #[Operand.tmp 221], argTypes := #[35] }, type := 22, pos := "top01.go:41", after := #[{ on := 22, ground := Ground.data }, { on := 21, ground := Ground.chain }, { on := 14, ground := Ground.guard }], guard := some (14, false) }) rfl (fun K hK => ?_)
    go_simp
    go_wp2_with fail
    refine (union_any _ ao g22a n cap g22n g22c A g22L _ (HSk.out.below HT.out.b) HG22.out HC22_0.out HC22_1.out (by have h := HG22.out.len; have h2 := form_small (Int.le_refl _) HQ22.out.1; omega)).mono ?_
    rintro e w' ⟨pa, pn, pc, pL, rfl, pS, pb, pq⟩
    exact hK _ _ ⟨v0, v1, v2, v3, v4, v5, v6, v7, v8, v9, v10, v11, v12, v13, _, v15, v16, v17, v18, v19, v20, v21, _, .slice pa pn pc, v24, v25, v26, v27, v28, v29, v30, v31, v32, v33, v34, rfl, HT.out.put (Ph20_mono ao bo co a5 a6 n cap m cap' l cap2 n5 c5 n6 c6 A B C X5 X6 w) pb 23 (by decide) _ ⟨_, _, _, _, rfl, pS, ⟨_, HQ22.out, pq⟩⟩⟩
  · have d14 := hi3 _ rfl { on := 14, ground := Ground.guard } (by simp) rfl
    have e14 : v14 = .bool false := HT.out.h 14 (by decide) d14
    subst e14
    clear hi hi1 hi3 d14
    refine wpOp_step (o := { dst := some 223, op := Op.move (Operand.tmp 6), type := 22, pos := "top01.go:41", after := #[{ on := 14, ground := Ground.guard }], guard := some (14, false) }) rfl (fun K hK => ?_)
    go_simp
    exact hK _ _ ⟨v0, v1, v2, v3, v4, v5, v6, v7, v8, v9, v10, v11, v12, v13, _, v15, v16, v17, v18, v19, v20, v21, v22, v23, .slice a6 n6 c6, v25, v26, v27, v28, v29, v30, v31, v32, v33, v34, rfl, HT.out.put (Ph20_mono ao bo co a5 a6 n cap m cap' l cap2 n5 c5 n6 c6 A B C X5 X6 w) (Below.refl _ _) 24 (by decide) _ rfl⟩
  · have d14 := hi3 _ rfl { on := 14, ground := Ground.guard } (by simp) rfl
    have e14 : v14 = .bool false := HT.out.h 14 (by decide) d14
    subst e14
    clear hi hi1 hi3 d14
    refine wpOp_step (o := { dst := some 224, op := Op.fieldAddr 24 (Operand.tmp 1) 0, type := 0, pos := "top01.go:41", after := #[{ on := 14, ground := Ground.guard }], guard := some (14, false) }) rfl (fun K hK => ?_)
    go_simp
    exact hK _ _ ⟨v0, v1, v2, v3, v4, v5, v6, v7, v8, v9, v10, v11, v12, v13, _, v15, v16, v17, v18, v19, v20, v21, v22, v23, v24, .pointer (some ⟨w.heap.size, 0, none⟩), v26, v27, v28, v29, v30, v31, v32, v33, v34, rfl, HT.out.put (Ph20_mono ao bo co a5 a6 n cap m cap' l cap2 n5 c5 n6 c6 A B C X5 X6 w) (Below.refl _ _) 25 (by decide) _ rfl⟩
  · have d25 := hi3 _ rfl { on := 25, ground := Ground.data } (by simp) rfl
    have d14 := hi3 _ rfl { on := 14, ground := Ground.guard } (by simp) rfl
    have e25 : v25 = .pointer (some ⟨w.heap.size, 0, none⟩) := HT.out.h 25 (by decide) d25
    subst e25
    have e14 : v14 = .bool false := HT.out.h 14 (by decide) d14
    subst e14
    clear hi hi1 hi3 d25 d14
    have l1 := cell_on HT.out.b HKC.out.1
    refine wpOp_step (o := { dst := some 225, op := Op.load 22 (Operand.tmp 224), type := 22, pos := "top01.go:41", after := #[{ on := 25, ground := Ground.data }, { on := 14, ground := Ground.guard }], guard := some (14, false) }) rfl (fun K hK => ?_)
    go_simp
    exact hK _ _ ⟨v0, v1, v2, v3, v4, v5, v6, v7, v8, v9, v10, v11, v12, v13, _, v15, v16, v17, v18, v19, v20, v21, v22, v23, v24, _, .slice ao n cap, v27, v28, v29, v30, v31, v32, v33, v34, rfl, HT.out.put (Ph20_mono ao bo co a5 a6 n cap m cap' l cap2 n5 c5 n6 c6 A B C X5 X6 w) (Below.refl _ _) 26 (by decide) _ rfl⟩
  · have d14 := hi3 _ rfl { on := 14, ground := Ground.guard } (by simp) rfl
    have e14 : v14 = .bool false := HT.out.h 14 (by decide) d14
    subst e14
    clear hi hi1 hi3 d14
    refine wpOp_step (o := { dst := some 226, op := Op.fieldAddr 24 (Operand.tmp 1) 2, type := 0, pos := "top01.go:41", after := #[{ on := 14, ground := Ground.guard }], guard := some (14, false) }) rfl (fun K hK => ?_)
    go_simp
    exact hK _ _ ⟨v0, v1, v2, v3, v4, v5, v6, v7, v8, v9, v10, v11, v12, v13, _, v15, v16, v17, v18, v19, v20, v21, v22, v23, v24, v25, v26, .pointer (some ⟨w.heap.size, 2, none⟩), v28, v29, v30, v31, v32, v33, v34, rfl, HT.out.put (Ph20_mono ao bo co a5 a6 n cap m cap' l cap2 n5 c5 n6 c6 A B C X5 X6 w) (Below.refl _ _) 27 (by decide) _ rfl⟩
  · have d27 := hi3 _ rfl { on := 27, ground := Ground.data } (by simp) rfl
    have d14 := hi3 _ rfl { on := 14, ground := Ground.guard } (by simp) rfl
    have e27 : v27 = .pointer (some ⟨w.heap.size, 2, none⟩) := HT.out.h 27 (by decide) d27
    subst e27
    have e14 : v14 = .bool false := HT.out.h 14 (by decide) d14
    subst e14
    clear hi hi1 hi3 d27 d14
    have l1 := cell_on HT.out.b HKC.out.2.2
    refine wpOp_step (o := { dst := some 227, op := Op.load 22 (Operand.tmp 226), type := 22, pos := "top01.go:41", after := #[{ on := 27, ground := Ground.data }, { on := 14, ground := Ground.guard }], guard := some (14, false) }) rfl (fun K hK => ?_)
    go_simp
    exact hK _ _ ⟨v0, v1, v2, v3, v4, v5, v6, v7, v8, v9, v10, v11, v12, v13, _, v15, v16, v17, v18, v19, v20, v21, v22, v23, v24, v25, v26, _, .slice co l cap2, v29, v30, v31, v32, v33, v34, rfl, HT.out.put (Ph20_mono ao bo co a5 a6 n cap m cap' l cap2 n5 c5 n6 c6 A B C X5 X6 w) (Below.refl _ _) 28 (by decide) _ rfl⟩
  · have d26 := hi3 _ rfl { on := 26, ground := Ground.data } (by simp) rfl
    have d28 := hi3 _ rfl { on := 28, ground := Ground.data } (by simp) rfl
    have d14 := hi3 _ rfl { on := 14, ground := Ground.guard } (by simp) rfl
    have e26 : v26 = .slice ao n cap := HT.out.h 26 (by decide) d26
    subst e26
    have e28 : v28 = .slice co l cap2 := HT.out.h 28 (by decide) d28
    subst e28
    have e14 : v14 = .bool false := HT.out.h 14 (by decide) d14
    subst e14
    clear hi hi1 hi3 d26 d28 d14
    refine wpOp_step (o := { dst := some 228, op := Op.buildSlice 35 2 #[(0, Operand.tmp 225), (1, Operand.tmp 227)], type := 35, pos := "top01.go:41", after := #[{ on := 26, ground := Ground.data }, { on := 28, ground := Ground.data }, { on := 14, ground := Ground.guard }], guard := some (14, false) }) rfl (fun K hK => ?_)
    go_simp
    exact hK _ _ ⟨v0, v1, v2, v3, v4, v5, v6, v7, v8, v9, v10, v11, v12, v13, _, v15, v16, v17, v18, v19, v20, v21, v22, v23, v24, v25, _, v27, _, .slice (some ⟨W.heap.size, 0, none⟩) 2 2, v30, v31, v32, v33, v34, rfl, HT.out.put (Ph20_mono ao bo co a5 a6 n cap m cap' l cap2 n5 c5 n6 c6 A B C X5 X6 w) (below_new _ _) 29 (by decide) _ ⟨_, rfl, World.cell?_alloc_new _ _ _ _, World.cell?_alloc_new _ _ _ _⟩⟩
  · have d29 := hi3 _ rfl { on := 29, ground := Ground.data } (by simp) rfl
    have d14 := hi3 _ rfl { on := 14, ground := Ground.guard } (by simp) rfl
    obtain ⟨g29, e29, C29_0, C29_1⟩ : ∃ g, v29 = .slice (some ⟨g, 0, none⟩) 2 2 ∧ W.cell? ⟨g, 0, none⟩ = some (.slice ao n cap) ∧ W.cell? ⟨g, 1, none⟩ = some (.slice co l cap2) := HT.out.h 29 (by decide) d29
    subst e29
    have HC29_0 := hide C29_0
    have HC29_1 := hide C29_1
    clear C29_0 C29_1
    have e14 : v14 = .bool false := HT.out.h 14 (by decide) d14
    subst e14
    clear hi hi1 hi3 d29 d14
    refine wpOp_step (o := { dst := some 229, op := Op.call { callee := Callee.value (Operand.func 5), args := #[Operand.tmp 228], argTypes := #[35] }, type := 22, pos := "top01.go:41", after := #[{ on := 29, ground := Ground.data }, { on := 23, ground := Ground.chain }, { on := 14, ground := Ground.guard }], guard := some (14, false) }) rfl (fun K hK => ?_)
    go_simp
    go_wp2_with fail
    refine (union_any _ ao co n cap l cap2 A C _ (HSk.out.below HT.out.b) (HTk.out.below HT.out.b) HC29_0.out HC29_1.out (by omega)).mono ?_
    rintro e w' ⟨pa, pn, pc, pL, rfl, pS, pb, pq⟩
    exact hK _ _ ⟨v0, v1, v2, v3, v4, v5, v6, v7, v8, v9, v10, v11, v12, v13, _, v15, v16, v17, v18, v19, v20, v21, v22, v23, v24, v25, v26, v27, v28, _, .slice pa pn pc, v31, v32, v33, v34, rfl, HT.out.put (Ph20_mono ao bo co a5 a6 n cap m cap' l cap2 n5 c5 n6 c6 A B C X5 X6 w) pb 30 (by decide) _ ⟨_, _, _, _, rfl, pS, pq⟩⟩
  · have d24 := hi3 _ rfl { on := 24, ground := Ground.data } (by simp) rfl
    have d30 := hi3 _ rfl { on := 30, ground := Ground.data } (by simp) rfl
    have d14 := hi3 _ rfl { on := 14, ground := Ground.guard } (by simp) rfl
    have e24 : v24 = .slice a6 n6 c6 := HT.out.h 24 (by decide) d24
    subst e24
    obtain ⟨r30a, r30n, r30c, r30L, e30, S30, Q30⟩ : ∃ ra rn rc RL, v30 = .slice ra rn rc ∧ RSrc W ra rn rc RL ∧ (UnionOf A C) RL := HT.out.h 30 (by decide) d30
    subst e30
    have HS30 := hide S30
    have HQ30 := hide Q30
    clear S30 Q30
    have e14 : v14 = .bool false := HT.out.h 14 (by decide) d14
    subst e14
    clear hi hi1 hi3 d24 d30 d14
    refine wpOp_step (o := { dst := some 230, op := Op.call { callee := Callee.value (Operand.func 7), args := #[Operand.tmp 223, Operand.tmp 229], argTypes := #[22, 22] }, type := 22, pos := "top01.go:41", after := #[{ on := 24, ground := Ground.data }, { on := 30, ground := Ground.data }, { on := 30, ground := Ground.chain }, { on := 14, ground := Ground.guard }], guard := some (14, false) }) rfl (fun K hK => ?_)
    go_simp
    go_wp2_with fail
    refine (meet_any a6 r30a n6 c6 r30n r30c X6 r30L _ (HX6.out.below HT.out.b) HS30.out).mono ?_
    rintro e w' ⟨pa, pn, pc, pL, rfl, pS, pb, pq⟩
    exact hK _ _ ⟨v0, v1, v2, v3, v4, v5, v6, v7, v8, v9, v10, v11, v12, v13, _, v15, v16, v17, v18, v19, v20, v21, v22, v23, _, v25, v26, v27, v28, v29, _, .slice pa pn pc, v32, v33, v34, rfl, HT.out.put (Ph20_mono ao bo co a5 a6 n cap m cap' l cap2 n5 c5 n6 c6 A B C X5 X6 w) pb 31 (by decide) _ ⟨_, _, _, _, rfl, pS, ⟨_, HQ30.out, pq⟩⟩⟩
  · have d23 := hi3 _ rfl { on := 23, ground := Ground.data } (by simp) rfl
    have d31 := hi3 _ rfl { on := 31, ground := Ground.data } (by simp) rfl
    have d14 := hi3 _ rfl { on := 14, ground := Ground.guard } (by simp) rfl
    obtain ⟨r23a, r23n, r23c, r23L, e23, S23, Q23⟩ : ∃ ra rn rc RL, v23 = .slice ra rn rc ∧ RSrc W ra rn rc RL ∧ (fun R => ∃ M, MeetOf B C M ∧ UnionOf A M R) RL := HT.out.h 23 (by decide) d23
    subst e23
    have HS23 := hide S23
    have HQ23 := hide Q23
    clear S23 Q23
    obtain ⟨r31a, r31n, r31c, r31L, e31, S31, Q31⟩ : ∃ ra rn rc RL, v31 = .slice ra rn rc ∧ RSrc W ra rn rc RL ∧ (fun R => ∃ N, UnionOf A C N ∧ MeetOf X6 N R) RL := HT.out.h 31 (by decide) d31
    subst e31
    have HS31 := hide S31
    have HQ31 := hide Q31
    clear S31 Q31
    have e14 : v14 = .bool false := HT.out.h 14 (by decide) d14
    subst e14
    clear hi hi1 hi3 d23 d31 d14
    refine wpOp_step (o := { dst := some 231, op := Op.call { callee := Callee.value (Operand.func 4), args := #[Operand.tmp 222, Operand.tmp 230], argTypes := #[22, 22] }, type := 4, pos := "top01.go:41", after := #[{ on := 23, ground := Ground.data }, { on := 31, ground := Ground.data }, { on := 31, ground := Ground.chain }, { on := 14, ground := Ground.guard }], guard := some (14, false) }) rfl (fun K hK => ?_)
    go_simp
    go_wp2_with fail
    refine (same_any r23a r31a r23n r23c r31n r31c r23L r31L _ HS23.out HS31.out ((by obtain ⟨M, hM, hV⟩ := HQ23.out; obtain ⟨N, hN, hW⟩ := HQ31.out; exact law_ud hM hV HP6.out hN hW))).mono ?_
    rintro e w' ⟨rfl, pb⟩
    exact hK _ _ ⟨v0, v1, v2, v3, v4, v5, v6, v7, v8, v9, v10, v11, v12, v13, _, v15, v16, v17, v18, v19, v20, v21, v22, _, v24, v25, v26, v27, v28, v29, v30, _, .bool true, v33, v34, rfl, HT.out.put (Ph20_mono ao bo co a5 a6 n cap m cap' l cap2 n5 c5 n6 c6 A B C X5 X6 w) pb 32 (by decide) _ rfl⟩
  · have d32 := hi3 _ rfl { on := 32, ground := Ground.data } (by simp) rfl
    have d14 := hi3 _ rfl { on := 14, ground := Ground.guard } (by simp) rfl
    have e32 : v32 = .bool true := HT.out.h 32 (by decide) d32
    subst e32
    have e14 : v14 = .bool false := HT.out.h 14 (by decide) d14
    subst e14
    clear hi hi1 hi3 d32 d14
    refine wpOp_step (o := { dst := some 232, op := Op.unOp UnOp.not 4 (Operand.tmp 231), type := 4, pos := "top01.go:41", after := #[{ on := 32, ground := Ground.data }, { on := 14, ground := Ground.guard }], guard := some (14, false) }) rfl (fun K hK => ?_)
    go_simp
    exact hK _ _ ⟨v0, v1, v2, v3, v4, v5, v6, v7, v8, v9, v10, v11, v12, v13, _, v15, v16, v17, v18, v19, v20, v21, v22, v23, v24, v25, v26, v27, v28, v29, v30, v31, _, .bool false, v34, rfl, HT.out.put (Ph20_mono ao bo co a5 a6 n cap m cap' l cap2 n5 c5 n6 c6 A B C X5 X6 w) (Below.refl _ _) 33 (by decide) _ rfl⟩
  · have d14 := hi3 _ rfl { on := 14, ground := Ground.data } (by simp) rfl
    have d33 := hi3 _ rfl { on := 33, ground := Ground.data } (by simp) rfl
    have e14 : v14 = .bool false := HT.out.h 14 (by decide) d14
    subst e14
    have e33 : v33 = .bool false := HT.out.h 33 (by decide) d33
    subst e33
    clear hi hi1 hi3 d14 d33
    refine wpOp_step (o := { dst := some 233, op := Op.pick (Operand.tmp 213) (Operand.const (Value.bool true)) (Operand.tmp 232), type := 4, pos := "top01.go:41", after := #[{ on := 14, ground := Ground.data }, { on := 33, ground := Ground.data }], guard := none }) rfl (fun K hK => ?_)
    go_simp
    exact hK _ _ ⟨v0, v1, v2, v3, v4, v5, v6, v7, v8, v9, v10, v11, v12, v13, _, v15, v16, v17, v18, v19, v20, v21, v22, v23, v24, v25, v26, v27, v28, v29, v30, v31, v32, _, .bool false, rfl, HT.out.put (Ph20_mono ao bo co a5 a6 n cap m cap' l cap2 n5 c5 n6 c6 A B C X5 X6 w) (Below.refl _ _) 34 (by decide) _ rfl⟩
end Go.Proofs.Ythehbnfkobkciaa
