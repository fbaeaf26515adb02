/- PastLattice: the steps of a region that draws its order. -/
import Derived.Test.YtliedjloceckjaaPLh
namespace Go.Proofs.Ytliedjloceckjaa
open Go.RowKit
attribute [local go_sem ↓] ldP_eq stP_eq
attribute [local go_sem] zero_PC cells_PV fold_PC PC_size fold_PC1 fold_PC2 fold_PC3
def Ph15 (a b _ pj pm pd : Pv) (_ : World) (zj zm zd za zb : Int) (_ : World) : Nat → Value → World → Prop
  | 0, x, _ => x = PV pj
  | 1, x, _ => x = .int .i64 zj
  | 2, x, _ => x = PV pm
  | 3, x, _ => x = .int .i64 zm
  | 4, x, _ => x = .int .i64 (zj + zm)
  | 5, x, _ => x = PV a
  | 6, x, _ => x = .int .i64 za
  | 7, x, _ => x = PV b
  | 8, x, _ => x = .int .i64 zb
  | 9, x, _ => x = .int .i64 (za + zb)
  | 10, x, _ => x = .bool false
  | 11, x, _ => x = .bool false
  | 12, x, _ => x = PV pd
  | 13, x, _ => x = .int .i64 zd
  | 14, x, _ => x = PV pm
  | 15, x, _ => x = .int .i64 zm
  | 16, x, _ => x = .int .i64 (zd + zm)
  | 17, x, _ => x = PV a
  | 18, x, _ => x = .int .i64 za
  | 19, x, _ => x = .bool false
  | 20, x, _ => x = .bool false
  | _, _, _ => True
theorem Ph15_mono (a b c pj pm pd : Pv) (w : World) (zj zm zd za zb : Int) (W0 : World) : Mono (Ph15 a b c pj pm pd w zj zm zd za zb W0) := fun i _ _ _ h _ => match i with
  | 0 => h
  | 1 => h
  | 2 => h
  | 3 => h
  | 4 => h
  | 5 => h
  | 6 => h
  | 7 => h
  | 8 => h
  | 9 => h
  | 10 => h
  | 11 => h
  | 12 => h
  | 13 => h
  | 14 => h
  | 15 => h
  | 16 => h
  | 17 => h
  | 18 => h
  | 19 => h
  | 20 => h
  | _ + 21 => trivial
set_option maxRecDepth 100000 in
set_option maxHeartbeats 4000000 in
theorem st15 {a b c pj pm pd : Pv} {dv : Value} {rp ms : Int} {w y13 : World} {ga gb gc gj gm gd : Nat} {zj zm zd za zb : Int} {u100 u101 u102 u103 u104 u105 u106 u107 u108 u109 u110 u111 u112 u113 u12 u13 u14 u15 u151 u152 u153 u154 u155 u156 u157 u158 u159 u16 u160 u161 u162 u163 u164 u165 u166 u167 u168 u169 u17 u170 u171 u172 u173 u174 u175 u176 u177 u178 u179 u18 u180 u181 u182 u183 u184 u185 u19 u20 u21 u22 u23 u24 u25 u26 u27 u28 u29 u30 u31 u32 u33 u34 u35 u36 u37 u38 u39 u40 u41 u42 u43 u44 u45 u46 u47 u48 u49 u50 u51 u52 u53 u54 u55 u56 u57 u58 u59 u60 u61 u62 u63 u64 u65 u66 u67 u68 u69 u70 u71 u72 u73 u74 u75 u76 u77 u78 u79 u80 u81 u82 u83 u84 u85 u86 u87 u88 u89 u90 u91 u92 u93 u94 u95 u96 u97 u98 u99 v13x8 : Value} {p13_11 p13_2 p13_9 : Pv} (HA : Hid (PSrc y13 a)) (HB : Hid (PSrc y13 b)) (HSpj : Hid (PSrc y13 pj)) (HSpm : Hid (PSrc y13 pm)) (HSpd : Hid (PSrc y13 pd)) (HXga : Hid (PBox y13 ga a)) (HXgb : Hid (PBox y13 gb b)) (HXgj : Hid (PBox y13 gj pj)) (HXgm : Hid (PBox y13 gm pm)) (HXgd : Hid (PBox y13 gd pd)) (Hzj : Hid (SzP (mP pj.P) zj)) (Hzm : Hid (SzP (mP pm.P) zm)) (Hzd : Hid (SzP (mP pd.P) zd)) (Hza : Hid (SzP (mP a.P) za)) (Hzb : Hid (SzP (mP b.P) zb)) (HE1 : Hid (zj + zm = za + zb)) (HE2 : Hid (zd + zm = za)) (HZ1 : Hid (0 ≤ zj ∧ zj ≤ 16000000000)) (HZ2 : Hid (0 ≤ zm ∧ zm ≤ 16000000000)) (HZ3 : Hid (0 ≤ za ∧ za ≤ 16000000000)) (HZ4 : Hid (0 ≤ zb ∧ zb ≤ 16000000000)) (HZ5 : Hid (0 ≤ zd ∧ zd ≤ 16000000000)) {Q : Exit → Act → World → Prop} :
    ∀ (l : Array Bool) (x : Act) (W : World), (∃ v15x0 v15x1 v15x2 v15x3 v15x4 v15x5 v15x6 v15x7 v15x8 v15x9 v15x10 v15x11 v15x12 v15x13 v15x14 v15x15 v15x16 v15x17 v15x18 v15x19 v15x20, x = { tmps := #[CaseV a b c dv rp ms, ptr w.heap.size, .bool false, ptr ga, ptr gb, ptr gc, ptr gj, ptr gm, ptr gd, undef, .bool true, .bool false, u12, u13, u14, u15, u16, u17, u18, u19, u20, u21, u22, u23, u24, u25, u26, u27, u28, u29, u30, u31, u32, u33, u34, u35, u36, u37, u38, u39, u40, u41, u42, u43, u44, u45, u46, u47, u48, u49, u50, u51, u52, u53, u54, u55, u56, u57, u58, u59, u60, u61, u62, u63, u64, u65, u66, u67, u68, u69, u70, u71, u72, u73, u74, u75, u76, u77, u78, u79, u80, u81, u82, u83, u84, u85, u86, u87, u88, u89, u90, u91, u92, u93, u94, u95, u96, u97, u98, u99, u100, u101, u102, u103, u104, u105, u106, u107, u108, u109, u110, u111, u112, u113, .bool false, PV pm, PV pd, PV p13_2, .bool true, .bool false, .bool false, PV pm, PV pd, v13x8, PV p13_9, PV a, PV p13_11, .bool true, .bool false, .bool false, v15x0, v15x1, v15x2, v15x3, v15x4, v15x5, v15x6, v15x7, v15x8, v15x9, v15x10, v15x11, v15x12, v15x13, v15x14, v15x15, v15x16, v15x17, v15x18, v15x19, v15x20, u151, u152, u153, u154, u155, u156, u157, u158, u159, u160, u161, u162, u163, u164, u165, u166, u167, u168, u169, u170, u171, u172, u173, u174, u175, u176, u177, u178, u179, u180, u181, u182, u183, u184, u185], defers := [] } ∧ BI 21 28 y13 (Ph15 a b c pj pm pd w zj zm zd za zb y13) [] [] [] l W [v15x0, v15x1, v15x2, v15x3, v15x4, v15x5, v15x6, v15x7, v15x8, v15x9, v15x10, v15x11, v15x12, v15x13, v15x14, v15x15, v15x16, v15x17, v15x18, v15x19, v15x20]) → ∀ i, i ∈ Region.ready .any #[{ dst := some 130, op := Op.load 25 (Operand.tmp 6), type := 25, pos := "law.go:204", after := #[], guard := none }, { dst := some 131, op := Op.call { callee := Callee.value (Operand.func 12), args := #[Operand.tmp 130], argTypes := #[25] }, type := 3, pos := "law.go:204", after := #[{ on := 0, ground := Ground.data }], guard := none }, { dst := some 132, op := Op.load 25 (Operand.tmp 7), type := 25, pos := "law.go:204", after := #[], guard := none }, { dst := some 133, op := Op.call { callee := Callee.value (Operand.func 12), args := #[Operand.tmp 132], argTypes := #[25] }, type := 3, pos := "law.go:204", after := #[{ on := 2, ground := Ground.data }, { on := 1, ground := Ground.chain }], guard := none }, { dst := some 134, op := Op.binOp BinOp.add 3 (Operand.tmp 131) (Operand.tmp 133) 3, type := 3, pos := "law.go:204", after := #[{ on := 1, ground := Ground.data }, { on := 3, ground := Ground.data }], guard := none }, { dst := some 135, op := Op.load 25 (Operand.tmp 3), type := 25, pos := "law.go:204", after := #[], guard := none }, { dst := some 136, op := Op.call { callee := Callee.value (Operand.func 12), args := #[Operand.tmp 135], argTypes := #[25] }, type := 3, pos := "law.go:204", after := #[{ on := 5, ground := Ground.data }, { on := 3, ground := Ground.chain }], guard := none }, { dst := some 137, op := Op.load 25 (Operand.tmp 4), type := 25, pos := "law.go:204", after := #[], guard := none }, { dst := some 138, op := Op.call { callee := Callee.value (Operand.func 12), args := #[Operand.tmp 137], argTypes := #[25] }, type := 3, pos := "law.go:204", after := #[{ on := 7, ground := Ground.data }, { on := 6, ground := Ground.chain }], guard := none }, { dst := some 139, op := Op.binOp BinOp.add 3 (Operand.tmp 136) (Operand.tmp 138) 3, type := 3, pos := "law.go:204", after := #[{ on := 6, ground := Ground.data }, { on := 8, ground := Ground.data }], guard := none }, { dst := some 140, op := Op.binOp BinOp.neq 3 (Operand.tmp 134) (Operand.tmp 139) 3, type := 4, pos := "law.go:204", after := #[{ on := 4, ground := Ground.data }, { on := 9, ground := Ground.data }], guard := none }, { dst := some 141, op := Op.move (Operand.tmp 140), type := 4, pos := "law.go:204", after := #[{ on := 10, ground := Ground.data }, { on := 8, ground := Ground.chain }], guard := none }, { dst := some 142, op := Op.load 25 (Operand.tmp 8), type := 25, pos := "law.go:204", after := #[{ on := 11, ground := Ground.guard }], guard := some (11, false) }, { dst := some 143, op := Op.call { callee := Callee.value (Operand.func 12), args := #[Operand.tmp 142], argTypes := #[25] }, type := 3, pos := "law.go:204", after := #[{ on := 12, ground := Ground.data }, { on := 11, ground := Ground.chain }, { on := 11, ground := Ground.guard }], guard := some (11, false) }, { dst := some 144, op := Op.load 25 (Operand.tmp 7), type := 25, pos := "law.go:204", after := #[{ on := 11, ground := Ground.guard }], guard := some (11, false) }, { dst := some 145, op := Op.call { callee := Callee.value (Operand.func 12), args := #[Operand.tmp 144], argTypes := #[25] }, type := 3, pos := "law.go:204", after := #[{ on := 14, ground := Ground.data }, { on := 13, ground := Ground.chain }, { on := 11, ground := Ground.guard }], guard := some (11, false) }, { dst := some 146, op := Op.binOp BinOp.add 3 (Operand.tmp 143) (Operand.tmp 145) 3, type := 3, pos := "law.go:204", after := #[{ on := 13, ground := Ground.data }, { on := 15, ground := Ground.data }, { on := 11, ground := Ground.guard }], guard := some (11, false) }, { dst := some 147, op := Op.load 25 (Operand.tmp 3), type := 25, pos := "law.go:204", after := #[{ on := 11, ground := Ground.guard }], guard := some (11, false) }, { dst := some 148, op := Op.call { callee := Callee.value (Operand.func 12), args := #[Operand.tmp 147], argTypes := #[25] }, type := 3, pos := "law.go:204", after := #[{ on := 17, ground := Ground.data }, { on := 15, ground := Ground.chain }, { on := 11, ground := Ground.guard }], guard := some (11, false) }, { dst := some 149, op := Op.binOp BinOp.neq 3 (Operand.tmp 146) (Operand.tmp 148) 3, type := 4, pos := "law.go:204", after := #[{ on := 16, ground := Ground.data }, { on := 18, ground := Ground.data }, { on := 11, ground := Ground.guard }], guard := some (11, false) }, { dst := some 150, op := Op.pick (Operand.tmp 141) (Operand.const (Value.bool true)) (Operand.tmp 149), type := 4, pos := "law.go:204", after := #[{ on := 11, ground := Ground.data }, { on := 19, ground := Ground.data }], guard := none }] l → wpOp Try.prog #[{ dst := some 130, op := Op.load 25 (Operand.tmp 6), type := 25, pos := "law.go:204", after := #[], guard := none }, { dst := some 131, op := Op.call { callee := Callee.value (Operand.func 12), args := #[Operand.tmp 130], argTypes := #[25] }, type := 3, pos := "law.go:204", after := #[{ on := 0, ground := Ground.data }], guard := none }, { dst := some 132, op := Op.load 25 (Operand.tmp 7), type := 25, pos := "law.go:204", after := #[], guard := none }, { dst := some 133, op := Op.call { callee := Callee.value (Operand.func 12), args := #[Operand.tmp 132], argTypes := #[25] }, type := 3, pos := "law.go:204", after := #[{ on := 2, ground := Ground.data }, { on := 1, ground := Ground.chain }], guard := none }, { dst := some 134, op := Op.binOp BinOp.add 3 (Operand.tmp 131) (Operand.tmp 133) 3, type := 3, pos := "law.go:204", after := #[{ on := 1, ground := Ground.data }, { on := 3, ground := Ground.data }], guard := none }, { dst := some 135, op := Op.load 25 (Operand.tmp 3), type := 25, pos := "law.go:204", after := #[], guard := none }, { dst := some 136, op := Op.call { callee := Callee.value (Operand.func 12), args := #[Operand.tmp 135], argTypes := #[25] }, type := 3, pos := "law.go:204", after := #[{ on := 5, ground := Ground.data }, { on := 3, ground := Ground.chain }], guard := none }, { dst := some 137, op := Op.load 25 (Operand.tmp 4), type := 25, pos := "law.go:204", after := #[], guard := none }, { dst := some 138, op := Op.call { callee := Callee.value (Operand.func 12), args := #[Operand.tmp 137], argTypes := #[25] }, type := 3, pos := "law.go:204", after := #[{ on := 7, ground := Ground.data }, { on := 6, ground := Ground.chain }], guard := none }, { dst := some 139, op := Op.binOp BinOp.add 3 (Operand.tmp 136) (Operand.tmp 138) 3, type := 3, pos := "law.go:204", after := #[{ on := 6, ground := Ground.data }, { on := 8, ground := Ground.data }], guard := none }, { dst := some 140, op := Op.binOp BinOp.neq 3 (Operand.tmp 134) (Operand.tmp 139) 3, type := 4, pos := "law.go:204", after := #[{ on := 4, ground := Ground.data }, { on := 9, ground := Ground.data }], guard := none }, { dst := some 141, op := Op.move (Operand.tmp 140), type := 4, pos := "law.go:204", after := #[{ on := 10, ground := Ground.data }, { on := 8, ground := Ground.chain }], guard := none }, { dst := some 142, op := Op.load 25 (Operand.tmp 8), type := 25, pos := "law.go:204", after := #[{ on := 11, ground := Ground.guard }], guard := some (11, false) }, { dst := some 143, op := Op.call { callee := Callee.value (Operand.func 12), args := #[Operand.tmp 142], argTypes := #[25] }, type := 3, pos := "law.go:204", after := #[{ on := 12, ground := Ground.data }, { on := 11, ground := Ground.chain }, { on := 11, ground := Ground.guard }], guard := some (11, false) }, { dst := some 144, op := Op.load 25 (Operand.tmp 7), type := 25, pos := "law.go:204", after := #[{ on := 11, ground := Ground.guard }], guard := some (11, false) }, { dst := some 145, op := Op.call { callee := Callee.value (Operand.func 12), args := #[Operand.tmp 144], argTypes := #[25] }, type := 3, pos := "law.go:204", after := #[{ on := 14, ground := Ground.data }, { on := 13, ground := Ground.chain }, { on := 11, ground := Ground.guard }], guard := some (11, false) }, { dst := some 146, op := Op.binOp BinOp.add 3 (Operand.tmp 143) (Operand.tmp 145) 3, type := 3, pos := "law.go:204", after := #[{ on := 13, ground := Ground.data }, { on := 15, ground := Ground.data }, { on := 11, ground := Ground.guard }], guard := some (11, false) }, { dst := some 147, op := Op.load 25 (Operand.tmp 3), type := 25, pos := "law.go:204", after := #[{ on := 11, ground := Ground.guard }], guard := some (11, false) }, { dst := some 148, op := Op.call { callee := Callee.value (Operand.func 12), args := #[Operand.tmp 147], argTypes := #[25] }, type := 3, pos := "law.go:204", after := #[{ on := 17, ground := Ground.data }, { on := 15, ground := Ground.chain }, { on := 11, ground := Ground.guard }], guard := some (11, false) }, { dst := some 149, op := Op.binOp BinOp.neq 3 (Operand.tmp 146) (Operand.tmp 148) 3, type := 4, pos := "law.go:204", after := #[{ on := 16, ground := Ground.data }, { on := 18, ground := Ground.data }, { on := 11, ground := Ground.guard }], guard := some (11, false) }, { dst := some 150, op := Op.pick (Operand.tmp 141) (Operand.const (Value.bool true)) (Operand.tmp 149), type := 4, pos := "law.go:204", after := #[{ on := 11, ground := Ground.data }, { on := 19, ground := Ground.data }], guard := none }] Q i (fun a' w' => ∃ v15x0 v15x1 v15x2 v15x3 v15x4 v15x5 v15x6 v15x7 v15x8 v15x9 v15x10 v15x11 v15x12 v15x13 v15x14 v15x15 v15x16 v15x17 v15x18 v15x19 v15x20, a' = { tmps := #[CaseV a b c dv rp ms, ptr w.heap.size, .bool false, ptr ga, ptr gb, ptr gc, ptr gj, ptr gm, ptr gd, undef, .bool true, .bool false, u12, u13, u14, u15, u16, u17, u18, u19, u20, u21, u22, u23, u24, u25, u26, u27, u28, u29, u30, u31, u32, u33, u34, u35, u36, u37, u38, u39, u40, u41, u42, u43, u44, u45, u46, u47, u48, u49, u50, u51, u52, u53, u54, u55, u56, u57, u58, u59, u60, u61, u62, u63, u64, u65, u66, u67, u68, u69, u70, u71, u72, u73, u74, u75, u76, u77, u78, u79, u80, u81, u82, u83, u84, u85, u86, u87, u88, u89, u90, u91, u92, u93, u94, u95, u96, u97, u98, u99, u100, u101, u102, u103, u104, u105, u106, u107, u108, u109, u110, u111, u112, u113, .bool false, PV pm, PV pd, PV p13_2, .bool true, .bool false, .bool false, PV pm, PV pd, v13x8, PV p13_9, PV a, PV p13_11, .bool true, .bool false, .bool false, v15x0, v15x1, v15x2, v15x3, v15x4, v15x5, v15x6, v15x7, v15x8, v15x9, v15x10, v15x11, v15x12, v15x13, v15x14, v15x15, v15x16, v15x17, v15x18, v15x19, v15x20, u151, u152, u153, u154, u155, u156, u157, u158, u159, u160, u161, u162, u163, u164, u165, u166, u167, u168, u169, u170, u171, u172, u173, u174, u175, u176, u177, u178, u179, u180, u181, u182, u183, u184, u185], defers := [] } ∧ BI 21 28 y13 (Ph15 a b c pj pm pd w zj zm zd za zb y13) [] [] [] (l.setIfInBounds i true) w' [v15x0, v15x1, v15x2, v15x3, v15x4, v15x5, v15x6, v15x7, v15x8, v15x9, v15x10, v15x11, v15x12, v15x13, v15x14, v15x15, v15x16, v15x17, v15x18, v15x19, v15x20]) x W := by
  rintro l x W ⟨v15x0, v15x1, v15x2, v15x3, v15x4, v15x5, v15x6, v15x7, v15x8, v15x9, v15x10, v15x11, v15x12, v15x13, v15x14, v15x15, v15x16, v15x17, v15x18, v15x19, v15x20, rfl, T⟩ i hi
  obtain ⟨hi1, hi2, hi3⟩ := ready_mem hi
  have hi4 := no_true hi2
  have hc : i = 0 ∨ i = 1 ∨ i = 2 ∨ i = 3 ∨ i = 4 ∨ i = 5 ∨ i = 6 ∨ i = 7 ∨ i = 8 ∨ i = 9 ∨ i = 10 ∨ i = 11 ∨ i = 12 ∨ i = 13 ∨ i = 14 ∨ i = 15 ∨ i = 16 ∨ i = 17 ∨ i = 18 ∨ i = 19 ∨ i = 20 := by have h : i < 21 := hi1; omega
  have HT := hide T
  clear T
  rcases hc with rfl | rfl | rfl | rfl | rfl | rfl | rfl | rfl | rfl | rfl | rfl | rfl | rfl | rfl | rfl | rfl | rfl | rfl | rfl | rfl | rfl
  · have HL := hide hi4
    clear hi hi1 hi2 hi3 hi4
    have l1 := run_ldP (HXgj.out.below HT.out.b).at
    refine wpOp_step (o := { dst := some 130, op := Op.load 25 (Operand.tmp 6), type := 25, pos := "law.go:204", after := #[], guard := none }) rfl (fun K hK => ?_)
    go_simp
    exact hK _ _ ⟨PV pj, v15x1, v15x2, v15x3, v15x4, v15x5, v15x6, v15x7, v15x8, v15x9, v15x10, v15x11, v15x12, v15x13, v15x14, v15x15, v15x16, v15x17, v15x18, v15x19, v15x20, rfl, HT.out.plain (Ph15_mono a b c pj pm pd w zj zm zd za zb y13) (Below.refl _ _) 0 (by decide) HL.out _ rfl (by simp) (by simp) (by decide)⟩
  · have d0 := hi3 _ rfl { on := 0, ground := Ground.data } (by simp) rfl
    have e0 : v15x0 = PV pj := HT.out.h 0 (by decide) d0 (fun hm => absurd hm (by decide))
    subst e0
    have HL := hide hi4
    clear hi hi1 hi2 hi3 hi4 d0
    refine wpOp_step (o := { dst := some 131, op := Op.call { callee := Callee.value (Operand.func 12), args := #[Operand.tmp 130], argTypes := #[25] }, type := 3, pos := "law.go:204", after := #[{ on := 0, ground := Ground.data }], guard := none }) rfl (fun K hK => ?_)
    go_simp
    go_wp2_with fail
    refine (pastSize_any pj _ (HSpj.out.below HT.out.b)).mono ?_
    rintro e w' ⟨z, rfl, hz, pb⟩
    obtain rfl : zj = z := ((szP_of hz).unique Hzj.out (fun _ _ _ => Iff.rfl)).symm
    exact hK _ _ ⟨_, .int .i64 zj, v15x2, v15x3, v15x4, v15x5, v15x6, v15x7, v15x8, v15x9, v15x10, v15x11, v15x12, v15x13, v15x14, v15x15, v15x16, v15x17, v15x18, v15x19, v15x20, rfl, HT.out.plain (Ph15_mono a b c pj pm pd w zj zm zd za zb y13) pb 1 (by decide) HL.out _ rfl (by simp) (by simp) (by decide)⟩
  · have HL := hide hi4
    clear hi hi1 hi2 hi3 hi4
    have l1 := run_ldP (HXgm.out.below HT.out.b).at
    refine wpOp_step (o := { dst := some 132, op := Op.load 25 (Operand.tmp 7), type := 25, pos := "law.go:204", after := #[], guard := none }) rfl (fun K hK => ?_)
    go_simp
    exact hK _ _ ⟨v15x0, v15x1, PV pm, v15x3, v15x4, v15x5, v15x6, v15x7, v15x8, v15x9, v15x10, v15x11, v15x12, v15x13, v15x14, v15x15, v15x16, v15x17, v15x18, v15x19, v15x20, rfl, HT.out.plain (Ph15_mono a b c pj pm pd w zj zm zd za zb y13) (Below.refl _ _) 2 (by decide) HL.out _ rfl (by simp) (by simp) (by decide)⟩
  · have d2 := hi3 _ rfl { on := 2, ground := Ground.data } (by simp) rfl
    have e2 : v15x2 = PV pm := HT.out.h 2 (by decide) d2 (fun hm => absurd hm (by decide))
    subst e2
    have HL := hide hi4
    clear hi hi1 hi2 hi3 hi4 d2
    refine wpOp_step (o := { dst := some 133, op := Op.call { callee := Callee.value (Operand.func 12), args := #[Operand.tmp 132], argTypes := #[25] }, type := 3, pos := "law.go:204", after := #[{ on := 2, ground := Ground.data }, { on := 1, ground := Ground.chain }], guard := none }) rfl (fun K hK => ?_)
    go_simp
    go_wp2_with fail
    refine (pastSize_any pm _ (HSpm.out.below HT.out.b)).mono ?_
    rintro e w' ⟨z, rfl, hz, pb⟩
    obtain rfl : zm = z := ((szP_of hz).unique Hzm.out (fun _ _ _ => Iff.rfl)).symm
    exact hK _ _ ⟨v15x0, v15x1, _, .int .i64 zm, v15x4, v15x5, v15x6, v15x7, v15x8, v15x9, v15x10, v15x11, v15x12, v15x13, v15x14, v15x15, v15x16, v15x17, v15x18, v15x19, v15x20, rfl, HT.out.plain (Ph15_mono a b c pj pm pd w zj zm zd za zb y13) pb 3 (by decide) HL.out _ rfl (by simp) (by simp) (by decide)⟩
  · have d1 := hi3 _ rfl { on := 1, ground := Ground.data } (by simp) rfl
    have d3 := hi3 _ rfl { on := 3, ground := Ground.data } (by simp) rfl
    have e1 : v15x1 = .int .i64 zj := HT.out.h 1 (by decide) d1 (fun hm => absurd hm (by decide))
    subst e1
    have e3 : v15x3 = .int .i64 zm := HT.out.h 3 (by decide) d3 (fun hm => absurd hm (by decide))
    subst e3
    have HL := hide hi4
    clear hi hi1 hi2 hi3 hi4 d1 d3
    have wr : IntKind.i64.wrap (zj + zm) = zj + zm := by have h1 := HZ1.out; have h2 := HZ2.out; have h3 := HZ3.out; have h4 := HZ4.out; have h5 := HZ5.out; rw [IntKind.wrap_i64]; omega
    refine wpOp_step (o := { dst := some 134, op := Op.binOp BinOp.add 3 (Operand.tmp 131) (Operand.tmp 133) 3, type := 3, pos := "law.go:204", after := #[{ on := 1, ground := Ground.data }, { on := 3, ground := Ground.data }], guard := none }) rfl (fun K hK => ?_)
    go_simp
    exact hK _ _ ⟨v15x0, _, v15x2, _, .int .i64 (zj + zm), v15x5, v15x6, v15x7, v15x8, v15x9, v15x10, v15x11, v15x12, v15x13, v15x14, v15x15, v15x16, v15x17, v15x18, v15x19, v15x20, rfl, HT.out.plain (Ph15_mono a b c pj pm pd w zj zm zd za zb y13) (Below.refl _ _) 4 (by decide) HL.out _ rfl (by simp) (by simp) (by decide)⟩
  · have HL := hide hi4
    clear hi hi1 hi2 hi3 hi4
    have l1 := run_ldP (HXga.out.below HT.out.b).at
    refine wpOp_step (o := { dst := some 135, op := Op.load 25 (Operand.tmp 3), type := 25, pos := "law.go:204", after := #[], guard := none }) rfl (fun K hK => ?_)
    go_simp
    exact hK _ _ ⟨v15x0, v15x1, v15x2, v15x3, v15x4, PV a, v15x6, v15x7, v15x8, v15x9, v15x10, v15x11, v15x12, v15x13, v15x14, v15x15, v15x16, v15x17, v15x18, v15x19, v15x20, rfl, HT.out.plain (Ph15_mono a b c pj pm pd w zj zm zd za zb y13) (Below.refl _ _) 5 (by decide) HL.out _ rfl (by simp) (by simp) (by decide)⟩
  · have d5 := hi3 _ rfl { on := 5, ground := Ground.data } (by simp) rfl
    have e5 : v15x5 = PV a := HT.out.h 5 (by decide) d5 (fun hm => absurd hm (by decide))
    subst e5
    have HL := hide hi4
    clear hi hi1 hi2 hi3 hi4 d5
    refine wpOp_step (o := { dst := some 136, op := Op.call { callee := Callee.value (Operand.func 12), args := #[Operand.tmp 135], argTypes := #[25] }, type := 3, pos := "law.go:204", after := #[{ on := 5, ground := Ground.data }, { on := 3, ground := Ground.chain }], guard := none }) rfl (fun K hK => ?_)
    go_simp
    go_wp2_with fail
    refine (pastSize_any a _ (HA.out.below HT.out.b)).mono ?_
    rintro e w' ⟨z, rfl, hz, pb⟩
    obtain rfl : za = z := ((szP_of hz).unique Hza.out (fun _ _ _ => Iff.rfl)).symm
    exact hK _ _ ⟨v15x0, v15x1, v15x2, v15x3, v15x4, _, .int .i64 za, v15x7, v15x8, v15x9, v15x10, v15x11, v15x12, v15x13, v15x14, v15x15, v15x16, v15x17, v15x18, v15x19, v15x20, rfl, HT.out.plain (Ph15_mono a b c pj pm pd w zj zm zd za zb y13) pb 6 (by decide) HL.out _ rfl (by simp) (by simp) (by decide)⟩
  · have HL := hide hi4
    clear hi hi1 hi2 hi3 hi4
    have l1 := run_ldP (HXgb.out.below HT.out.b).at
    refine wpOp_step (o := { dst := some 137, op := Op.load 25 (Operand.tmp 4), type := 25, pos := "law.go:204", after := #[], guard := none }) rfl (fun K hK => ?_)
    go_simp
    exact hK _ _ ⟨v15x0, v15x1, v15x2, v15x3, v15x4, v15x5, v15x6, PV b, v15x8, v15x9, v15x10, v15x11, v15x12, v15x13, v15x14, v15x15, v15x16, v15x17, v15x18, v15x19, v15x20, rfl, HT.out.plain (Ph15_mono a b c pj pm pd w zj zm zd za zb y13) (Below.refl _ _) 7 (by decide) HL.out _ rfl (by simp) (by simp) (by decide)⟩
  · have d7 := hi3 _ rfl { on := 7, ground := Ground.data } (by simp) rfl
    have e7 : v15x7 = PV b := HT.out.h 7 (by decide) d7 (fun hm => absurd hm (by decide))
    subst e7
    have HL := hide hi4
    clear hi hi1 hi2 hi3 hi4 d7
    refine wpOp_step (o := { dst := some 138, op := Op.call { callee := Callee.value (Operand.func 12), args := #[Operand.tmp 137], argTypes := #[25] }, type := 3, pos := "law.go:204", after := #[{ on := 7, ground := Ground.data }, { on := 6, ground := Ground.chain }], guard := none }) rfl (fun K hK => ?_)
    go_simp
    go_wp2_with fail
    refine (pastSize_any b _ (HB.out.below HT.out.b)).mono ?_
    rintro e w' ⟨z, rfl, hz, pb⟩
    obtain rfl : zb = z := ((szP_of hz).unique Hzb.out (fun _ _ _ => Iff.rfl)).symm
    exact hK _ _ ⟨v15x0, v15x1, v15x2, v15x3, v15x4, v15x5, v15x6, _, .int .i64 zb, v15x9, v15x10, v15x11, v15x12, v15x13, v15x14, v15x15, v15x16, v15x17, v15x18, v15x19, v15x20, rfl, HT.out.plain (Ph15_mono a b c pj pm pd w zj zm zd za zb y13) pb 8 (by decide) HL.out _ rfl (by simp) (by simp) (by decide)⟩
  · have d6 := hi3 _ rfl { on := 6, ground := Ground.data } (by simp) rfl
    have d8 := hi3 _ rfl { on := 8, ground := Ground.data } (by simp) rfl
    have e6 : v15x6 = .int .i64 za := HT.out.h 6 (by decide) d6 (fun hm => absurd hm (by decide))
    subst e6
    have e8 : v15x8 = .int .i64 zb := HT.out.h 8 (by decide) d8 (fun hm => absurd hm (by decide))
    subst e8
    have HL := hide hi4
    clear hi hi1 hi2 hi3 hi4 d6 d8
    have wr : IntKind.i64.wrap (za + zb) = za + zb := by have h1 := HZ1.out; have h2 := HZ2.out; have h3 := HZ3.out; have h4 := HZ4.out; have h5 := HZ5.out; rw [IntKind.wrap_i64]; omega
    refine wpOp_step (o := { dst := some 139, op := Op.binOp BinOp.add 3 (Operand.tmp 136) (Operand.tmp 138) 3, type := 3, pos := "law.go:204", after := #[{ on := 6, ground := Ground.data }, { on := 8, ground := Ground.data }], guard := none }) rfl (fun K hK => ?_)
    go_simp
    exact hK _ _ ⟨v15x0, v15x1, v15x2, v15x3, v15x4, v15x5, _, v15x7, _, .int .i64 (za + zb), v15x10, v15x11, v15x12, v15x13, v15x14, v15x15, v15x16, v15x17, v15x18, v15x19, v15x20, rfl, HT.out.plain (Ph15_mono a b c pj pm pd w zj zm zd za zb y13) (Below.refl _ _) 9 (by decide) HL.out _ rfl (by simp) (by simp) (by decide)⟩
  · have d4 := hi3 _ rfl { on := 4, ground := Ground.data } (by simp) rfl
    have d9 := hi3 _ rfl { on := 9, ground := Ground.data } (by simp) rfl
    have e4 : v15x4 = .int .i64 (zj + zm) := HT.out.h 4 (by decide) d4 (fun hm => absurd hm (by decide))
    subst e4
    have e9 : v15x9 = .int .i64 (za + zb) := HT.out.h 9 (by decide) d9 (fun hm => absurd hm (by decide))
    subst e9
    have HL := hide hi4
    clear hi hi1 hi2 hi3 hi4 d4 d9
    have hne : (zj + zm != za + zb) = false := by rw [HE1.out]; simp
    refine wpOp_step (o := { dst := some 140, op := Op.binOp BinOp.neq 3 (Operand.tmp 134) (Operand.tmp 139) 3, type := 4, pos := "law.go:204", after := #[{ on := 4, ground := Ground.data }, { on := 9, ground := Ground.data }], guard := none }) rfl (fun K hK => ?_)
    go_simp
    exact hK _ _ ⟨v15x0, v15x1, v15x2, v15x3, _, v15x5, v15x6, v15x7, v15x8, _, .bool false, v15x11, v15x12, v15x13, v15x14, v15x15, v15x16, v15x17, v15x18, v15x19, v15x20, rfl, HT.out.plain (Ph15_mono a b c pj pm pd w zj zm zd za zb y13) (Below.refl _ _) 10 (by decide) HL.out _ rfl (by simp) (by simp) (by decide)⟩
  · have d10 := hi3 _ rfl { on := 10, ground := Ground.data } (by simp) rfl
    have e10 : v15x10 = .bool false := HT.out.h 10 (by decide) d10 (fun hm => absurd hm (by decide))
    subst e10
    have HL := hide hi4
    clear hi hi1 hi2 hi3 hi4 d10
    refine wpOp_step (o := { dst := some 141, op := Op.move (Operand.tmp 140), type := 4, pos := "law.go:204", after := #[{ on := 10, ground := Ground.data }, { on := 8, ground := Ground.chain }], guard := none }) rfl (fun K hK => ?_)
    go_simp
    exact hK _ _ ⟨v15x0, v15x1, v15x2, v15x3, v15x4, v15x5, v15x6, v15x7, v15x8, v15x9, _, .bool false, v15x12, v15x13, v15x14, v15x15, v15x16, v15x17, v15x18, v15x19, v15x20, rfl, HT.out.plain (Ph15_mono a b c pj pm pd w zj zm zd za zb y13) (Below.refl _ _) 11 (by decide) HL.out _ rfl (by simp) (by simp) (by decide)⟩
  · have d11 := hi3 _ rfl { on := 11, ground := Ground.guard } (by simp) rfl
    have e11 : v15x11 = .bool false := HT.out.h 11 (by decide) d11 (fun hm => absurd hm (by decide))
    subst e11
    have HL := hide hi4
    clear hi hi1 hi2 hi3 hi4 d11
    have l1 := run_ldP (HXgd.out.below HT.out.b).at
    refine wpOp_step (o := { dst := some 142, op := Op.load 25 (Operand.tmp 8), type := 25, pos := "law.go:204", after := #[{ on := 11, ground := Ground.guard }], guard := some (11, false) }) rfl (fun K hK => ?_)
    go_simp
    exact hK _ _ ⟨v15x0, v15x1, v15x2, v15x3, v15x4, v15x5, v15x6, v15x7, v15x8, v15x9, v15x10, _, PV pd, v15x13, v15x14, v15x15, v15x16, v15x17, v15x18, v15x19, v15x20, rfl, HT.out.plain (Ph15_mono a b c pj pm pd w zj zm zd za zb y13) (Below.refl _ _) 12 (by decide) HL.out _ rfl (by simp) (by simp) (by decide)⟩
  · have d12 := hi3 _ rfl { on := 12, ground := Ground.data } (by simp) rfl
    have d11 := hi3 _ rfl { on := 11, ground := Ground.chain } (by simp) rfl
    have e12 : v15x12 = PV pd := HT.out.h 12 (by decide) d12 (fun hm => absurd hm (by decide))
    subst e12
    have e11 : v15x11 = .bool false := HT.out.h 11 (by decide) d11 (fun hm => absurd hm (by decide))
    subst e11
    have HL := hide hi4
    clear hi hi1 hi2 hi3 hi4 d12 d11
    refine wpOp_step (o := { dst := some 143, op := Op.call { callee := Callee.value (Operand.func 12), args := #[Operand.tmp 142], argTypes := #[25] }, type := 3, pos := "law.go:204", after := #[{ on := 12, ground := Ground.data }, { on := 11, ground := Ground.chain }, { on := 11, ground := Ground.guard }], guard := some (11, false) }) rfl (fun K hK => ?_)
    go_simp
    go_wp2_with fail
    refine (pastSize_any pd _ (HSpd.out.below HT.out.b)).mono ?_
    rintro e w' ⟨z, rfl, hz, pb⟩
    obtain rfl : zd = z := ((szP_of hz).unique Hzd.out (fun _ _ _ => Iff.rfl)).symm
    exact hK _ _ ⟨v15x0, v15x1, v15x2, v15x3, v15x4, v15x5, v15x6, v15x7, v15x8, v15x9, v15x10, _, _, .int .i64 zd, v15x14, v15x15, v15x16, v15x17, v15x18, v15x19, v15x20, rfl, HT.out.plain (Ph15_mono a b c pj pm pd w zj zm zd za zb y13) pb 13 (by decide) HL.out _ rfl (by simp) (by simp) (by decide)⟩
  · have d11 := hi3 _ rfl { on := 11, ground := Ground.guard } (by simp) rfl
    have e11 : v15x11 = .bool false := HT.out.h 11 (by decide) d11 (fun hm => absurd hm (by decide))
    subst e11
    have HL := hide hi4
    clear hi hi1 hi2 hi3 hi4 d11
    have l1 := run_ldP (HXgm.out.below HT.out.b).at
    refine wpOp_step (o := { dst := some 144, op := Op.load 25 (Operand.tmp 7), type := 25, pos := "law.go:204", after := #[{ on := 11, ground := Ground.guard }], guard := some (11, false) }) rfl (fun K hK => ?_)
    go_simp
    exact hK _ _ ⟨v15x0, v15x1, v15x2, v15x3, v15x4, v15x5, v15x6, v15x7, v15x8, v15x9, v15x10, _, v15x12, v15x13, PV pm, v15x15, v15x16, v15x17, v15x18, v15x19, v15x20, rfl, HT.out.plain (Ph15_mono a b c pj pm pd w zj zm zd za zb y13) (Below.refl _ _) 14 (by decide) HL.out _ rfl (by simp) (by simp) (by decide)⟩
  · have d14 := hi3 _ rfl { on := 14, ground := Ground.data } (by simp) rfl
    have d11 := hi3 _ rfl { on := 11, ground := Ground.guard } (by simp) rfl
    have e14 : v15x14 = PV pm := HT.out.h 14 (by decide) d14 (fun hm => absurd hm (by decide))
    subst e14
    have e11 : v15x11 = .bool false := HT.out.h 11 (by decide) d11 (fun hm => absurd hm (by decide))
    subst e11
    have HL := hide hi4
    clear hi hi1 hi2 hi3 hi4 d14 d11
    refine wpOp_step (o := { dst := some 145, op := Op.call { callee := Callee.value (Operand.func 12), args := #[Operand.tmp 144], argTypes := #[25] }, type := 3, pos := "law.go:204", after := #[{ on := 14, ground := Ground.data }, { on := 13, ground := Ground.chain }, { on := 11, ground := Ground.guard }], guard := some (11, false) }) rfl (fun K hK => ?_)
    go_simp
    go_wp2_with fail
    refine (pastSize_any pm _ (HSpm.out.below HT.out.b)).mono ?_
    rintro e w' ⟨z, rfl, hz, pb⟩
    obtain rfl : zm = z := ((szP_of hz).unique Hzm.out (fun _ _ _ => Iff.rfl)).symm
    exact hK _ _ ⟨v15x0, v15x1, v15x2, v15x3, v15x4, v15x5, v15x6, v15x7, v15x8, v15x9, v15x10, _, v15x12, v15x13, _, .int .i64 zm, v15x16, v15x17, v15x18, v15x19, v15x20, rfl, HT.out.plain (Ph15_mono a b c pj pm pd w zj zm zd za zb y13) pb 15 (by decide) HL.out _ rfl (by simp) (by simp) (by decide)⟩
  · have d13 := hi3 _ rfl { on := 13, ground := Ground.data } (by simp) rfl
    have d15 := hi3 _ rfl { on := 15, ground := Ground.data } (by simp) rfl
    have d11 := hi3 _ rfl { on := 11, ground := Ground.guard } (by simp) rfl
    have e13 : v15x13 = .int .i64 zd := HT.out.h 13 (by decide) d13 (fun hm => absurd hm (by decide))
    subst e13
    have e15 : v15x15 = .int .i64 zm := HT.out.h 15 (by decide) d15 (fun hm => absurd hm (by decide))
    subst e15
    have e11 : v15x11 = .bool false := HT.out.h 11 (by decide) d11 (fun hm => absurd hm (by decide))
    subst e11
    have HL := hide hi4
    clear hi hi1 hi2 hi3 hi4 d13 d15 d11
    have wr : IntKind.i64.wrap (zd + zm) = zd + zm := by have h1 := HZ1.out; have h2 := HZ2.out; have h3 := HZ3.out; have h4 := HZ4.out; have h5 := HZ5.out; rw [IntKind.wrap_i64]; omega
    refine wpOp_step (o := { dst := some 146, op := Op.binOp BinOp.add 3 (Operand.tmp 143) (Operand.tmp 145) 3, type := 3, pos := "law.go:204", after := #[{ on := 13, ground := Ground.data }, { on := 15, ground := Ground.data }, { on := 11, ground := Ground.guard }], guard := some (11, false) }) rfl (fun K hK => ?_)
    go_simp
    exact hK _ _ ⟨v15x0, v15x1, v15x2, v15x3, v15x4, v15x5, v15x6, v15x7, v15x8, v15x9, v15x10, _, v15x12, _, v15x14, _, .int .i64 (zd + zm), v15x17, v15x18, v15x19, v15x20, rfl, HT.out.plain (Ph15_mono a b c pj pm pd w zj zm zd za zb y13) (Below.refl _ _) 16 (by decide) HL.out _ rfl (by simp) (by simp) (by decide)⟩
  · have d11 := hi3 _ rfl { on := 11, ground := Ground.guard } (by simp) rfl
    have e11 : v15x11 = .bool false := HT.out.h 11 (by decide) d11 (fun hm => absurd hm (by decide))
    subst e11
    have HL := hide hi4
    clear hi hi1 hi2 hi3 hi4 d11
    have l1 := run_ldP (HXga.out.below HT.out.b).at
    refine wpOp_step (o := { dst := some 147, op := Op.load 25 (Operand.tmp 3), type := 25, pos := "law.go:204", after := #[{ on := 11, ground := Ground.guard }], guard := some (11, false) }) rfl (fun K hK => ?_)
    go_simp
    exact hK _ _ ⟨v15x0, v15x1, v15x2, v15x3, v15x4, v15x5, v15x6, v15x7, v15x8, v15x9, v15x10, _, v15x12, v15x13, v15x14, v15x15, v15x16, PV a, v15x18, v15x19, v15x20, rfl, HT.out.plain (Ph15_mono a b c pj pm pd w zj zm zd za zb y13) (Below.refl _ _) 17 (by decide) HL.out _ rfl (by simp) (by simp) (by decide)⟩
  · have d17 := hi3 _ rfl { on := 17, ground := Ground.data } (by simp) rfl
    have d11 := hi3 _ rfl { on := 11, ground := Ground.guard } (by simp) rfl
    have e17 : v15x17 = PV a := HT.out.h 17 (by decide) d17 (fun hm => absurd hm (by decide))
    subst e17
    have e11 : v15x11 = .bool false := HT.out.h 11 (by decide) d11 (fun hm => absurd hm (by decide))
    subst e11
    have HL := hide hi4
    clear hi hi1 hi2 hi3 hi4 d17 d11
    refine wpOp_step (o := { dst := some 148, op := Op.call { callee := Callee.value (Operand.func 12), args := #[Operand.tmp 147], argTypes := #[25] }, type := 3, pos := "law.go:204", after := #[{ on := 17, ground := Ground.data }, { on := 15, ground := Ground.chain }, { on := 11, ground := Ground.guard }], guard := some (11, false) }) rfl (fun K hK => ?_)
    go_simp
    go_wp2_with fail
    refine (pastSize_any a _ (HA.out.below HT.out.b)).mono ?_
    rintro e w' ⟨z, rfl, hz, pb⟩
    obtain rfl : za = z := ((szP_of hz).unique Hza.out (fun _ _ _ => Iff.rfl)).symm
    exact hK _ _ ⟨v15x0, v15x1, v15x2, v15x3, v15x4, v15x5, v15x6, v15x7, v15x8, v15x9, v15x10, _, v15x12, v15x13, v15x14, v15x15, v15x16, _, .int .i64 za, v15x19, v15x20, rfl, HT.out.plain (Ph15_mono a b c pj pm pd w zj zm zd za zb y13) pb 18 (by decide) HL.out _ rfl (by simp) (by simp) (by decide)⟩
  · have d16 := hi3 _ rfl { on := 16, ground := Ground.data } (by simp) rfl
    have d18 := hi3 _ rfl { on := 18, ground := Ground.data } (by simp) rfl
    have d11 := hi3 _ rfl { on := 11, ground := Ground.guard } (by simp) rfl
    have e16 : v15x16 = .int .i64 (zd + zm) := HT.out.h 16 (by decide) d16 (fun hm => absurd hm (by decide))
    subst e16
    have e18 : v15x18 = .int .i64 za := HT.out.h 18 (by decide) d18 (fun hm => absurd hm (by decide))
    subst e18
    have e11 : v15x11 = .bool false := HT.out.h 11 (by decide) d11 (fun hm => absurd hm (by decide))
    subst e11
    have HL := hide hi4
    clear hi hi1 hi2 hi3 hi4 d16 d18 d11
    have hne : (zd + zm != za) = false := by rw [HE2.out]; simp
    refine wpOp_step (o := { dst := some 149, op := Op.binOp BinOp.neq 3 (Operand.tmp 146) (Operand.tmp 148) 3, type := 4, pos := "law.go:204", after := #[{ on := 16, ground := Ground.data }, { on := 18, ground := Ground.data }, { on := 11, ground := Ground.guard }], guard := some (11, false) }) rfl (fun K hK => ?_)
    go_simp
    exact hK _ _ ⟨v15x0, v15x1, v15x2, v15x3, v15x4, v15x5, v15x6, v15x7, v15x8, v15x9, v15x10, _, v15x12, v15x13, v15x14, v15x15, _, v15x17, _, .bool false, v15x20, rfl, HT.out.plain (Ph15_mono a b c pj pm pd w zj zm zd za zb y13) (Below.refl _ _) 19 (by decide) HL.out _ rfl (by simp) (by simp) (by decide)⟩
  · have d11 := hi3 _ rfl { on := 11, ground := Ground.data } (by simp) rfl
    have d19 := hi3 _ rfl { on := 19, ground := Ground.data } (by simp) rfl
    have e11 : v15x11 = .bool false := HT.out.h 11 (by decide) d11 (fun hm => absurd hm (by decide))
    subst e11
    have e19 : v15x19 = .bool false := HT.out.h 19 (by decide) d19 (fun hm => absurd hm (by decide))
    subst e19
    have HL := hide hi4
    clear hi hi1 hi2 hi3 hi4 d11 d19
    refine wpOp_step (o := { dst := some 150, op := Op.pick (Operand.tmp 141) (Operand.const (Value.bool true)) (Operand.tmp 149), type := 4, pos := "law.go:204", after := #[{ on := 11, ground := Ground.data }, { on := 19, ground := Ground.data }], guard := none }) rfl (fun K hK => ?_)
    go_simp
    exact hK _ _ ⟨v15x0, v15x1, v15x2, v15x3, v15x4, v15x5, v15x6, v15x7, v15x8, v15x9, v15x10, _, v15x12, v15x13, v15x14, v15x15, v15x16, v15x17, v15x18, _, .bool false, rfl, HT.out.plain (Ph15_mono a b c pj pm pd w zj zm zd za zb y13) (Below.refl _ _) 20 (by decide) HL.out _ rfl (by simp) (by simp) (by decide)⟩
end Go.Proofs.Ytliedjloceckjaa
