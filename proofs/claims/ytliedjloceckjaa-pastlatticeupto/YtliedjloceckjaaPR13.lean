/- PastLattice: the steps of a region that draws its order. -/
import Derived.Test.YtliedjloceckjaaPLh
namespace Go.Proofs.Ytliedjloceckjaa
open Go.RowKit
attribute [local go_sem ↓] ldP_eq stP_eq
attribute [local go_sem] zero_PC cells_PV fold_PC PC_size fold_PC1 fold_PC2 fold_PC3
def Ph13 (a _ _ _ pm pd : Pv) (_ : World) (_ : World) : Nat → Value → World → Prop
  | 0, x, _ => x = PV pm
  | 1, x, _ => x = PV pd
  | 3, x, _ => x = .bool true
  | 4, x, _ => x = .bool false
  | 5, x, _ => x = .bool false
  | 6, x, _ => x = PV pm
  | 7, x, _ => x = PV pd
  | 8, x, W => ∃ g, x = .slice (some ⟨g, 0, none⟩) 2 2 ∧ PRow W (some ⟨g, 0, none⟩) 2 [pm, pd]
  | 10, x, _ => x = PV a
  | 12, x, _ => x = .bool true
  | 13, x, _ => x = .bool false
  | 14, x, _ => x = .bool false
  | _, _, _ => True
theorem Ph13_mono (a b c pj pm pd : Pv) (w : World) (W0 : World) : Mono (Ph13 a b c pj pm pd w W0) := fun i x W W' h hb => match i with
  | 0 => h
  | 1 => h
  | 3 => h
  | 4 => h
  | 5 => h
  | 6 => h
  | 7 => h
  | 8 => by obtain ⟨g, e, R⟩ := h; exact ⟨g, e, R.below hb⟩
  | 10 => h
  | 12 => h
  | 13 => h
  | 14 => h
  | 2 => trivial
  | 9 => trivial
  | 11 => trivial
  | _ + 15 => trivial
set_option maxRecDepth 100000 in
set_option maxHeartbeats 4000000 in
theorem st13 {a b c pj pm pd : Pv} {dv : Value} {rp ms : Int} {w y12 : World} {ga gb gc gj gm gd : Nat} {u100 u101 u102 u103 u104 u105 u106 u107 u108 u109 u110 u111 u112 u113 u12 u13 u130 u131 u132 u133 u134 u135 u136 u137 u138 u139 u14 u140 u141 u142 u143 u144 u145 u146 u147 u148 u149 u15 u150 u151 u152 u153 u154 u155 u156 u157 u158 u159 u16 u160 u161 u162 u163 u164 u165 u166 u167 u168 u169 u17 u170 u171 u172 u173 u174 u175 u176 u177 u178 u179 u18 u180 u181 u182 u183 u184 u185 u19 u20 u21 u22 u23 u24 u25 u26 u27 u28 u29 u30 u31 u32 u33 u34 u35 u36 u37 u38 u39 u40 u41 u42 u43 u44 u45 u46 u47 u48 u49 u50 u51 u52 u53 u54 u55 u56 u57 u58 u59 u60 u61 u62 u63 u64 u65 u66 u67 u68 u69 u70 u71 u72 u73 u74 u75 u76 u77 u78 u79 u80 u81 u82 u83 u84 u85 u86 u87 u88 u89 u90 u91 u92 u93 u94 u95 u96 u97 u98 u99 : Value} (HA : Hid (PSrc y12 a)) (HSpm : Hid (PSrc y12 pm)) (HSpd : Hid (PSrc y12 pd)) (HXga : Hid (PBox y12 ga a)) (HXgm : Hid (PBox y12 gm pm)) (HXgd : Hid (PBox y12 gd pd)) (HQpm : Hid (IsP (mAnd (mP a.P) (mP b.P)) pm.P)) (HQpd : Hid (IsP (mNot (mP a.P) (mP b.P)) pd.P)) {Q : Exit → Act → World → Prop} :
    ∀ (l : Array Bool) (x : Act) (W : World), (∃ v13x0 v13x1 v13x2 v13x3 v13x4 v13x5 v13x6 v13x7 v13x8 v13x9 v13x10 v13x11 v13x12 v13x13 v13x14, x = { tmps := #[CaseV a b c dv rp ms, ptr w.heap.size, .bool false, ptr ga, ptr gb, ptr gc, ptr gj, ptr gm, ptr gd, undef, .bool true, .bool false, u12, u13, u14, u15, u16, u17, u18, u19, u20, u21, u22, u23, u24, u25, u26, u27, u28, u29, u30, u31, u32, u33, u34, u35, u36, u37, u38, u39, u40, u41, u42, u43, u44, u45, u46, u47, u48, u49, u50, u51, u52, u53, u54, u55, u56, u57, u58, u59, u60, u61, u62, u63, u64, u65, u66, u67, u68, u69, u70, u71, u72, u73, u74, u75, u76, u77, u78, u79, u80, u81, u82, u83, u84, u85, u86, u87, u88, u89, u90, u91, u92, u93, u94, u95, u96, u97, u98, u99, u100, u101, u102, u103, u104, u105, u106, u107, u108, u109, u110, u111, u112, u113, .bool false, v13x0, v13x1, v13x2, v13x3, v13x4, v13x5, v13x6, v13x7, v13x8, v13x9, v13x10, v13x11, v13x12, v13x13, v13x14, u130, u131, u132, u133, u134, u135, u136, u137, u138, u139, u140, u141, u142, u143, u144, u145, u146, u147, u148, u149, u150, u151, u152, u153, u154, u155, u156, u157, u158, u159, u160, u161, u162, u163, u164, u165, u166, u167, u168, u169, u170, u171, u172, u173, u174, u175, u176, u177, u178, u179, u180, u181, u182, u183, u184, u185], defers := [] } ∧ BI 15 22 y12 (Ph13 a b c pj pm pd w y12) [] [(2, IsP (mAnd (mP pm.P) (mP pd.P))), (9, IsP (mP a.P)), (11, IsP (mP a.P))] [] l W [v13x0, v13x1, v13x2, v13x3, v13x4, v13x5, v13x6, v13x7, v13x8, v13x9, v13x10, v13x11, v13x12, v13x13, v13x14]) → ∀ i, i ∈ Region.ready .any #[{ dst := some 115, op := Op.load 25 (Operand.tmp 7), type := 25, pos := "law.go:201", after := #[], guard := none }, { dst := some 116, op := Op.load 25 (Operand.tmp 8), type := 25, pos := "law.go:201", after := #[], guard := none }, { dst := some 117, op := Op.call { callee := Callee.value (Operand.func 6), args := #[Operand.tmp 115, Operand.tmp 116], argTypes := #[25, 25] }, type := 25, pos := "law.go:201", after := #[{ on := 0, ground := Ground.data }, { on := 1, ground := Ground.data }], guard := none }, { dst := some 118, op := Op.call { callee := Callee.value (Operand.func 11), args := #[Operand.tmp 117], argTypes := #[25] }, type := 4, pos := "law.go:201", after := #[{ on := 2, ground := Ground.data }, { on := 2, ground := Ground.chain }], guard := none }, { dst := some 119, op := Op.unOp UnOp.not 4 (Operand.tmp 118), type := 4, pos := "law.go:201", after := #[{ on := 3, ground := Ground.data }], guard := none }, { dst := some 120, op := Op.move (Operand.tmp 119), type := 4, pos := "law.go:201", after := #[{ on := 4, ground := Ground.data }, { on := 3, ground := Ground.chain }], guard := none }, { dst := some 121, op := Op.load 25 (Operand.tmp 7), type := 25, pos := "law.go:201", after := #[{ on := 5, ground := Ground.guard }], guard := some (5, false) }, { dst := some 122, op := Op.load 25 (Operand.tmp 8), type := 25, pos := "law.go:201", after := #[{ on := 5, ground := Ground.guard }], guard := some (5, false) }, { dst := some 123, op := Op.buildSlice 43 2 #[(0, Operand.tmp 121), (1, Operand.tmp 122)], type := 43, pos := "law.go:201", after := #[{ on := 6, ground := Ground.data }, { on := 7, ground := Ground.data }, { on := 5, ground := Ground.guard }], guard := some (5, false) }, { dst := some 124, op := Op.call { callee := Callee.value (Operand.func 5), args := #[Operand.tmp 123], argTypes := #[43] }, type := 25, pos := "law.go:201", after := #[{ on := 8, ground := Ground.data }, { on := 5, ground := Ground.chain }, { on := 5, ground := Ground.guard }], guard := some (5, false) }, { dst := some 125, op := Op.load 25 (Operand.tmp 3), type := 25, pos := "law.go:201", after := #[{ on := 5, ground := Ground.guard }], guard := some (5, false) }, { dst := some 126, op := Op.call { callee := Callee.value (Operand.func 9), args := #[Operand.tmp 125], argTypes := #[25] }, type := 25, pos := "law.go:201", after := #[{ on := 10, ground := Ground.data }, { on := 9, ground := Ground.chain }, { on := 5, ground := Ground.guard }], guard := some (5, false) }, { dst := some 127, op := Op.call { callee := Callee.value (Operand.func 8), args := #[Operand.tmp 124, Operand.tmp 126], argTypes := #[25, 25] }, type := 4, pos := "law.go:201", after := #[{ on := 9, ground := Ground.data }, { on := 11, ground := Ground.data }, { on := 11, ground := Ground.chain }, { on := 5, ground := Ground.guard }], guard := some (5, false) }, { dst := some 128, op := Op.unOp UnOp.not 4 (Operand.tmp 127), type := 4, pos := "law.go:201", after := #[{ on := 12, ground := Ground.data }, { on := 5, ground := Ground.guard }], guard := some (5, false) }, { dst := some 129, op := Op.pick (Operand.tmp 120) (Operand.const (Value.bool true)) (Operand.tmp 128), type := 4, pos := "law.go:201", after := #[{ on := 5, ground := Ground.data }, { on := 13, ground := Ground.data }], guard := none }] l → wpOp Try.prog #[{ dst := some 115, op := Op.load 25 (Operand.tmp 7), type := 25, pos := "law.go:201", after := #[], guard := none }, { dst := some 116, op := Op.load 25 (Operand.tmp 8), type := 25, pos := "law.go:201", after := #[], guard := none }, { dst := some 117, op := Op.call { callee := Callee.value (Operand.func 6), args := #[Operand.tmp 115, Operand.tmp 116], argTypes := #[25, 25] }, type := 25, pos := "law.go:201", after := #[{ on := 0, ground := Ground.data }, { on := 1, ground := Ground.data }], guard := none }, { dst := some 118, op := Op.call { callee := Callee.value (Operand.func 11), args := #[Operand.tmp 117], argTypes := #[25] }, type := 4, pos := "law.go:201", after := #[{ on := 2, ground := Ground.data }, { on := 2, ground := Ground.chain }], guard := none }, { dst := some 119, op := Op.unOp UnOp.not 4 (Operand.tmp 118), type := 4, pos := "law.go:201", after := #[{ on := 3, ground := Ground.data }], guard := none }, { dst := some 120, op := Op.move (Operand.tmp 119), type := 4, pos := "law.go:201", after := #[{ on := 4, ground := Ground.data }, { on := 3, ground := Ground.chain }], guard := none }, { dst := some 121, op := Op.load 25 (Operand.tmp 7), type := 25, pos := "law.go:201", after := #[{ on := 5, ground := Ground.guard }], guard := some (5, false) }, { dst := some 122, op := Op.load 25 (Operand.tmp 8), type := 25, pos := "law.go:201", after := #[{ on := 5, ground := Ground.guard }], guard := some (5, false) }, { dst := some 123, op := Op.buildSlice 43 2 #[(0, Operand.tmp 121), (1, Operand.tmp 122)], type := 43, pos := "law.go:201", after := #[{ on := 6, ground := Ground.data }, { on := 7, ground := Ground.data }, { on := 5, ground := Ground.guard }], guard := some (5, false) }, { dst := some 124, op := Op.call { callee := Callee.value (Operand.func 5), args := #[Operand.tmp 123], argTypes := #[43] }, type := 25, pos := "law.go:201", after := #[{ on := 8, ground := Ground.data }, { on := 5, ground := Ground.chain }, { on := 5, ground := Ground.guard }], guard := some (5, false) }, { dst := some 125, op := Op.load 25 (Operand.tmp 3), type := 25, pos := "law.go:201", after := #[{ on := 5, ground := Ground.guard }], guard := some (5, false) }, { dst := some 126, op := Op.call { callee := Callee.value (Operand.func 9), args := #[Operand.tmp 125], argTypes := #[25] }, type := 25, pos := "law.go:201", after := #[{ on := 10, ground := Ground.data }, { on := 9, ground := Ground.chain }, { on := 5, ground := Ground.guard }], guard := some (5, false) }, { dst := some 127, op := Op.call { callee := Callee.value (Operand.func 8), args := #[Operand.tmp 124, Operand.tmp 126], argTypes := #[25, 25] }, type := 4, pos := "law.go:201", after := #[{ on := 9, ground := Ground.data }, { on := 11, ground := Ground.data }, { on := 11, ground := Ground.chain }, { on := 5, ground := Ground.guard }], guard := some (5, false) }, { dst := some 128, op := Op.unOp UnOp.not 4 (Operand.tmp 127), type := 4, pos := "law.go:201", after := #[{ on := 12, ground := Ground.data }, { on := 5, ground := Ground.guard }], guard := some (5, false) }, { dst := some 129, op := Op.pick (Operand.tmp 120) (Operand.const (Value.bool true)) (Operand.tmp 128), type := 4, pos := "law.go:201", after := #[{ on := 5, ground := Ground.data }, { on := 13, ground := Ground.data }], guard := none }] Q i (fun a' w' => ∃ v13x0 v13x1 v13x2 v13x3 v13x4 v13x5 v13x6 v13x7 v13x8 v13x9 v13x10 v13x11 v13x12 v13x13 v13x14, a' = { tmps := #[CaseV a b c dv rp ms, ptr w.heap.size, .bool false, ptr ga, ptr gb, ptr gc, ptr gj, ptr gm, ptr gd, undef, .bool true, .bool false, u12, u13, u14, u15, u16, u17, u18, u19, u20, u21, u22, u23, u24, u25, u26, u27, u28, u29, u30, u31, u32, u33, u34, u35, u36, u37, u38, u39, u40, u41, u42, u43, u44, u45, u46, u47, u48, u49, u50, u51, u52, u53, u54, u55, u56, u57, u58, u59, u60, u61, u62, u63, u64, u65, u66, u67, u68, u69, u70, u71, u72, u73, u74, u75, u76, u77, u78, u79, u80, u81, u82, u83, u84, u85, u86, u87, u88, u89, u90, u91, u92, u93, u94, u95, u96, u97, u98, u99, u100, u101, u102, u103, u104, u105, u106, u107, u108, u109, u110, u111, u112, u113, .bool false, v13x0, v13x1, v13x2, v13x3, v13x4, v13x5, v13x6, v13x7, v13x8, v13x9, v13x10, v13x11, v13x12, v13x13, v13x14, u130, u131, u132, u133, u134, u135, u136, u137, u138, u139, u140, u141, u142, u143, u144, u145, u146, u147, u148, u149, u150, u151, u152, u153, u154, u155, u156, u157, u158, u159, u160, u161, u162, u163, u164, u165, u166, u167, u168, u169, u170, u171, u172, u173, u174, u175, u176, u177, u178, u179, u180, u181, u182, u183, u184, u185], defers := [] } ∧ BI 15 22 y12 (Ph13 a b c pj pm pd w y12) [] [(2, IsP (mAnd (mP pm.P) (mP pd.P))), (9, IsP (mP a.P)), (11, IsP (mP a.P))] [] (l.setIfInBounds i true) w' [v13x0, v13x1, v13x2, v13x3, v13x4, v13x5, v13x6, v13x7, v13x8, v13x9, v13x10, v13x11, v13x12, v13x13, v13x14]) x W := by
  rintro l x W ⟨v13x0, v13x1, v13x2, v13x3, v13x4, v13x5, v13x6, v13x7, v13x8, v13x9, v13x10, v13x11, v13x12, v13x13, v13x14, rfl, T⟩ i hi
  obtain ⟨hi1, hi2, hi3⟩ := ready_mem hi
  have hi4 := no_true hi2
  have hc : i = 0 ∨ i = 1 ∨ i = 2 ∨ i = 3 ∨ i = 4 ∨ i = 5 ∨ i = 6 ∨ i = 7 ∨ i = 8 ∨ i = 9 ∨ i = 10 ∨ i = 11 ∨ i = 12 ∨ i = 13 ∨ i = 14 := by have h : i < 15 := hi1; omega
  have HT := hide T
  clear T
  rcases hc with rfl | rfl | rfl | rfl | rfl | rfl | rfl | rfl | rfl | rfl | rfl | rfl | rfl | rfl | rfl
  · have HL := hide hi4
    clear hi hi1 hi2 hi3 hi4
    have l1 := run_ldP (HXgm.out.below HT.out.b).at
    refine wpOp_step (o := { dst := some 115, op := Op.load 25 (Operand.tmp 7), type := 25, pos := "law.go:201", after := #[], guard := none }) rfl (fun K hK => ?_)
    go_simp
    exact hK _ _ ⟨PV pm, v13x1, v13x2, v13x3, v13x4, v13x5, v13x6, v13x7, v13x8, v13x9, v13x10, v13x11, v13x12, v13x13, v13x14, rfl, HT.out.plain (Ph13_mono a b c pj pm pd w y12) (Below.refl _ _) 0 (by decide) HL.out _ rfl (by simp) (by simp) (by decide)⟩
  · have HL := hide hi4
    clear hi hi1 hi2 hi3 hi4
    have l1 := run_ldP (HXgd.out.below HT.out.b).at
    refine wpOp_step (o := { dst := some 116, op := Op.load 25 (Operand.tmp 8), type := 25, pos := "law.go:201", after := #[], guard := none }) rfl (fun K hK => ?_)
    go_simp
    exact hK _ _ ⟨v13x0, PV pd, v13x2, v13x3, v13x4, v13x5, v13x6, v13x7, v13x8, v13x9, v13x10, v13x11, v13x12, v13x13, v13x14, rfl, HT.out.plain (Ph13_mono a b c pj pm pd w y12) (Below.refl _ _) 1 (by decide) HL.out _ rfl (by simp) (by simp) (by decide)⟩
  · have d0 := hi3 _ rfl { on := 0, ground := Ground.data } (by simp) rfl
    have d1 := hi3 _ rfl { on := 1, ground := Ground.data } (by simp) rfl
    have e0 : v13x0 = PV pm := HT.out.h 0 (by decide) d0 (fun hm => absurd hm (by decide))
    subst e0
    have e1 : v13x1 = PV pd := HT.out.h 1 (by decide) d1 (fun hm => absurd hm (by decide))
    subst e1
    have HL := hide hi4
    clear hi hi1 hi2 hi3 hi4 d0 d1
    refine wpOp_step (o := { dst := some 117, op := Op.call { callee := Callee.value (Operand.func 6), args := #[Operand.tmp 115, Operand.tmp 116], argTypes := #[25, 25] }, type := 25, pos := "law.go:201", after := #[{ on := 0, ground := Ground.data }, { on := 1, ground := Ground.data }], guard := none }) rfl (fun K hK => ?_)
    go_simp
    go_wp2_with fail
    refine (pastMeet_any pm pd _ (HSpm.out.below HT.out.b) (HSpd.out.below HT.out.b)).mono ?_
    rintro e w' ⟨pp, rfl, pS, pN, pb, pq⟩
    exact hK _ _ ⟨_, _, PV pp, v13x3, v13x4, v13x5, v13x6, v13x7, v13x8, v13x9, v13x10, v13x11, v13x12, v13x13, v13x14, rfl, HT.out.call (Ph13_mono a b c pj pm pd w y12) pb 2 (IsP (mAnd (mP pm.P) (mP pd.P))) (by decide) HL.out (by simp) (by simp) pp pS pN (isP_meet pq) (fun _ _ => trivial) (by simp) (by decide)⟩
  · have d2 := hi3 _ rfl { on := 2, ground := Ground.data } (by simp) rfl
    obtain ⟨p2, e2, S2, q2, -⟩ := HT.out.r (2, IsP (mAnd (mP pm.P) (mP pd.P))) (by simp) d2
    have f2 : v13x2 = PV p2 := e2
    subst f2
    have HS2 := hide S2
    have HQ2 : Hid (IsP (mAnd (mP pm.P) (mP pd.P)) p2.P) := q2
    clear e2 S2 q2
    have HL := hide hi4
    clear hi hi1 hi2 hi3 hi4 d2
    refine wpOp_step (o := { dst := some 118, op := Op.call { callee := Callee.value (Operand.func 11), args := #[Operand.tmp 117], argTypes := #[25] }, type := 4, pos := "law.go:201", after := #[{ on := 2, ground := Ground.data }, { on := 2, ground := Ground.chain }], guard := none }) rfl (fun K hK => ?_)
    go_simp
    go_wp2_with fail
    refine (pastEmpty_any p2 _ HS2.out).mono ?_
    rintro e w' ⟨x, rfl, hx, pb⟩
    obtain rfl : x = true := hx.2 (fun r hr n h => by have h1 := (HQ2.out.mem r hr n).1 h; exact ((HQpd.out.mem r hr n).1 h1.2).2 ((HQpm.out.mem r hr n).1 h1.1).2)
    exact hK _ _ ⟨v13x0, v13x1, _, .bool true, v13x4, v13x5, v13x6, v13x7, v13x8, v13x9, v13x10, v13x11, v13x12, v13x13, v13x14, rfl, HT.out.plain (Ph13_mono a b c pj pm pd w y12) pb 3 (by decide) HL.out _ rfl (by simp) (by simp) (by decide)⟩
  · have d3 := hi3 _ rfl { on := 3, ground := Ground.data } (by simp) rfl
    have e3 : v13x3 = .bool true := HT.out.h 3 (by decide) d3 (fun hm => absurd hm (by decide))
    subst e3
    have HL := hide hi4
    clear hi hi1 hi2 hi3 hi4 d3
    refine wpOp_step (o := { dst := some 119, op := Op.unOp UnOp.not 4 (Operand.tmp 118), type := 4, pos := "law.go:201", after := #[{ on := 3, ground := Ground.data }], guard := none }) rfl (fun K hK => ?_)
    go_simp
    exact hK _ _ ⟨v13x0, v13x1, v13x2, _, .bool false, v13x5, v13x6, v13x7, v13x8, v13x9, v13x10, v13x11, v13x12, v13x13, v13x14, rfl, HT.out.plain (Ph13_mono a b c pj pm pd w y12) (Below.refl _ _) 4 (by decide) HL.out _ rfl (by simp) (by simp) (by decide)⟩
  · have d4 := hi3 _ rfl { on := 4, ground := Ground.data } (by simp) rfl
    have e4 : v13x4 = .bool false := HT.out.h 4 (by decide) d4 (fun hm => absurd hm (by decide))
    subst e4
    have HL := hide hi4
    clear hi hi1 hi2 hi3 hi4 d4
    refine wpOp_step (o := { dst := some 120, op := Op.move (Operand.tmp 119), type := 4, pos := "law.go:201", after := #[{ on := 4, ground := Ground.data }, { on := 3, ground := Ground.chain }], guard := none }) rfl (fun K hK => ?_)
    go_simp
    exact hK _ _ ⟨v13x0, v13x1, v13x2, v13x3, _, .bool false, v13x6, v13x7, v13x8, v13x9, v13x10, v13x11, v13x12, v13x13, v13x14, rfl, HT.out.plain (Ph13_mono a b c pj pm pd w y12) (Below.refl _ _) 5 (by decide) HL.out _ rfl (by simp) (by simp) (by decide)⟩
  · have d5 := hi3 _ rfl { on := 5, ground := Ground.guard } (by simp) rfl
    have e5 : v13x5 = .bool false := HT.out.h 5 (by decide) d5 (fun hm => absurd hm (by decide))
    subst e5
    have HL := hide hi4
    clear hi hi1 hi2 hi3 hi4 d5
    have l1 := run_ldP (HXgm.out.below HT.out.b).at
    refine wpOp_step (o := { dst := some 121, op := Op.load 25 (Operand.tmp 7), type := 25, pos := "law.go:201", after := #[{ on := 5, ground := Ground.guard }], guard := some (5, false) }) rfl (fun K hK => ?_)
    go_simp
    exact hK _ _ ⟨v13x0, v13x1, v13x2, v13x3, v13x4, _, PV pm, v13x7, v13x8, v13x9, v13x10, v13x11, v13x12, v13x13, v13x14, rfl, HT.out.plain (Ph13_mono a b c pj pm pd w y12) (Below.refl _ _) 6 (by decide) HL.out _ rfl (by simp) (by simp) (by decide)⟩
  · have d5 := hi3 _ rfl { on := 5, ground := Ground.guard } (by simp) rfl
    have e5 : v13x5 = .bool false := HT.out.h 5 (by decide) d5 (fun hm => absurd hm (by decide))
    subst e5
    have HL := hide hi4
    clear hi hi1 hi2 hi3 hi4 d5
    have l1 := run_ldP (HXgd.out.below HT.out.b).at
    refine wpOp_step (o := { dst := some 122, op := Op.load 25 (Operand.tmp 8), type := 25, pos := "law.go:201", after := #[{ on := 5, ground := Ground.guard }], guard := some (5, false) }) rfl (fun K hK => ?_)
    go_simp
    exact hK _ _ ⟨v13x0, v13x1, v13x2, v13x3, v13x4, _, v13x6, PV pd, v13x8, v13x9, v13x10, v13x11, v13x12, v13x13, v13x14, rfl, HT.out.plain (Ph13_mono a b c pj pm pd w y12) (Below.refl _ _) 7 (by decide) HL.out _ rfl (by simp) (by simp) (by decide)⟩
  · have d6 := hi3 _ rfl { on := 6, ground := Ground.data } (by simp) rfl
    have d7 := hi3 _ rfl { on := 7, ground := Ground.data } (by simp) rfl
    have d5 := hi3 _ rfl { on := 5, ground := Ground.guard } (by simp) rfl
    have e6 : v13x6 = PV pm := HT.out.h 6 (by decide) d6 (fun hm => absurd hm (by decide))
    subst e6
    have e7 : v13x7 = PV pd := HT.out.h 7 (by decide) d7 (fun hm => absurd hm (by decide))
    subst e7
    have e5 : v13x5 = .bool false := HT.out.h 5 (by decide) d5 (fun hm => absurd hm (by decide))
    subst e5
    have HL := hide hi4
    clear hi hi1 hi2 hi3 hi4 d6 d7 d5
    refine wpOp_step (o := { dst := some 123, op := Op.buildSlice 43 2 #[(0, Operand.tmp 121), (1, Operand.tmp 122)], type := 43, pos := "law.go:201", after := #[{ on := 6, ground := Ground.data }, { on := 7, ground := Ground.data }, { on := 5, ground := Ground.guard }], guard := some (5, false) }) rfl (fun K hK => ?_)
    go_simp
    exact hK _ _ ⟨v13x0, v13x1, v13x2, v13x3, v13x4, _, _, _, .slice (some ⟨W.heap.size, 0, none⟩) 2 2, v13x9, v13x10, v13x11, v13x12, v13x13, v13x14, rfl, HT.out.plain (Ph13_mono a b c pj pm pd w y12) (below_new _ _) 8 (by decide) HL.out _ ⟨_, rfl, prow_two W pm pd (HSpm.out.below HT.out.b) (HSpd.out.below HT.out.b)⟩ (by simp) (by simp) (by decide)⟩
  · have d8 := hi3 _ rfl { on := 8, ground := Ground.data } (by simp) rfl
    have d5 := hi3 _ rfl { on := 5, ground := Ground.chain } (by simp) rfl
    obtain ⟨g8, e8, R8⟩ : ∃ g, v13x8 = .slice (some ⟨g, 0, none⟩) 2 2 ∧ PRow W (some ⟨g, 0, none⟩) 2 [pm, pd] := HT.out.h 8 (by decide) d8 (fun hm => absurd hm (by decide))
    subst e8
    have HR8 := hide R8
    clear R8
    have e5 : v13x5 = .bool false := HT.out.h 5 (by decide) d5 (fun hm => absurd hm (by decide))
    subst e5
    have HL := hide hi4
    clear hi hi1 hi2 hi3 hi4 d8 d5
    refine wpOp_step (o := { dst := some 124, op := Op.call { callee := Callee.value (Operand.func 5), args := #[Operand.tmp 123], argTypes := #[43] }, type := 25, pos := "law.go:201", after := #[{ on := 8, ground := Ground.data }, { on := 5, ground := Ground.chain }, { on := 5, ground := Ground.guard }], guard := some (5, false) }) rfl (fun K hK => ?_)
    go_simp
    go_wp2_with fail
    refine (pastJoin_any _ 2 2 [pm, pd] _ HR8.out (by have h1 := HQpm.out.len; have h2 := HQpd.out.len; simp only [wt]; omega) (by omega)).mono ?_
    rintro e w' ⟨pp, rfl, pS, pN, pb, pq⟩
    exact hK _ _ ⟨v13x0, v13x1, v13x2, v13x3, v13x4, _, v13x6, v13x7, _, PV pp, v13x10, v13x11, v13x12, v13x13, v13x14, rfl, HT.out.call (Ph13_mono a b c pj pm pd w y12) pb 9 (IsP (mP a.P)) (by decide) HL.out (by simp) (by simp) pp pS pN ((isP_join2 pq).congr (fun r hr n => part_iff (HQpm.out.mem r hr n) (HQpd.out.mem r hr n))) (fun _ _ => trivial) (by simp) (by decide)⟩
  · have d5 := hi3 _ rfl { on := 5, ground := Ground.guard } (by simp) rfl
    have e5 : v13x5 = .bool false := HT.out.h 5 (by decide) d5 (fun hm => absurd hm (by decide))
    subst e5
    have HL := hide hi4
    clear hi hi1 hi2 hi3 hi4 d5
    have l1 := run_ldP (HXga.out.below HT.out.b).at
    refine wpOp_step (o := { dst := some 125, op := Op.load 25 (Operand.tmp 3), type := 25, pos := "law.go:201", after := #[{ on := 5, ground := Ground.guard }], guard := some (5, false) }) rfl (fun K hK => ?_)
    go_simp
    exact hK _ _ ⟨v13x0, v13x1, v13x2, v13x3, v13x4, _, v13x6, v13x7, v13x8, v13x9, PV a, v13x11, v13x12, v13x13, v13x14, rfl, HT.out.plain (Ph13_mono a b c pj pm pd w y12) (Below.refl _ _) 10 (by decide) HL.out _ rfl (by simp) (by simp) (by decide)⟩
  · have d10 := hi3 _ rfl { on := 10, ground := Ground.data } (by simp) rfl
    have d5 := hi3 _ rfl { on := 5, ground := Ground.guard } (by simp) rfl
    have e10 : v13x10 = PV a := HT.out.h 10 (by decide) d10 (fun hm => absurd hm (by decide))
    subst e10
    have e5 : v13x5 = .bool false := HT.out.h 5 (by decide) d5 (fun hm => absurd hm (by decide))
    subst e5
    have HL := hide hi4
    clear hi hi1 hi2 hi3 hi4 d10 d5
    refine wpOp_step (o := { dst := some 126, op := Op.call { callee := Callee.value (Operand.func 9), args := #[Operand.tmp 125], argTypes := #[25] }, type := 25, pos := "law.go:201", after := #[{ on := 10, ground := Ground.data }, { on := 9, ground := Ground.chain }, { on := 5, ground := Ground.guard }], guard := some (5, false) }) rfl (fun K hK => ?_)
    go_simp
    go_wp2_with fail
    refine (pastNorm_any a _ (HA.out.below HT.out.b)).mono ?_
    rintro e w' ⟨pp, rfl, pS, pN, pb, pq⟩
    exact hK _ _ ⟨v13x0, v13x1, v13x2, v13x3, v13x4, _, v13x6, v13x7, v13x8, v13x9, _, PV pp, v13x12, v13x13, v13x14, rfl, HT.out.call (Ph13_mono a b c pj pm pd w y12) pb 11 (IsP (mP a.P)) (by decide) HL.out (by simp) (by simp) pp pS pN (isP_norm pq) (fun _ _ => trivial) (by simp) (by decide)⟩
  · have d9 := hi3 _ rfl { on := 9, ground := Ground.data } (by simp) rfl
    have d11 := hi3 _ rfl { on := 11, ground := Ground.data } (by simp) rfl
    have d5 := hi3 _ rfl { on := 5, ground := Ground.guard } (by simp) rfl
    obtain ⟨p9, e9, S9, q9, -⟩ := HT.out.r (9, IsP (mP a.P)) (by simp) d9
    have f9 : v13x9 = PV p9 := e9
    subst f9
    have HS9 := hide S9
    have HQ9 : Hid (IsP (mP a.P) p9.P) := q9
    clear e9 S9 q9
    obtain ⟨p11, e11, S11, q11, -⟩ := HT.out.r (11, IsP (mP a.P)) (by simp) d11
    have f11 : v13x11 = PV p11 := e11
    subst f11
    have HS11 := hide S11
    have HQ11 : Hid (IsP (mP a.P) p11.P) := q11
    clear e11 S11 q11
    have e5 : v13x5 = .bool false := HT.out.h 5 (by decide) d5 (fun hm => absurd hm (by decide))
    subst e5
    have HL := hide hi4
    clear hi hi1 hi2 hi3 hi4 d9 d11 d5
    refine wpOp_step (o := { dst := some 127, op := Op.call { callee := Callee.value (Operand.func 8), args := #[Operand.tmp 124, Operand.tmp 126], argTypes := #[25, 25] }, type := 4, pos := "law.go:201", after := #[{ on := 9, ground := Ground.data }, { on := 11, ground := Ground.data }, { on := 11, ground := Ground.chain }, { on := 5, ground := Ground.guard }], guard := some (5, false) }) rfl (fun K hK => ?_)
    go_simp
    go_wp2_with fail
    refine (samePast_any p9 p11 _ HS9.out HS11.out).mono ?_
    rintro e w' ⟨x, rfl, hx, pb⟩
    obtain rfl : x = true := hx.2 (IsP.unique HQ9.out HQ11.out (fun _ _ _ => Iff.rfl))
    exact hK _ _ ⟨v13x0, v13x1, v13x2, v13x3, v13x4, _, v13x6, v13x7, v13x8, _, v13x10, _, .bool true, v13x13, v13x14, rfl, HT.out.plain (Ph13_mono a b c pj pm pd w y12) pb 12 (by decide) HL.out _ rfl (by simp) (by simp) (by decide)⟩
  · have d12 := hi3 _ rfl { on := 12, ground := Ground.data } (by simp) rfl
    have d5 := hi3 _ rfl { on := 5, ground := Ground.guard } (by simp) rfl
    have e12 : v13x12 = .bool true := HT.out.h 12 (by decide) d12 (fun hm => absurd hm (by decide))
    subst e12
    have e5 : v13x5 = .bool false := HT.out.h 5 (by decide) d5 (fun hm => absurd hm (by decide))
    subst e5
    have HL := hide hi4
    clear hi hi1 hi2 hi3 hi4 d12 d5
    refine wpOp_step (o := { dst := some 128, op := Op.unOp UnOp.not 4 (Operand.tmp 127), type := 4, pos := "law.go:201", after := #[{ on := 12, ground := Ground.data }, { on := 5, ground := Ground.guard }], guard := some (5, false) }) rfl (fun K hK => ?_)
    go_simp
    exact hK _ _ ⟨v13x0, v13x1, v13x2, v13x3, v13x4, _, v13x6, v13x7, v13x8, v13x9, v13x10, v13x11, _, .bool false, v13x14, rfl, HT.out.plain (Ph13_mono a b c pj pm pd w y12) (Below.refl _ _) 13 (by decide) HL.out _ rfl (by simp) (by simp) (by decide)⟩
  · have d5 := hi3 _ rfl { on := 5, ground := Ground.data } (by simp) rfl
    have d13 := hi3 _ rfl { on := 13, ground := Ground.data } (by simp) rfl
    have e5 : v13x5 = .bool false := HT.out.h 5 (by decide) d5 (fun hm => absurd hm (by decide))
    subst e5
    have e13 : v13x13 = .bool false := HT.out.h 13 (by decide) d13 (fun hm => absurd hm (by decide))
    subst e13
    have HL := hide hi4
    clear hi hi1 hi2 hi3 hi4 d5 d13
    refine wpOp_step (o := { dst := some 129, op := Op.pick (Operand.tmp 120) (Operand.const (Value.bool true)) (Operand.tmp 128), type := 4, pos := "law.go:201", after := #[{ on := 5, ground := Ground.data }, { on := 13, ground := Ground.data }], guard := none }) rfl (fun K hK => ?_)
    go_simp
    exact hK _ _ ⟨v13x0, v13x1, v13x2, v13x3, v13x4, _, v13x6, v13x7, v13x8, v13x9, v13x10, v13x11, v13x12, _, .bool false, rfl, HT.out.plain (Ph13_mono a b c pj pm pd w y12) (Below.refl _ _) 14 (by decide) HL.out _ rfl (by simp) (by simp) (by decide)⟩
end Go.Proofs.Ytliedjloceckjaa
