/- PastLattice: the steps of a region that draws its order. -/
import Derived.Test.YtliedjloceckjaaPLh
namespace Go.Proofs.Ytliedjloceckjaa
open Go.RowKit
attribute [local go_sem ↓] ldP_eq stP_eq
attribute [local go_sem] zero_PC cells_PV fold_PC PC_size fold_PC1 fold_PC2 fold_PC3
def Ph1800 (a b _ _ _ _ : Pv) (_ : World) (_ : World) : Nat → Value → World → Prop
  | 0, x, _ => x = PV a
  | 1, x, _ => x = PV b
  | 2, x, _ => x = .bool false
  | 3, x, _ => x = .int .i64 3
  | 4, x, _ => x = .bool false
  | 5, x, _ => x = .bool false
  | 6, x, _ => x = .int .i64 3
  | 7, x, _ => x = .bool false
  | 8, x, _ => x = .bool false
  | 9, x, _ => x = .bool true
  | 10, x, _ => x = .bool true
  | 11, x, _ => x = PV b
  | 12, x, _ => x = PV a
  | 13, x, _ => x = .bool false
  | 14, x, _ => x = .int .i64 3
  | 15, x, _ => x = .bool false
  | 16, x, _ => x = .bool false
  | 17, x, _ => x = .int .i64 3
  | 18, x, _ => x = .bool false
  | 19, x, _ => x = .bool false
  | 20, x, _ => x = .bool true
  | 21, x, _ => x = .bool true
  | 22, x, _ => x = .bool true
  | 23, x, _ => x = .int .i64 3
  | 24, x, _ => x = .bool false
  | 25, x, _ => x = PV a
  | 27, x, _ => x = PV b
  | 29, x, _ => x = .bool false
  | 30, x, _ => x = .bool true
  | 31, x, _ => x = .bool true
  | 32, x, _ => x = .bool true
  | _, _, _ => True
theorem Ph1800_mono (a b c pj pm pd : Pv) (w : World) (W0 : World) : Mono (Ph1800 a b c pj pm pd w W0) := fun i _ _ _ h _ => match i with
  | 0 => h
  | 1 => h
  | 2 => h
  | 3 => h
  | 4 => h
  | 5 => h
  | 6 => h
  | 7 => h
  | 8 => h
  | 9 => h
  | 10 => h
  | 11 => h
  | 12 => h
  | 13 => h
  | 14 => h
  | 15 => h
  | 16 => h
  | 17 => h
  | 18 => h
  | 19 => h
  | 20 => h
  | 21 => h
  | 22 => h
  | 23 => h
  | 24 => h
  | 25 => h
  | 27 => h
  | 29 => h
  | 30 => h
  | 31 => h
  | 32 => h
  | 26 => trivial
  | 28 => trivial
  | _ + 33 => trivial
set_option maxRecDepth 100000 in
set_option maxHeartbeats 4000000 in
theorem st1800 {a b c pj pm pd : Pv} {dv : Value} {rp ms : Int} {w y15 : World} {ga gb gc gj gm gd : Nat} {zj zm zd za zb : Int} {u100 u101 u102 u103 u104 u105 u106 u107 u108 u109 u110 u111 u112 u113 u12 u13 u14 u15 u16 u17 u18 u19 u20 u21 u22 u23 u24 u25 u26 u27 u28 u29 u30 u31 u32 u33 u34 u35 u36 u37 u38 u39 u40 u41 u42 u43 u44 u45 u46 u47 u48 u49 u50 u51 u52 u53 u54 u55 u56 u57 u58 u59 u60 u61 u62 u63 u64 u65 u66 u67 u68 u69 u70 u71 u72 u73 u74 u75 u76 u77 u78 u79 u80 u81 u82 u83 u84 u85 u86 u87 u88 u89 u90 u91 u92 u93 u94 u95 u96 u97 u98 u99 v13x8 : Value} {p13_11 p13_2 p13_9 : Pv} (HA : Hid (PSrc y15 a)) (HB : Hid (PSrc y15 b)) (HXga : Hid (PBox y15 ga a)) (HXgb : Hid (PBox y15 gb b)) (HXX : Hid (BIff false (∀ r, r < 16 → ∀ n, mem (runsAt a.P r) n → mem (runsAt b.P r) n))) (HYY : Hid (BIff false (∀ r, r < 16 → ∀ n, mem (runsAt b.P r) n → mem (runsAt a.P r) n))) {Q : Exit → Act → World → Prop} :
    ∀ (l : Array Bool) (x : Act) (W : World), (∃ v1800x0 v1800x1 v1800x2 v1800x3 v1800x4 v1800x5 v1800x6 v1800x7 v1800x8 v1800x9 v1800x10 v1800x11 v1800x12 v1800x13 v1800x14 v1800x15 v1800x16 v1800x17 v1800x18 v1800x19 v1800x20 v1800x21 v1800x22 v1800x23 v1800x24 v1800x25 v1800x26 v1800x27 v1800x28 v1800x29 v1800x30 v1800x31 v1800x32, x = { tmps := #[CaseV a b c dv rp ms, ptr w.heap.size, v1800x32, ptr ga, ptr gb, ptr gc, ptr gj, ptr gm, ptr gd, .int .i64 3, .bool true, .bool false, u12, u13, u14, u15, u16, u17, u18, u19, u20, u21, u22, u23, u24, u25, u26, u27, u28, u29, u30, u31, u32, u33, u34, u35, u36, u37, u38, u39, u40, u41, u42, u43, u44, u45, u46, u47, u48, u49, u50, u51, u52, u53, u54, u55, u56, u57, u58, u59, u60, u61, u62, u63, u64, u65, u66, u67, u68, u69, u70, u71, u72, u73, u74, u75, u76, u77, u78, u79, u80, u81, u82, u83, u84, u85, u86, u87, u88, u89, u90, u91, u92, u93, u94, u95, u96, u97, u98, u99, u100, u101, u102, u103, u104, u105, u106, u107, u108, u109, u110, u111, u112, u113, .bool false, PV pm, PV pd, PV p13_2, .bool true, .bool false, .bool false, PV pm, PV pd, v13x8, PV p13_9, PV a, PV p13_11, .bool true, .bool false, .bool false, PV pj, .int .i64 zj, PV pm, .int .i64 zm, .int .i64 (zj + zm), PV a, .int .i64 za, PV b, .int .i64 zb, .int .i64 (za + zb), .bool false, .bool false, PV pd, .int .i64 zd, PV pm, .int .i64 zm, .int .i64 (zd + zm), PV a, .int .i64 za, .bool false, .bool false, PV a, PV b, .int .i64 3, v1800x0, v1800x1, v1800x2, v1800x3, v1800x4, v1800x5, v1800x6, v1800x7, v1800x8, v1800x9, v1800x10, v1800x11, v1800x12, v1800x13, v1800x14, v1800x15, v1800x16, v1800x17, v1800x18, v1800x19, v1800x20, v1800x21, v1800x22, v1800x23, v1800x24, v1800x25, v1800x26, v1800x27, v1800x28, v1800x29, v1800x30, v1800x31], defers := [] } ∧ BI 33 40 y15 (Ph1800 a b c pj pm pd w y15) [] [(26, IsP (mP a.P)), (28, IsP (mP b.P))] [] l W [v1800x0, v1800x1, v1800x2, v1800x3, v1800x4, v1800x5, v1800x6, v1800x7, v1800x8, v1800x9, v1800x10, v1800x11, v1800x12, v1800x13, v1800x14, v1800x15, v1800x16, v1800x17, v1800x18, v1800x19, v1800x20, v1800x21, v1800x22, v1800x23, v1800x24, v1800x25, v1800x26, v1800x27, v1800x28, v1800x29, v1800x30, v1800x31, v1800x32]) → ∀ i, i ∈ Region.ready .any #[{ dst := some 154, op := Op.load 25 (Operand.tmp 3), type := 25, pos := "law.go:208", after := #[], guard := none }, { dst := some 155, op := Op.load 25 (Operand.tmp 4), type := 25, pos := "law.go:208", after := #[], guard := none }, { dst := some 156, op := Op.call { callee := Callee.value (Operand.func 10), args := #[Operand.tmp 154, Operand.tmp 155], argTypes := #[25, 25] }, type := 4, pos := "law.go:208", after := #[{ on := 0, ground := Ground.data }, { on := 1, ground := Ground.data }], guard := none }, { dst := some 157, op := Op.move (Operand.tmp 9), type := 3, pos := "law.go:208", after := #[], guard := none }, { dst := some 158, op := Op.binOp BinOp.eql 3 (Operand.tmp 157) (Operand.const (Value.int IntKind.i64 0)) 3, type := 4, pos := "law.go:208", after := #[{ on := 3, ground := Ground.data }], guard := none }, { dst := some 159, op := Op.move (Operand.tmp 158), type := 4, pos := "law.go:208", after := #[{ on := 4, ground := Ground.data }, { on := 2, ground := Ground.chain }], guard := none }, { dst := some 160, op := Op.move (Operand.tmp 9), type := 3, pos := "law.go:208", after := #[{ on := 5, ground := Ground.guard }], guard := some (5, false) }, { dst := some 161, op := Op.binOp BinOp.eql 3 (Operand.tmp 160) (Operand.const (Value.int IntKind.i64 1)) 3, type := 4, pos := "law.go:208", after := #[{ on := 6, ground := Ground.data }, { on := 5, ground := Ground.guard }], guard := some (5, false) }, { dst := some 162, op := Op.pick (Operand.tmp 159) (Operand.const (Value.bool true)) (Operand.tmp 161), type := 4, pos := "law.go:208", after := #[{ on := 5, ground := Ground.data }, { on := 7, ground := Ground.data }], guard := none }, { dst := some 163, op := Op.binOp BinOp.eql 4 (Operand.tmp 156) (Operand.tmp 162) 4, type := 4, pos := "law.go:208", after := #[{ on := 2, ground := Ground.data }, { on := 8, ground := Ground.data }], guard := none }, { dst := some 164, op := Op.move (Operand.tmp 163), type := 4, pos := "law.go:208", after := #[{ on := 9, ground := Ground.data }, { on := 5, ground := Ground.chain }], guard := none }, { dst := some 165, op := Op.load 25 (Operand.tmp 4), type := 25, pos := "law.go:208", after := #[{ on := 10, ground := Ground.guard }], guard := some (10, true) }, { dst := some 166, op := Op.load 25 (Operand.tmp 3), type := 25, pos := "law.go:208", after := #[{ on := 10, ground := Ground.guard }], guard := some (10, true) }, { dst := some 167, op := Op.call { callee := Callee.value (Operand.func 10), args := #[Operand.tmp 165, Operand.tmp 166], argTypes := #[25, 25] }, type := 4, pos := "law.go:208", after := #[{ on := 11, ground := Ground.data }, { on := 12, ground := Ground.data }, { on := 10, ground := Ground.chain }, { on := 10, ground := Ground.guard }], guard := some (10, true) }, { dst := some 168, op := Op.move (Operand.tmp 9), type := 3, pos := "law.go:208", after := #[{ on := 10, ground := Ground.guard }], guard := some (10, true) }, { dst := some 169, op := Op.binOp BinOp.eql 3 (Operand.tmp 168) (Operand.const (Value.int IntKind.i64 0)) 3, type := 4, pos := "law.go:208", after := #[{ on := 14, ground := Ground.data }, { on := 10, ground := Ground.guard }], guard := some (10, true) }, { dst := some 170, op := Op.move (Operand.tmp 169), type := 4, pos := "law.go:208", after := #[{ on := 15, ground := Ground.data }, { on := 13, ground := Ground.chain }, { on := 10, ground := Ground.guard }], guard := some (10, true) }, { dst := some 171, op := Op.move (Operand.tmp 9), type := 3, pos := "law.go:208", after := #[{ on := 16, ground := Ground.guard }], guard := some (16, false) }, { dst := some 172, op := Op.binOp BinOp.eql 3 (Operand.tmp 171) (Operand.const (Value.int IntKind.i64 2)) 3, type := 4, pos := "law.go:208", after := #[{ on := 17, ground := Ground.data }, { on := 16, ground := Ground.guard }], guard := some (16, false) }, { dst := some 173, op := Op.pick (Operand.tmp 170) (Operand.const (Value.bool true)) (Operand.tmp 172), type := 4, pos := "law.go:208", after := #[{ on := 16, ground := Ground.data }, { on := 18, ground := Ground.data }, { on := 10, ground := Ground.guard }], guard := some (10, true) }, { dst := some 174, op := Op.binOp BinOp.eql 4 (Operand.tmp 167) (Operand.tmp 173) 4, type := 4, pos := "law.go:208", after := #[{ on := 13, ground := Ground.data }, { on := 19, ground := Ground.data }, { on := 10, ground := Ground.guard }], guard := some (10, true) }, { dst := some 175, op := Op.pick (Operand.tmp 164) (Operand.tmp 174) (Operand.const (Value.bool false)), type := 4, pos := "law.go:208", after := #[{ on := 10, ground := Ground.data }, { on := 20, ground := Ground.data }], guard := none }, { dst := some 176, op := Op.move (Operand.tmp 175), type := 4, pos := "law.go:208", after := #[{ on := 21, ground := Ground.data }, { on := 16, ground := Ground.chain }], guard := none }, { dst := some 177, op := Op.move (Operand.tmp 9), type := 3, pos := "law.go:208", after := #[{ on := 22, ground := Ground.guard }], guard := some (22, true) }, { dst := some 178, op := Op.binOp BinOp.eql 3 (Operand.tmp 177) (Operand.const (Value.int IntKind.i64 0)) 3, type := 4, pos := "law.go:208", after := #[{ on := 23, ground := Ground.data }, { on := 22, ground := Ground.guard }], guard := some (22, true) }, { dst := some 179, op := Op.load 25 (Operand.tmp 3), type := 25, pos := "law.go:208", after := #[{ on := 22, ground := Ground.guard }], guard := some (22, true) }, { dst := some 180, op := Op.call { callee := Callee.value (Operand.func 9), args := #[Operand.tmp 179], argTypes := #[25] }, type := 25, pos := "law.go:208", after := #[{ on := 25, ground := Ground.data }, { on := 22, ground := Ground.chain }, { on := 22, ground := Ground.guard }], guard := some (22, true) }, { dst := some 181, op := Op.load 25 (Operand.tmp 4), type := 25, pos := "law.go:208", after := #[{ on := 22, ground := Ground.guard }], guard := some (22, true) }, { dst := some 182, op := Op.call { callee := Callee.value (Operand.func 9), args := #[Operand.tmp 181], argTypes := #[25] }, type := 25, pos := "law.go:208", after := #[{ on := 27, ground := Ground.data }, { on := 26, ground := Ground.chain }, { on := 22, ground := Ground.guard }], guard := some (22, true) }, { dst := some 183, op := Op.call { callee := Callee.value (Operand.func 8), args := #[Operand.tmp 180, Operand.tmp 182], argTypes := #[25, 25] }, type := 4, pos := "law.go:208", after := #[{ on := 26, ground := Ground.data }, { on := 28, ground := Ground.data }, { on := 28, ground := Ground.chain }, { on := 22, ground := Ground.guard }], guard := some (22, true) }, { dst := some 184, op := Op.binOp BinOp.eql 4 (Operand.tmp 178) (Operand.tmp 183) 4, type := 4, pos := "law.go:208", after := #[{ on := 24, ground := Ground.data }, { on := 29, ground := Ground.data }, { on := 22, ground := Ground.guard }], guard := some (22, true) }, { dst := some 185, op := Op.pick (Operand.tmp 176) (Operand.tmp 184) (Operand.const (Value.bool false)), type := 4, pos := "law.go:208", after := #[{ on := 22, ground := Ground.data }, { on := 30, ground := Ground.data }], guard := none }, { dst := some 2, op := Op.assign (Operand.tmp 185), type := 4, pos := "law.go:208", after := #[{ on := 31, ground := Ground.data }, { on := 29, ground := Ground.chain }, { on := 0, ground := Ground.phase }, { on := 1, ground := Ground.phase }, { on := 2, ground := Ground.phase }, { on := 3, ground := Ground.phase }, { on := 4, ground := Ground.phase }, { on := 5, ground := Ground.phase }, { on := 6, ground := Ground.phase }, { on := 7, ground := Ground.phase }, { on := 8, ground := Ground.phase }, { on := 9, ground := Ground.phase }, { on := 10, ground := Ground.phase }, { on := 11, ground := Ground.phase }, { on := 12, ground := Ground.phase }, { on := 13, ground := Ground.phase }, { on := 14, ground := Ground.phase }, { on := 15, ground := Ground.phase }, { on := 16, ground := Ground.phase }, { on := 17, ground := Ground.phase }, { on := 18, ground := Ground.phase }, { on := 19, ground := Ground.phase }, { on := 20, ground := Ground.phase }, { on := 21, ground := Ground.phase }, { on := 22, ground := Ground.phase }, { on := 23, ground := Ground.phase }, { on := 24, ground := Ground.phase }, { on := 25, ground := Ground.phase }, { on := 26, ground := Ground.phase }, { on := 27, ground := Ground.phase }, { on := 28, ground := Ground.phase }, { on := 29, ground := Ground.phase }, { on := 30, ground := Ground.phase }, { on := 31, ground := Ground.phase }], guard := none }] l → wpOp Try.prog #[{ dst := some 154, op := Op.load 25 (Operand.tmp 3), type := 25, pos := "law.go:208", after := #[], guard := none }, { dst := some 155, op := Op.load 25 (Operand.tmp 4), type := 25, pos := "law.go:208", after := #[], guard := none }, { dst := some 156, op := Op.call { callee := Callee.value (Operand.func 10), args := #[Operand.tmp 154, Operand.tmp 155], argTypes := #[25, 25] }, type := 4, pos := "law.go:208", after := #[{ on := 0, ground := Ground.data }, { on := 1, ground := Ground.data }], guard := none }, { dst := some 157, op := Op.move (Operand.tmp 9), type := 3, pos := "law.go:208", after := #[], guard := none }, { dst := some 158, op := Op.binOp BinOp.eql 3 (Operand.tmp 157) (Operand.const (Value.int IntKind.i64 0)) 3, type := 4, pos := "law.go:208", after := #[{ on := 3, ground := Ground.data }], guard := none }, { dst := some 159, op := Op.move (Operand.tmp 158), type := 4, pos := "law.go:208", after := #[{ on := 4, ground := Ground.data }, { on := 2, ground := Ground.chain }], guard := none }, { dst := some 160, op := Op.move (Operand.tmp 9), type := 3, pos := "law.go:208", after := #[{ on := 5, ground := Ground.guard }], guard := some (5, false) }, { dst := some 161, op := Op.binOp BinOp.eql 3 (Operand.tmp 160) (Operand.const (Value.int IntKind.i64 1)) 3, type := 4, pos := "law.go:208", after := #[{ on := 6, ground := Ground.data }, { on := 5, ground := Ground.guard }], guard := some (5, false) }, { dst := some 162, op := Op.pick (Operand.tmp 159) (Operand.const (Value.bool true)) (Operand.tmp 161), type := 4, pos := "law.go:208", after := #[{ on := 5, ground := Ground.data }, { on := 7, ground := Ground.data }], guard := none }, { dst := some 163, op := Op.binOp BinOp.eql 4 (Operand.tmp 156) (Operand.tmp 162) 4, type := 4, pos := "law.go:208", after := #[{ on := 2, ground := Ground.data }, { on := 8, ground := Ground.data }], guard := none }, { dst := some 164, op := Op.move (Operand.tmp 163), type := 4, pos := "law.go:208", after := #[{ on := 9, ground := Ground.data }, { on := 5, ground := Ground.chain }], guard := none }, { dst := some 165, op := Op.load 25 (Operand.tmp 4), type := 25, pos := "law.go:208", after := #[{ on := 10, ground := Ground.guard }], guard := some (10, true) }, { dst := some 166, op := Op.load 25 (Operand.tmp 3), type := 25, pos := "law.go:208", after := #[{ on := 10, ground := Ground.guard }], guard := some (10, true) }, { dst := some 167, op := Op.call { callee := Callee.value (Operand.func 10), args := #[Operand.tmp 165, Operand.tmp 166], argTypes := #[25, 25] }, type := 4, pos := "law.go:208", after := #[{ on := 11, ground := Ground.data }, { on := 12, ground := Ground.data }, { on := 10, ground := Ground.chain }, { on := 10, ground := Ground.guard }], guard := some (10, true) }, { dst := some 168, op := Op.move (Operand.tmp 9), type := 3, pos := "law.go:208", after := #[{ on := 10, ground := Ground.guard }], guard := some (10, true) }, { dst := some 169, op := Op.binOp BinOp.eql 3 (Operand.tmp 168) (Operand.const (Value.int IntKind.i64 0)) 3, type := 4, pos := "law.go:208", after := #[{ on := 14, ground := Ground.data }, { on := 10, ground := Ground.guard }], guard := some (10, true) }, { dst := some 170, op := Op.move (Operand.tmp 169), type := 4, pos := "law.go:208", after := #[{ on := 15, ground := Ground.data }, { on := 13, ground := Ground.chain }, { on := 10, ground := Ground.guard }], guard := some (10, true) }, { dst := some 171, op := Op.move (Operand.tmp 9), type := 3, pos := "law.go:208", after := #[{ on := 16, ground := Ground.guard }], guard := some (16, false) }, { dst := some 172, op := Op.binOp BinOp.eql 3 (Operand.tmp 171) (Operand.const (Value.int IntKind.i64 2)) 3, type := 4, pos := "law.go:208", after := #[{ on := 17, ground := Ground.data }, { on := 16, ground := Ground.guard }], guard := some (16, false) }, { dst := some 173, op := Op.pick (Operand.tmp 170) (Operand.const (Value.bool true)) (Operand.tmp 172), type := 4, pos := "law.go:208", after := #[{ on := 16, ground := Ground.data }, { on := 18, ground := Ground.data }, { on := 10, ground := Ground.guard }], guard := some (10, true) }, { dst := some 174, op := Op.binOp BinOp.eql 4 (Operand.tmp 167) (Operand.tmp 173) 4, type := 4, pos := "law.go:208", after := #[{ on := 13, ground := Ground.data }, { on := 19, ground := Ground.data }, { on := 10, ground := Ground.guard }], guard := some (10, true) }, { dst := some 175, op := Op.pick (Operand.tmp 164) (Operand.tmp 174) (Operand.const (Value.bool false)), type := 4, pos := "law.go:208", after := #[{ on := 10, ground := Ground.data }, { on := 20, ground := Ground.data }], guard := none }, { dst := some 176, op := Op.move (Operand.tmp 175), type := 4, pos := "law.go:208", after := #[{ on := 21, ground := Ground.data }, { on := 16, ground := Ground.chain }], guard := none }, { dst := some 177, op := Op.move (Operand.tmp 9), type := 3, pos := "law.go:208", after := #[{ on := 22, ground := Ground.guard }], guard := some (22, true) }, { dst := some 178, op := Op.binOp BinOp.eql 3 (Operand.tmp 177) (Operand.const (Value.int IntKind.i64 0)) 3, type := 4, pos := "law.go:208", after := #[{ on := 23, ground := Ground.data }, { on := 22, ground := Ground.guard }], guard := some (22, true) }, { dst := some 179, op := Op.load 25 (Operand.tmp 3), type := 25, pos := "law.go:208", after := #[{ on := 22, ground := Ground.guard }], guard := some (22, true) }, { dst := some 180, op := Op.call { callee := Callee.value (Operand.func 9), args := #[Operand.tmp 179], argTypes := #[25] }, type := 25, pos := "law.go:208", after := #[{ on := 25, ground := Ground.data }, { on := 22, ground := Ground.chain }, { on := 22, ground := Ground.guard }], guard := some (22, true) }, { dst := some 181, op := Op.load 25 (Operand.tmp 4), type := 25, pos := "law.go:208", after := #[{ on := 22, ground := Ground.guard }], guard := some (22, true) }, { dst := some 182, op := Op.call { callee := Callee.value (Operand.func 9), args := #[Operand.tmp 181], argTypes := #[25] }, type := 25, pos := "law.go:208", after := #[{ on := 27, ground := Ground.data }, { on := 26, ground := Ground.chain }, { on := 22, ground := Ground.guard }], guard := some (22, true) }, { dst := some 183, op := Op.call { callee := Callee.value (Operand.func 8), args := #[Operand.tmp 180, Operand.tmp 182], argTypes := #[25, 25] }, type := 4, pos := "law.go:208", after := #[{ on := 26, ground := Ground.data }, { on := 28, ground := Ground.data }, { on := 28, ground := Ground.chain }, { on := 22, ground := Ground.guard }], guard := some (22, true) }, { dst := some 184, op := Op.binOp BinOp.eql 4 (Operand.tmp 178) (Operand.tmp 183) 4, type := 4, pos := "law.go:208", after := #[{ on := 24, ground := Ground.data }, { on := 29, ground := Ground.data }, { on := 22, ground := Ground.guard }], guard := some (22, true) }, { dst := some 185, op := Op.pick (Operand.tmp 176) (Operand.tmp 184) (Operand.const (Value.bool false)), type := 4, pos := "law.go:208", after := #[{ on := 22, ground := Ground.data }, { on := 30, ground := Ground.data }], guard := none }, { dst := some 2, op := Op.assign (Operand.tmp 185), type := 4, pos := "law.go:208", after := #[{ on := 31, ground := Ground.data }, { on := 29, ground := Ground.chain }, { on := 0, ground := Ground.phase }, { on := 1, ground := Ground.phase }, { on := 2, ground := Ground.phase }, { on := 3, ground := Ground.phase }, { on := 4, ground := Ground.phase }, { on := 5, ground := Ground.phase }, { on := 6, ground := Ground.phase }, { on := 7, ground := Ground.phase }, { on := 8, ground := Ground.phase }, { on := 9, ground := Ground.phase }, { on := 10, ground := Ground.phase }, { on := 11, ground := Ground.phase }, { on := 12, ground := Ground.phase }, { on := 13, ground := Ground.phase }, { on := 14, ground := Ground.phase }, { on := 15, ground := Ground.phase }, { on := 16, ground := Ground.phase }, { on := 17, ground := Ground.phase }, { on := 18, ground := Ground.phase }, { on := 19, ground := Ground.phase }, { on := 20, ground := Ground.phase }, { on := 21, ground := Ground.phase }, { on := 22, ground := Ground.phase }, { on := 23, ground := Ground.phase }, { on := 24, ground := Ground.phase }, { on := 25, ground := Ground.phase }, { on := 26, ground := Ground.phase }, { on := 27, ground := Ground.phase }, { on := 28, ground := Ground.phase }, { on := 29, ground := Ground.phase }, { on := 30, ground := Ground.phase }, { on := 31, ground := Ground.phase }], guard := none }] Q i (fun a' w' => ∃ v1800x0 v1800x1 v1800x2 v1800x3 v1800x4 v1800x5 v1800x6 v1800x7 v1800x8 v1800x9 v1800x10 v1800x11 v1800x12 v1800x13 v1800x14 v1800x15 v1800x16 v1800x17 v1800x18 v1800x19 v1800x20 v1800x21 v1800x22 v1800x23 v1800x24 v1800x25 v1800x26 v1800x27 v1800x28 v1800x29 v1800x30 v1800x31 v1800x32, a' = { tmps := #[CaseV a b c dv rp ms, ptr w.heap.size, v1800x32, ptr ga, ptr gb, ptr gc, ptr gj, ptr gm, ptr gd, .int .i64 3, .bool true, .bool false, u12, u13, u14, u15, u16, u17, u18, u19, u20, u21, u22, u23, u24, u25, u26, u27, u28, u29, u30, u31, u32, u33, u34, u35, u36, u37, u38, u39, u40, u41, u42, u43, u44, u45, u46, u47, u48, u49, u50, u51, u52, u53, u54, u55, u56, u57, u58, u59, u60, u61, u62, u63, u64, u65, u66, u67, u68, u69, u70, u71, u72, u73, u74, u75, u76, u77, u78, u79, u80, u81, u82, u83, u84, u85, u86, u87, u88, u89, u90, u91, u92, u93, u94, u95, u96, u97, u98, u99, u100, u101, u102, u103, u104, u105, u106, u107, u108, u109, u110, u111, u112, u113, .bool false, PV pm, PV pd, PV p13_2, .bool true, .bool false, .bool false, PV pm, PV pd, v13x8, PV p13_9, PV a, PV p13_11, .bool true, .bool false, .bool false, PV pj, .int .i64 zj, PV pm, .int .i64 zm, .int .i64 (zj + zm), PV a, .int .i64 za, PV b, .int .i64 zb, .int .i64 (za + zb), .bool false, .bool false, PV pd, .int .i64 zd, PV pm, .int .i64 zm, .int .i64 (zd + zm), PV a, .int .i64 za, .bool false, .bool false, PV a, PV b, .int .i64 3, v1800x0, v1800x1, v1800x2, v1800x3, v1800x4, v1800x5, v1800x6, v1800x7, v1800x8, v1800x9, v1800x10, v1800x11, v1800x12, v1800x13, v1800x14, v1800x15, v1800x16, v1800x17, v1800x18, v1800x19, v1800x20, v1800x21, v1800x22, v1800x23, v1800x24, v1800x25, v1800x26, v1800x27, v1800x28, v1800x29, v1800x30, v1800x31], defers := [] } ∧ BI 33 40 y15 (Ph1800 a b c pj pm pd w y15) [] [(26, IsP (mP a.P)), (28, IsP (mP b.P))] [] (l.setIfInBounds i true) w' [v1800x0, v1800x1, v1800x2, v1800x3, v1800x4, v1800x5, v1800x6, v1800x7, v1800x8, v1800x9, v1800x10, v1800x11, v1800x12, v1800x13, v1800x14, v1800x15, v1800x16, v1800x17, v1800x18, v1800x19, v1800x20, v1800x21, v1800x22, v1800x23, v1800x24, v1800x25, v1800x26, v1800x27, v1800x28, v1800x29, v1800x30, v1800x31, v1800x32]) x W := by
  rintro l x W ⟨v1800x0, v1800x1, v1800x2, v1800x3, v1800x4, v1800x5, v1800x6, v1800x7, v1800x8, v1800x9, v1800x10, v1800x11, v1800x12, v1800x13, v1800x14, v1800x15, v1800x16, v1800x17, v1800x18, v1800x19, v1800x20, v1800x21, v1800x22, v1800x23, v1800x24, v1800x25, v1800x26, v1800x27, v1800x28, v1800x29, v1800x30, v1800x31, v1800x32, rfl, T⟩ i hi
  obtain ⟨hi1, hi2, hi3⟩ := ready_mem hi
  have hi4 := no_true hi2
  have hc : i = 0 ∨ i = 1 ∨ i = 2 ∨ i = 3 ∨ i = 4 ∨ i = 5 ∨ i = 6 ∨ i = 7 ∨ i = 8 ∨ i = 9 ∨ i = 10 ∨ i = 11 ∨ i = 12 ∨ i = 13 ∨ i = 14 ∨ i = 15 ∨ i = 16 ∨ i = 17 ∨ i = 18 ∨ i = 19 ∨ i = 20 ∨ i = 21 ∨ i = 22 ∨ i = 23 ∨ i = 24 ∨ i = 25 ∨ i = 26 ∨ i = 27 ∨ i = 28 ∨ i = 29 ∨ i = 30 ∨ i = 31 ∨ i = 32 := by have h : i < 33 := hi1; omega
  have HT := hide T
  clear T
  rcases hc with rfl | rfl | rfl | rfl | rfl | rfl | rfl | rfl | rfl | rfl | rfl | rfl | rfl | rfl | rfl | rfl | rfl | rfl | rfl | rfl | rfl | rfl | rfl | rfl | rfl | rfl | rfl | rfl | rfl | rfl | rfl | rfl | rfl
  · have HL := hide hi4
    clear hi hi1 hi2 hi3 hi4
    have l1 := run_ldP (HXga.out.below HT.out.b).at
    refine wpOp_step (o := { dst := some 154, op := Op.load 25 (Operand.tmp 3), type := 25, pos := "law.go:208", after := #[], guard := none }) rfl (fun K hK => ?_)
    go_simp
    exact hK _ _ ⟨PV a, v1800x1, v1800x2, v1800x3, v1800x4, v1800x5, v1800x6, v1800x7, v1800x8, v1800x9, v1800x10, v1800x11, v1800x12, v1800x13, v1800x14, v1800x15, v1800x16, v1800x17, v1800x18, v1800x19, v1800x20, v1800x21, v1800x22, v1800x23, v1800x24, v1800x25, v1800x26, v1800x27, v1800x28, v1800x29, v1800x30, v1800x31, v1800x32, rfl, HT.out.plain (Ph1800_mono a b c pj pm pd w y15) (Below.refl _ _) 0 (by decide) HL.out _ rfl (by simp) (by simp) (by decide)⟩
  · have HL := hide hi4
    clear hi hi1 hi2 hi3 hi4
    have l1 := run_ldP (HXgb.out.below HT.out.b).at
    refine wpOp_step (o := { dst := some 155, op := Op.load 25 (Operand.tmp 4), type := 25, pos := "law.go:208", after := #[], guard := none }) rfl (fun K hK => ?_)
    go_simp
    exact hK _ _ ⟨v1800x0, PV b, v1800x2, v1800x3, v1800x4, v1800x5, v1800x6, v1800x7, v1800x8, v1800x9, v1800x10, v1800x11, v1800x12, v1800x13, v1800x14, v1800x15, v1800x16, v1800x17, v1800x18, v1800x19, v1800x20, v1800x21, v1800x22, v1800x23, v1800x24, v1800x25, v1800x26, v1800x27, v1800x28, v1800x29, v1800x30, v1800x31, v1800x32, rfl, HT.out.plain (Ph1800_mono a b c pj pm pd w y15) (Below.refl _ _) 1 (by decide) HL.out _ rfl (by simp) (by simp) (by decide)⟩
  · have d0 := hi3 _ rfl { on := 0, ground := Ground.data } (by simp) rfl
    have d1 := hi3 _ rfl { on := 1, ground := Ground.data } (by simp) rfl
    have e0 : v1800x0 = PV a := HT.out.h 0 (by decide) d0 (fun hm => absurd hm (by decide))
    subst e0
    have e1 : v1800x1 = PV b := HT.out.h 1 (by decide) d1 (fun hm => absurd hm (by decide))
    subst e1
    have HL := hide hi4
    clear hi hi1 hi2 hi3 hi4 d0 d1
    refine wpOp_step (o := { dst := some 156, op := Op.call { callee := Callee.value (Operand.func 10), args := #[Operand.tmp 154, Operand.tmp 155], argTypes := #[25, 25] }, type := 4, pos := "law.go:208", after := #[{ on := 0, ground := Ground.data }, { on := 1, ground := Ground.data }], guard := none }) rfl (fun K hK => ?_)
    go_simp
    go_wp2_with fail
    refine (pastWithin_any a b _ (HA.out.below HT.out.b) (HB.out.below HT.out.b)).mono ?_
    rintro e w' ⟨z, rfl, hz, pb⟩
    obtain rfl : z = false := by have h := hz.trans HXX.out.out.symm; cases z <;> simp_all
    exact hK _ _ ⟨_, _, .bool false, v1800x3, v1800x4, v1800x5, v1800x6, v1800x7, v1800x8, v1800x9, v1800x10, v1800x11, v1800x12, v1800x13, v1800x14, v1800x15, v1800x16, v1800x17, v1800x18, v1800x19, v1800x20, v1800x21, v1800x22, v1800x23, v1800x24, v1800x25, v1800x26, v1800x27, v1800x28, v1800x29, v1800x30, v1800x31, v1800x32, rfl, HT.out.plain (Ph1800_mono a b c pj pm pd w y15) pb 2 (by decide) HL.out _ rfl (by simp) (by simp) (by decide)⟩
  · have HL := hide hi4
    clear hi hi1 hi2 hi3 hi4
    refine wpOp_step (o := { dst := some 157, op := Op.move (Operand.tmp 9), type := 3, pos := "law.go:208", after := #[], guard := none }) rfl (fun K hK => ?_)
    go_simp
    exact hK _ _ ⟨v1800x0, v1800x1, v1800x2, .int .i64 3, v1800x4, v1800x5, v1800x6, v1800x7, v1800x8, v1800x9, v1800x10, v1800x11, v1800x12, v1800x13, v1800x14, v1800x15, v1800x16, v1800x17, v1800x18, v1800x19, v1800x20, v1800x21, v1800x22, v1800x23, v1800x24, v1800x25, v1800x26, v1800x27, v1800x28, v1800x29, v1800x30, v1800x31, v1800x32, rfl, HT.out.plain (Ph1800_mono a b c pj pm pd w y15) (Below.refl _ _) 3 (by decide) HL.out _ rfl (by simp) (by simp) (by decide)⟩
  · have d3 := hi3 _ rfl { on := 3, ground := Ground.data } (by simp) rfl
    have e3 : v1800x3 = .int .i64 3 := HT.out.h 3 (by decide) d3 (fun hm => absurd hm (by decide))
    subst e3
    have HL := hide hi4
    clear hi hi1 hi2 hi3 hi4 d3
    refine wpOp_step (o := { dst := some 158, op := Op.binOp BinOp.eql 3 (Operand.tmp 157) (Operand.const (Value.int IntKind.i64 0)) 3, type := 4, pos := "law.go:208", after := #[{ on := 3, ground := Ground.data }], guard := none }) rfl (fun K hK => ?_)
    go_simp
    exact hK _ _ ⟨v1800x0, v1800x1, v1800x2, _, .bool false, v1800x5, v1800x6, v1800x7, v1800x8, v1800x9, v1800x10, v1800x11, v1800x12, v1800x13, v1800x14, v1800x15, v1800x16, v1800x17, v1800x18, v1800x19, v1800x20, v1800x21, v1800x22, v1800x23, v1800x24, v1800x25, v1800x26, v1800x27, v1800x28, v1800x29, v1800x30, v1800x31, v1800x32, rfl, HT.out.plain (Ph1800_mono a b c pj pm pd w y15) (Below.refl _ _) 4 (by decide) HL.out _ rfl (by simp) (by simp) (by decide)⟩
  · have d4 := hi3 _ rfl { on := 4, ground := Ground.data } (by simp) rfl
    have e4 : v1800x4 = .bool false := HT.out.h 4 (by decide) d4 (fun hm => absurd hm (by decide))
    subst e4
    have HL := hide hi4
    clear hi hi1 hi2 hi3 hi4 d4
    refine wpOp_step (o := { dst := some 159, op := Op.move (Operand.tmp 158), type := 4, pos := "law.go:208", after := #[{ on := 4, ground := Ground.data }, { on := 2, ground := Ground.chain }], guard := none }) rfl (fun K hK => ?_)
    go_simp
    exact hK _ _ ⟨v1800x0, v1800x1, v1800x2, v1800x3, _, .bool false, v1800x6, v1800x7, v1800x8, v1800x9, v1800x10, v1800x11, v1800x12, v1800x13, v1800x14, v1800x15, v1800x16, v1800x17, v1800x18, v1800x19, v1800x20, v1800x21, v1800x22, v1800x23, v1800x24, v1800x25, v1800x26, v1800x27, v1800x28, v1800x29, v1800x30, v1800x31, v1800x32, rfl, HT.out.plain (Ph1800_mono a b c pj pm pd w y15) (Below.refl _ _) 5 (by decide) HL.out _ rfl (by simp) (by simp) (by decide)⟩
  · have d5 := hi3 _ rfl { on := 5, ground := Ground.guard } (by simp) rfl
    have e5 : v1800x5 = .bool false := HT.out.h 5 (by decide) d5 (fun hm => absurd hm (by decide))
    subst e5
    have HL := hide hi4
    clear hi hi1 hi2 hi3 hi4 d5
    refine wpOp_step (o := { dst := some 160, op := Op.move (Operand.tmp 9), type := 3, pos := "law.go:208", after := #[{ on := 5, ground := Ground.guard }], guard := some (5, false) }) rfl (fun K hK => ?_)
    go_simp
    exact hK _ _ ⟨v1800x0, v1800x1, v1800x2, v1800x3, v1800x4, _, .int .i64 3, v1800x7, v1800x8, v1800x9, v1800x10, v1800x11, v1800x12, v1800x13, v1800x14, v1800x15, v1800x16, v1800x17, v1800x18, v1800x19, v1800x20, v1800x21, v1800x22, v1800x23, v1800x24, v1800x25, v1800x26, v1800x27, v1800x28, v1800x29, v1800x30, v1800x31, v1800x32, rfl, HT.out.plain (Ph1800_mono a b c pj pm pd w y15) (Below.refl _ _) 6 (by decide) HL.out _ rfl (by simp) (by simp) (by decide)⟩
  · have d6 := hi3 _ rfl { on := 6, ground := Ground.data } (by simp) rfl
    have d5 := hi3 _ rfl { on := 5, ground := Ground.guard } (by simp) rfl
    have e6 : v1800x6 = .int .i64 3 := HT.out.h 6 (by decide) d6 (fun hm => absurd hm (by decide))
    subst e6
    have e5 : v1800x5 = .bool false := HT.out.h 5 (by decide) d5 (fun hm => absurd hm (by decide))
    subst e5
    have HL := hide hi4
    clear hi hi1 hi2 hi3 hi4 d6 d5
    refine wpOp_step (o := { dst := some 161, op := Op.binOp BinOp.eql 3 (Operand.tmp 160) (Operand.const (Value.int IntKind.i64 1)) 3, type := 4, pos := "law.go:208", after := #[{ on := 6, ground := Ground.data }, { on := 5, ground := Ground.guard }], guard := some (5, false) }) rfl (fun K hK => ?_)
    go_simp
    exact hK _ _ ⟨v1800x0, v1800x1, v1800x2, v1800x3, v1800x4, _, _, .bool false, v1800x8, v1800x9, v1800x10, v1800x11, v1800x12, v1800x13, v1800x14, v1800x15, v1800x16, v1800x17, v1800x18, v1800x19, v1800x20, v1800x21, v1800x22, v1800x23, v1800x24, v1800x25, v1800x26, v1800x27, v1800x28, v1800x29, v1800x30, v1800x31, v1800x32, rfl, HT.out.plain (Ph1800_mono a b c pj pm pd w y15) (Below.refl _ _) 7 (by decide) HL.out _ rfl (by simp) (by simp) (by decide)⟩
  · have d5 := hi3 _ rfl { on := 5, ground := Ground.data } (by simp) rfl
    have d7 := hi3 _ rfl { on := 7, ground := Ground.data } (by simp) rfl
    have e5 : v1800x5 = .bool false := HT.out.h 5 (by decide) d5 (fun hm => absurd hm (by decide))
    subst e5
    have e7 : v1800x7 = .bool false := HT.out.h 7 (by decide) d7 (fun hm => absurd hm (by decide))
    subst e7
    have HL := hide hi4
    clear hi hi1 hi2 hi3 hi4 d5 d7
    refine wpOp_step (o := { dst := some 162, op := Op.pick (Operand.tmp 159) (Operand.const (Value.bool true)) (Operand.tmp 161), type := 4, pos := "law.go:208", after := #[{ on := 5, ground := Ground.data }, { on := 7, ground := Ground.data }], guard := none }) rfl (fun K hK => ?_)
    go_simp
    exact hK _ _ ⟨v1800x0, v1800x1, v1800x2, v1800x3, v1800x4, _, v1800x6, _, .bool false, v1800x9, v1800x10, v1800x11, v1800x12, v1800x13, v1800x14, v1800x15, v1800x16, v1800x17, v1800x18, v1800x19, v1800x20, v1800x21, v1800x22, v1800x23, v1800x24, v1800x25, v1800x26, v1800x27, v1800x28, v1800x29, v1800x30, v1800x31, v1800x32, rfl, HT.out.plain (Ph1800_mono a b c pj pm pd w y15) (Below.refl _ _) 8 (by decide) HL.out _ rfl (by simp) (by simp) (by decide)⟩
  · have d2 := hi3 _ rfl { on := 2, ground := Ground.data } (by simp) rfl
    have d8 := hi3 _ rfl { on := 8, ground := Ground.data } (by simp) rfl
    have e2 : v1800x2 = .bool false := HT.out.h 2 (by decide) d2 (fun hm => absurd hm (by decide))
    subst e2
    have e8 : v1800x8 = .bool false := HT.out.h 8 (by decide) d8 (fun hm => absurd hm (by decide))
    subst e8
    have HL := hide hi4
    clear hi hi1 hi2 hi3 hi4 d2 d8
    refine wpOp_step (o := { dst := some 163, op := Op.binOp BinOp.eql 4 (Operand.tmp 156) (Operand.tmp 162) 4, type := 4, pos := "law.go:208", after := #[{ on := 2, ground := Ground.data }, { on := 8, ground := Ground.data }], guard := none }) rfl (fun K hK => ?_)
    go_simp
    exact hK _ _ ⟨v1800x0, v1800x1, _, v1800x3, v1800x4, v1800x5, v1800x6, v1800x7, _, .bool true, v1800x10, v1800x11, v1800x12, v1800x13, v1800x14, v1800x15, v1800x16, v1800x17, v1800x18, v1800x19, v1800x20, v1800x21, v1800x22, v1800x23, v1800x24, v1800x25, v1800x26, v1800x27, v1800x28, v1800x29, v1800x30, v1800x31, v1800x32, rfl, HT.out.plain (Ph1800_mono a b c pj pm pd w y15) (Below.refl _ _) 9 (by decide) HL.out _ rfl (by simp) (by simp) (by decide)⟩
  · have d9 := hi3 _ rfl { on := 9, ground := Ground.data } (by simp) rfl
    have e9 : v1800x9 = .bool true := HT.out.h 9 (by decide) d9 (fun hm => absurd hm (by decide))
    subst e9
    have HL := hide hi4
    clear hi hi1 hi2 hi3 hi4 d9
    refine wpOp_step (o := { dst := some 164, op := Op.move (Operand.tmp 163), type := 4, pos := "law.go:208", after := #[{ on := 9, ground := Ground.data }, { on := 5, ground := Ground.chain }], guard := none }) rfl (fun K hK => ?_)
    go_simp
    exact hK _ _ ⟨v1800x0, v1800x1, v1800x2, v1800x3, v1800x4, v1800x5, v1800x6, v1800x7, v1800x8, _, .bool true, v1800x11, v1800x12, v1800x13, v1800x14, v1800x15, v1800x16, v1800x17, v1800x18, v1800x19, v1800x20, v1800x21, v1800x22, v1800x23, v1800x24, v1800x25, v1800x26, v1800x27, v1800x28, v1800x29, v1800x30, v1800x31, v1800x32, rfl, HT.out.plain (Ph1800_mono a b c pj pm pd w y15) (Below.refl _ _) 10 (by decide) HL.out _ rfl (by simp) (by simp) (by decide)⟩
  · have d10 := hi3 _ rfl { on := 10, ground := Ground.guard } (by simp) rfl
    have e10 : v1800x10 = .bool true := HT.out.h 10 (by decide) d10 (fun hm => absurd hm (by decide))
    subst e10
    have HL := hide hi4
    clear hi hi1 hi2 hi3 hi4 d10
    have l1 := run_ldP (HXgb.out.below HT.out.b).at
    refine wpOp_step (o := { dst := some 165, op := Op.load 25 (Operand.tmp 4), type := 25, pos := "law.go:208", after := #[{ on := 10, ground := Ground.guard }], guard := some (10, true) }) rfl (fun K hK => ?_)
    go_simp
    exact hK _ _ ⟨v1800x0, v1800x1, v1800x2, v1800x3, v1800x4, v1800x5, v1800x6, v1800x7, v1800x8, v1800x9, _, PV b, v1800x12, v1800x13, v1800x14, v1800x15, v1800x16, v1800x17, v1800x18, v1800x19, v1800x20, v1800x21, v1800x22, v1800x23, v1800x24, v1800x25, v1800x26, v1800x27, v1800x28, v1800x29, v1800x30, v1800x31, v1800x32, rfl, HT.out.plain (Ph1800_mono a b c pj pm pd w y15) (Below.refl _ _) 11 (by decide) HL.out _ rfl (by simp) (by simp) (by decide)⟩
  · have d10 := hi3 _ rfl { on := 10, ground := Ground.guard } (by simp) rfl
    have e10 : v1800x10 = .bool true := HT.out.h 10 (by decide) d10 (fun hm => absurd hm (by decide))
    subst e10
    have HL := hide hi4
    clear hi hi1 hi2 hi3 hi4 d10
    have l1 := run_ldP (HXga.out.below HT.out.b).at
    refine wpOp_step (o := { dst := some 166, op := Op.load 25 (Operand.tmp 3), type := 25, pos := "law.go:208", after := #[{ on := 10, ground := Ground.guard }], guard := some (10, true) }) rfl (fun K hK => ?_)
    go_simp
    exact hK _ _ ⟨v1800x0, v1800x1, v1800x2, v1800x3, v1800x4, v1800x5, v1800x6, v1800x7, v1800x8, v1800x9, _, v1800x11, PV a, v1800x13, v1800x14, v1800x15, v1800x16, v1800x17, v1800x18, v1800x19, v1800x20, v1800x21, v1800x22, v1800x23, v1800x24, v1800x25, v1800x26, v1800x27, v1800x28, v1800x29, v1800x30, v1800x31, v1800x32, rfl, HT.out.plain (Ph1800_mono a b c pj pm pd w y15) (Below.refl _ _) 12 (by decide) HL.out _ rfl (by simp) (by simp) (by decide)⟩
  · have d11 := hi3 _ rfl { on := 11, ground := Ground.data } (by simp) rfl
    have d12 := hi3 _ rfl { on := 12, ground := Ground.data } (by simp) rfl
    have d10 := hi3 _ rfl { on := 10, ground := Ground.chain } (by simp) rfl
    have e11 : v1800x11 = PV b := HT.out.h 11 (by decide) d11 (fun hm => absurd hm (by decide))
    subst e11
    have e12 : v1800x12 = PV a := HT.out.h 12 (by decide) d12 (fun hm => absurd hm (by decide))
    subst e12
    have e10 : v1800x10 = .bool true := HT.out.h 10 (by decide) d10 (fun hm => absurd hm (by decide))
    subst e10
    have HL := hide hi4
    clear hi hi1 hi2 hi3 hi4 d11 d12 d10
    refine wpOp_step (o := { dst := some 167, op := Op.call { callee := Callee.value (Operand.func 10), args := #[Operand.tmp 165, Operand.tmp 166], argTypes := #[25, 25] }, type := 4, pos := "law.go:208", after := #[{ on := 11, ground := Ground.data }, { on := 12, ground := Ground.data }, { on := 10, ground := Ground.chain }, { on := 10, ground := Ground.guard }], guard := some (10, true) }) rfl (fun K hK => ?_)
    go_simp
    go_wp2_with fail
    refine (pastWithin_any b a _ (HB.out.below HT.out.b) (HA.out.below HT.out.b)).mono ?_
    rintro e w' ⟨z, rfl, hz, pb⟩
    obtain rfl : z = false := by have h := hz.trans HYY.out.out.symm; cases z <;> simp_all
    exact hK _ _ ⟨v1800x0, v1800x1, v1800x2, v1800x3, v1800x4, v1800x5, v1800x6, v1800x7, v1800x8, v1800x9, _, _, _, .bool false, v1800x14, v1800x15, v1800x16, v1800x17, v1800x18, v1800x19, v1800x20, v1800x21, v1800x22, v1800x23, v1800x24, v1800x25, v1800x26, v1800x27, v1800x28, v1800x29, v1800x30, v1800x31, v1800x32, rfl, HT.out.plain (Ph1800_mono a b c pj pm pd w y15) pb 13 (by decide) HL.out _ rfl (by simp) (by simp) (by decide)⟩
  · have d10 := hi3 _ rfl { on := 10, ground := Ground.guard } (by simp) rfl
    have e10 : v1800x10 = .bool true := HT.out.h 10 (by decide) d10 (fun hm => absurd hm (by decide))
    subst e10
    have HL := hide hi4
    clear hi hi1 hi2 hi3 hi4 d10
    refine wpOp_step (o := { dst := some 168, op := Op.move (Operand.tmp 9), type := 3, pos := "law.go:208", after := #[{ on := 10, ground := Ground.guard }], guard := some (10, true) }) rfl (fun K hK => ?_)
    go_simp
    exact hK _ _ ⟨v1800x0, v1800x1, v1800x2, v1800x3, v1800x4, v1800x5, v1800x6, v1800x7, v1800x8, v1800x9, _, v1800x11, v1800x12, v1800x13, .int .i64 3, v1800x15, v1800x16, v1800x17, v1800x18, v1800x19, v1800x20, v1800x21, v1800x22, v1800x23, v1800x24, v1800x25, v1800x26, v1800x27, v1800x28, v1800x29, v1800x30, v1800x31, v1800x32, rfl, HT.out.plain (Ph1800_mono a b c pj pm pd w y15) (Below.refl _ _) 14 (by decide) HL.out _ rfl (by simp) (by simp) (by decide)⟩
  · have d14 := hi3 _ rfl { on := 14, ground := Ground.data } (by simp) rfl
    have d10 := hi3 _ rfl { on := 10, ground := Ground.guard } (by simp) rfl
    have e14 : v1800x14 = .int .i64 3 := HT.out.h 14 (by decide) d14 (fun hm => absurd hm (by decide))
    subst e14
    have e10 : v1800x10 = .bool true := HT.out.h 10 (by decide) d10 (fun hm => absurd hm (by decide))
    subst e10
    have HL := hide hi4
    clear hi hi1 hi2 hi3 hi4 d14 d10
    refine wpOp_step (o := { dst := some 169, op := Op.binOp BinOp.eql 3 (Operand.tmp 168) (Operand.const (Value.int IntKind.i64 0)) 3, type := 4, pos := "law.go:208", after := #[{ on := 14, ground := Ground.data }, { on := 10, ground := Ground.guard }], guard := some (10, true) }) rfl (fun K hK => ?_)
    go_simp
    exact hK _ _ ⟨v1800x0, v1800x1, v1800x2, v1800x3, v1800x4, v1800x5, v1800x6, v1800x7, v1800x8, v1800x9, _, v1800x11, v1800x12, v1800x13, _, .bool false, v1800x16, v1800x17, v1800x18, v1800x19, v1800x20, v1800x21, v1800x22, v1800x23, v1800x24, v1800x25, v1800x26, v1800x27, v1800x28, v1800x29, v1800x30, v1800x31, v1800x32, rfl, HT.out.plain (Ph1800_mono a b c pj pm pd w y15) (Below.refl _ _) 15 (by decide) HL.out _ rfl (by simp) (by simp) (by decide)⟩
  · have d15 := hi3 _ rfl { on := 15, ground := Ground.data } (by simp) rfl
    have d10 := hi3 _ rfl { on := 10, ground := Ground.guard } (by simp) rfl
    have e15 : v1800x15 = .bool false := HT.out.h 15 (by decide) d15 (fun hm => absurd hm (by decide))
    subst e15
    have e10 : v1800x10 = .bool true := HT.out.h 10 (by decide) d10 (fun hm => absurd hm (by decide))
    subst e10
    have HL := hide hi4
    clear hi hi1 hi2 hi3 hi4 d15 d10
    refine wpOp_step (o := { dst := some 170, op := Op.move (Operand.tmp 169), type := 4, pos := "law.go:208", after := #[{ on := 15, ground := Ground.data }, { on := 13, ground := Ground.chain }, { on := 10, ground := Ground.guard }], guard := some (10, true) }) rfl (fun K hK => ?_)
    go_simp
    exact hK _ _ ⟨v1800x0, v1800x1, v1800x2, v1800x3, v1800x4, v1800x5, v1800x6, v1800x7, v1800x8, v1800x9, _, v1800x11, v1800x12, v1800x13, v1800x14, _, .bool false, v1800x17, v1800x18, v1800x19, v1800x20, v1800x21, v1800x22, v1800x23, v1800x24, v1800x25, v1800x26, v1800x27, v1800x28, v1800x29, v1800x30, v1800x31, v1800x32, rfl, HT.out.plain (Ph1800_mono a b c pj pm pd w y15) (Below.refl _ _) 16 (by decide) HL.out _ rfl (by simp) (by simp) (by decide)⟩
  · have d16 := hi3 _ rfl { on := 16, ground := Ground.guard } (by simp) rfl
    have e16 : v1800x16 = .bool false := HT.out.h 16 (by decide) d16 (fun hm => absurd hm (by decide))
    subst e16
    have HL := hide hi4
    clear hi hi1 hi2 hi3 hi4 d16
    refine wpOp_step (o := { dst := some 171, op := Op.move (Operand.tmp 9), type := 3, pos := "law.go:208", after := #[{ on := 16, ground := Ground.guard }], guard := some (16, false) }) rfl (fun K hK => ?_)
    go_simp
    exact hK _ _ ⟨v1800x0, v1800x1, v1800x2, v1800x3, v1800x4, v1800x5, v1800x6, v1800x7, v1800x8, v1800x9, v1800x10, v1800x11, v1800x12, v1800x13, v1800x14, v1800x15, _, .int .i64 3, v1800x18, v1800x19, v1800x20, v1800x21, v1800x22, v1800x23, v1800x24, v1800x25, v1800x26, v1800x27, v1800x28, v1800x29, v1800x30, v1800x31, v1800x32, rfl, HT.out.plain (Ph1800_mono a b c pj pm pd w y15) (Below.refl _ _) 17 (by decide) HL.out _ rfl (by simp) (by simp) (by decide)⟩
  · have d17 := hi3 _ rfl { on := 17, ground := Ground.data } (by simp) rfl
    have d16 := hi3 _ rfl { on := 16, ground := Ground.guard } (by simp) rfl
    have e17 : v1800x17 = .int .i64 3 := HT.out.h 17 (by decide) d17 (fun hm => absurd hm (by decide))
    subst e17
    have e16 : v1800x16 = .bool false := HT.out.h 16 (by decide) d16 (fun hm => absurd hm (by decide))
    subst e16
    have HL := hide hi4
    clear hi hi1 hi2 hi3 hi4 d17 d16
    refine wpOp_step (o := { dst := some 172, op := Op.binOp BinOp.eql 3 (Operand.tmp 171) (Operand.const (Value.int IntKind.i64 2)) 3, type := 4, pos := "law.go:208", after := #[{ on := 17, ground := Ground.data }, { on := 16, ground := Ground.guard }], guard := some (16, false) }) rfl (fun K hK => ?_)
    go_simp
    exact hK _ _ ⟨v1800x0, v1800x1, v1800x2, v1800x3, v1800x4, v1800x5, v1800x6, v1800x7, v1800x8, v1800x9, v1800x10, v1800x11, v1800x12, v1800x13, v1800x14, v1800x15, _, _, .bool false, v1800x19, v1800x20, v1800x21, v1800x22, v1800x23, v1800x24, v1800x25, v1800x26, v1800x27, v1800x28, v1800x29, v1800x30, v1800x31, v1800x32, rfl, HT.out.plain (Ph1800_mono a b c pj pm pd w y15) (Below.refl _ _) 18 (by decide) HL.out _ rfl (by simp) (by simp) (by decide)⟩
  · have d16 := hi3 _ rfl { on := 16, ground := Ground.data } (by simp) rfl
    have d18 := hi3 _ rfl { on := 18, ground := Ground.data } (by simp) rfl
    have d10 := hi3 _ rfl { on := 10, ground := Ground.guard } (by simp) rfl
    have e16 : v1800x16 = .bool false := HT.out.h 16 (by decide) d16 (fun hm => absurd hm (by decide))
    subst e16
    have e18 : v1800x18 = .bool false := HT.out.h 18 (by decide) d18 (fun hm => absurd hm (by decide))
    subst e18
    have e10 : v1800x10 = .bool true := HT.out.h 10 (by decide) d10 (fun hm => absurd hm (by decide))
    subst e10
    have HL := hide hi4
    clear hi hi1 hi2 hi3 hi4 d16 d18 d10
    refine wpOp_step (o := { dst := some 173, op := Op.pick (Operand.tmp 170) (Operand.const (Value.bool true)) (Operand.tmp 172), type := 4, pos := "law.go:208", after := #[{ on := 16, ground := Ground.data }, { on := 18, ground := Ground.data }, { on := 10, ground := Ground.guard }], guard := some (10, true) }) rfl (fun K hK => ?_)
    go_simp
    exact hK _ _ ⟨v1800x0, v1800x1, v1800x2, v1800x3, v1800x4, v1800x5, v1800x6, v1800x7, v1800x8, v1800x9, _, v1800x11, v1800x12, v1800x13, v1800x14, v1800x15, _, v1800x17, _, .bool false, v1800x20, v1800x21, v1800x22, v1800x23, v1800x24, v1800x25, v1800x26, v1800x27, v1800x28, v1800x29, v1800x30, v1800x31, v1800x32, rfl, HT.out.plain (Ph1800_mono a b c pj pm pd w y15) (Below.refl _ _) 19 (by decide) HL.out _ rfl (by simp) (by simp) (by decide)⟩
  · have d13 := hi3 _ rfl { on := 13, ground := Ground.data } (by simp) rfl
    have d19 := hi3 _ rfl { on := 19, ground := Ground.data } (by simp) rfl
    have d10 := hi3 _ rfl { on := 10, ground := Ground.guard } (by simp) rfl
    have e13 : v1800x13 = .bool false := HT.out.h 13 (by decide) d13 (fun hm => absurd hm (by decide))
    subst e13
    have e19 : v1800x19 = .bool false := HT.out.h 19 (by decide) d19 (fun hm => absurd hm (by decide))
    subst e19
    have e10 : v1800x10 = .bool true := HT.out.h 10 (by decide) d10 (fun hm => absurd hm (by decide))
    subst e10
    have HL := hide hi4
    clear hi hi1 hi2 hi3 hi4 d13 d19 d10
    refine wpOp_step (o := { dst := some 174, op := Op.binOp BinOp.eql 4 (Operand.tmp 167) (Operand.tmp 173) 4, type := 4, pos := "law.go:208", after := #[{ on := 13, ground := Ground.data }, { on := 19, ground := Ground.data }, { on := 10, ground := Ground.guard }], guard := some (10, true) }) rfl (fun K hK => ?_)
    go_simp
    exact hK _ _ ⟨v1800x0, v1800x1, v1800x2, v1800x3, v1800x4, v1800x5, v1800x6, v1800x7, v1800x8, v1800x9, _, v1800x11, v1800x12, _, v1800x14, v1800x15, v1800x16, v1800x17, v1800x18, _, .bool true, v1800x21, v1800x22, v1800x23, v1800x24, v1800x25, v1800x26, v1800x27, v1800x28, v1800x29, v1800x30, v1800x31, v1800x32, rfl, HT.out.plain (Ph1800_mono a b c pj pm pd w y15) (Below.refl _ _) 20 (by decide) HL.out _ rfl (by simp) (by simp) (by decide)⟩
  · have d10 := hi3 _ rfl { on := 10, ground := Ground.data } (by simp) rfl
    have d20 := hi3 _ rfl { on := 20, ground := Ground.data } (by simp) rfl
    have e10 : v1800x10 = .bool true := HT.out.h 10 (by decide) d10 (fun hm => absurd hm (by decide))
    subst e10
    have e20 : v1800x20 = .bool true := HT.out.h 20 (by decide) d20 (fun hm => absurd hm (by decide))
    subst e20
    have HL := hide hi4
    clear hi hi1 hi2 hi3 hi4 d10 d20
    refine wpOp_step (o := { dst := some 175, op := Op.pick (Operand.tmp 164) (Operand.tmp 174) (Operand.const (Value.bool false)), type := 4, pos := "law.go:208", after := #[{ on := 10, ground := Ground.data }, { on := 20, ground := Ground.data }], guard := none }) rfl (fun K hK => ?_)
    go_simp
    exact hK _ _ ⟨v1800x0, v1800x1, v1800x2, v1800x3, v1800x4, v1800x5, v1800x6, v1800x7, v1800x8, v1800x9, _, v1800x11, v1800x12, v1800x13, v1800x14, v1800x15, v1800x16, v1800x17, v1800x18, v1800x19, _, .bool true, v1800x22, v1800x23, v1800x24, v1800x25, v1800x26, v1800x27, v1800x28, v1800x29, v1800x30, v1800x31, v1800x32, rfl, HT.out.plain (Ph1800_mono a b c pj pm pd w y15) (Below.refl _ _) 21 (by decide) HL.out _ rfl (by simp) (by simp) (by decide)⟩
  · have d21 := hi3 _ rfl { on := 21, ground := Ground.data } (by simp) rfl
    have e21 : v1800x21 = .bool true := HT.out.h 21 (by decide) d21 (fun hm => absurd hm (by decide))
    subst e21
    have HL := hide hi4
    clear hi hi1 hi2 hi3 hi4 d21
    refine wpOp_step (o := { dst := some 176, op := Op.move (Operand.tmp 175), type := 4, pos := "law.go:208", after := #[{ on := 21, ground := Ground.data }, { on := 16, ground := Ground.chain }], guard := none }) rfl (fun K hK => ?_)
    go_simp
    exact hK _ _ ⟨v1800x0, v1800x1, v1800x2, v1800x3, v1800x4, v1800x5, v1800x6, v1800x7, v1800x8, v1800x9, v1800x10, v1800x11, v1800x12, v1800x13, v1800x14, v1800x15, v1800x16, v1800x17, v1800x18, v1800x19, v1800x20, _, .bool true, v1800x23, v1800x24, v1800x25, v1800x26, v1800x27, v1800x28, v1800x29, v1800x30, v1800x31, v1800x32, rfl, HT.out.plain (Ph1800_mono a b c pj pm pd w y15) (Below.refl _ _) 22 (by decide) HL.out _ rfl (by simp) (by simp) (by decide)⟩
  · have d22 := hi3 _ rfl { on := 22, ground := Ground.guard } (by simp) rfl
    have e22 : v1800x22 = .bool true := HT.out.h 22 (by decide) d22 (fun hm => absurd hm (by decide))
    subst e22
    have HL := hide hi4
    clear hi hi1 hi2 hi3 hi4 d22
    refine wpOp_step (o := { dst := some 177, op := Op.move (Operand.tmp 9), type := 3, pos := "law.go:208", after := #[{ on := 22, ground := Ground.guard }], guard := some (22, true) }) rfl (fun K hK => ?_)
    go_simp
    exact hK _ _ ⟨v1800x0, v1800x1, v1800x2, v1800x3, v1800x4, v1800x5, v1800x6, v1800x7, v1800x8, v1800x9, v1800x10, v1800x11, v1800x12, v1800x13, v1800x14, v1800x15, v1800x16, v1800x17, v1800x18, v1800x19, v1800x20, v1800x21, _, .int .i64 3, v1800x24, v1800x25, v1800x26, v1800x27, v1800x28, v1800x29, v1800x30, v1800x31, v1800x32, rfl, HT.out.plain (Ph1800_mono a b c pj pm pd w y15) (Below.refl _ _) 23 (by decide) HL.out _ rfl (by simp) (by simp) (by decide)⟩
  · have d23 := hi3 _ rfl { on := 23, ground := Ground.data } (by simp) rfl
    have d22 := hi3 _ rfl { on := 22, ground := Ground.guard } (by simp) rfl
    have e23 : v1800x23 = .int .i64 3 := HT.out.h 23 (by decide) d23 (fun hm => absurd hm (by decide))
    subst e23
    have e22 : v1800x22 = .bool true := HT.out.h 22 (by decide) d22 (fun hm => absurd hm (by decide))
    subst e22
    have HL := hide hi4
    clear hi hi1 hi2 hi3 hi4 d23 d22
    refine wpOp_step (o := { dst := some 178, op := Op.binOp BinOp.eql 3 (Operand.tmp 177) (Operand.const (Value.int IntKind.i64 0)) 3, type := 4, pos := "law.go:208", after := #[{ on := 23, ground := Ground.data }, { on := 22, ground := Ground.guard }], guard := some (22, true) }) rfl (fun K hK => ?_)
    go_simp
    exact hK _ _ ⟨v1800x0, v1800x1, v1800x2, v1800x3, v1800x4, v1800x5, v1800x6, v1800x7, v1800x8, v1800x9, v1800x10, v1800x11, v1800x12, v1800x13, v1800x14, v1800x15, v1800x16, v1800x17, v1800x18, v1800x19, v1800x20, v1800x21, _, _, .bool false, v1800x25, v1800x26, v1800x27, v1800x28, v1800x29, v1800x30, v1800x31, v1800x32, rfl, HT.out.plain (Ph1800_mono a b c pj pm pd w y15) (Below.refl _ _) 24 (by decide) HL.out _ rfl (by simp) (by simp) (by decide)⟩
  · have d22 := hi3 _ rfl { on := 22, ground := Ground.guard } (by simp) rfl
    have e22 : v1800x22 = .bool true := HT.out.h 22 (by decide) d22 (fun hm => absurd hm (by decide))
    subst e22
    have HL := hide hi4
    clear hi hi1 hi2 hi3 hi4 d22
    have l1 := run_ldP (HXga.out.below HT.out.b).at
    refine wpOp_step (o := { dst := some 179, op := Op.load 25 (Operand.tmp 3), type := 25, pos := "law.go:208", after := #[{ on := 22, ground := Ground.guard }], guard := some (22, true) }) rfl (fun K hK => ?_)
    go_simp
    exact hK _ _ ⟨v1800x0, v1800x1, v1800x2, v1800x3, v1800x4, v1800x5, v1800x6, v1800x7, v1800x8, v1800x9, v1800x10, v1800x11, v1800x12, v1800x13, v1800x14, v1800x15, v1800x16, v1800x17, v1800x18, v1800x19, v1800x20, v1800x21, _, v1800x23, v1800x24, PV a, v1800x26, v1800x27, v1800x28, v1800x29, v1800x30, v1800x31, v1800x32, rfl, HT.out.plain (Ph1800_mono a b c pj pm pd w y15) (Below.refl _ _) 25 (by decide) HL.out _ rfl (by simp) (by simp) (by decide)⟩
  · have d25 := hi3 _ rfl { on := 25, ground := Ground.data } (by simp) rfl
    have d22 := hi3 _ rfl { on := 22, ground := Ground.chain } (by simp) rfl
    have e25 : v1800x25 = PV a := HT.out.h 25 (by decide) d25 (fun hm => absurd hm (by decide))
    subst e25
    have e22 : v1800x22 = .bool true := HT.out.h 22 (by decide) d22 (fun hm => absurd hm (by decide))
    subst e22
    have HL := hide hi4
    clear hi hi1 hi2 hi3 hi4 d25 d22
    refine wpOp_step (o := { dst := some 180, op := Op.call { callee := Callee.value (Operand.func 9), args := #[Operand.tmp 179], argTypes := #[25] }, type := 25, pos := "law.go:208", after := #[{ on := 25, ground := Ground.data }, { on := 22, ground := Ground.chain }, { on := 22, ground := Ground.guard }], guard := some (22, true) }) rfl (fun K hK => ?_)
    go_simp
    go_wp2_with fail
    refine (pastNorm_any a _ (HA.out.below HT.out.b)).mono ?_
    rintro e w' ⟨pp, rfl, pS, pN, pb, pq⟩
    exact hK _ _ ⟨v1800x0, v1800x1, v1800x2, v1800x3, v1800x4, v1800x5, v1800x6, v1800x7, v1800x8, v1800x9, v1800x10, v1800x11, v1800x12, v1800x13, v1800x14, v1800x15, v1800x16, v1800x17, v1800x18, v1800x19, v1800x20, v1800x21, _, v1800x23, v1800x24, _, PV pp, v1800x27, v1800x28, v1800x29, v1800x30, v1800x31, v1800x32, rfl, HT.out.call (Ph1800_mono a b c pj pm pd w y15) pb 26 (IsP (mP a.P)) (by decide) HL.out (by simp) (by simp) pp pS pN (isP_norm pq) (fun _ _ => trivial) (by simp) (by decide)⟩
  · have d22 := hi3 _ rfl { on := 22, ground := Ground.guard } (by simp) rfl
    have e22 : v1800x22 = .bool true := HT.out.h 22 (by decide) d22 (fun hm => absurd hm (by decide))
    subst e22
    have HL := hide hi4
    clear hi hi1 hi2 hi3 hi4 d22
    have l1 := run_ldP (HXgb.out.below HT.out.b).at
    refine wpOp_step (o := { dst := some 181, op := Op.load 25 (Operand.tmp 4), type := 25, pos := "law.go:208", after := #[{ on := 22, ground := Ground.guard }], guard := some (22, true) }) rfl (fun K hK => ?_)
    go_simp
    exact hK _ _ ⟨v1800x0, v1800x1, v1800x2, v1800x3, v1800x4, v1800x5, v1800x6, v1800x7, v1800x8, v1800x9, v1800x10, v1800x11, v1800x12, v1800x13, v1800x14, v1800x15, v1800x16, v1800x17, v1800x18, v1800x19, v1800x20, v1800x21, _, v1800x23, v1800x24, v1800x25, v1800x26, PV b, v1800x28, v1800x29, v1800x30, v1800x31, v1800x32, rfl, HT.out.plain (Ph1800_mono a b c pj pm pd w y15) (Below.refl _ _) 27 (by decide) HL.out _ rfl (by simp) (by simp) (by decide)⟩
  · have d27 := hi3 _ rfl { on := 27, ground := Ground.data } (by simp) rfl
    have d22 := hi3 _ rfl { on := 22, ground := Ground.guard } (by simp) rfl
    have e27 : v1800x27 = PV b := HT.out.h 27 (by decide) d27 (fun hm => absurd hm (by decide))
    subst e27
    have e22 : v1800x22 = .bool true := HT.out.h 22 (by decide) d22 (fun hm => absurd hm (by decide))
    subst e22
    have HL := hide hi4
    clear hi hi1 hi2 hi3 hi4 d27 d22
    refine wpOp_step (o := { dst := some 182, op := Op.call { callee := Callee.value (Operand.func 9), args := #[Operand.tmp 181], argTypes := #[25] }, type := 25, pos := "law.go:208", after := #[{ on := 27, ground := Ground.data }, { on := 26, ground := Ground.chain }, { on := 22, ground := Ground.guard }], guard := some (22, true) }) rfl (fun K hK => ?_)
    go_simp
    go_wp2_with fail
    refine (pastNorm_any b _ (HB.out.below HT.out.b)).mono ?_
    rintro e w' ⟨pp, rfl, pS, pN, pb, pq⟩
    exact hK _ _ ⟨v1800x0, v1800x1, v1800x2, v1800x3, v1800x4, v1800x5, v1800x6, v1800x7, v1800x8, v1800x9, v1800x10, v1800x11, v1800x12, v1800x13, v1800x14, v1800x15, v1800x16, v1800x17, v1800x18, v1800x19, v1800x20, v1800x21, _, v1800x23, v1800x24, v1800x25, v1800x26, _, PV pp, v1800x29, v1800x30, v1800x31, v1800x32, rfl, HT.out.call (Ph1800_mono a b c pj pm pd w y15) pb 28 (IsP (mP b.P)) (by decide) HL.out (by simp) (by simp) pp pS pN (isP_norm pq) (fun _ _ => trivial) (by simp) (by decide)⟩
  · have d26 := hi3 _ rfl { on := 26, ground := Ground.data } (by simp) rfl
    have d28 := hi3 _ rfl { on := 28, ground := Ground.data } (by simp) rfl
    have d22 := hi3 _ rfl { on := 22, ground := Ground.guard } (by simp) rfl
    obtain ⟨p26, e26, S26, q26, -⟩ := HT.out.r (26, IsP (mP a.P)) (by simp) d26
    have f26 : v1800x26 = PV p26 := e26
    subst f26
    have HS26 := hide S26
    have HQ26 : Hid (IsP (mP a.P) p26.P) := q26
    clear e26 S26 q26
    obtain ⟨p28, e28, S28, q28, -⟩ := HT.out.r (28, IsP (mP b.P)) (by simp) d28
    have f28 : v1800x28 = PV p28 := e28
    subst f28
    have HS28 := hide S28
    have HQ28 : Hid (IsP (mP b.P) p28.P) := q28
    clear e28 S28 q28
    have e22 : v1800x22 = .bool true := HT.out.h 22 (by decide) d22 (fun hm => absurd hm (by decide))
    subst e22
    have HL := hide hi4
    clear hi hi1 hi2 hi3 hi4 d26 d28 d22
    refine wpOp_step (o := { dst := some 183, op := Op.call { callee := Callee.value (Operand.func 8), args := #[Operand.tmp 180, Operand.tmp 182], argTypes := #[25, 25] }, type := 4, pos := "law.go:208", after := #[{ on := 26, ground := Ground.data }, { on := 28, ground := Ground.data }, { on := 28, ground := Ground.chain }, { on := 22, ground := Ground.guard }], guard := some (22, true) }) rfl (fun K hK => ?_)
    go_simp
    go_wp2_with fail
    refine (samePast_any p26 p28 _ HS26.out HS28.out).mono ?_
    rintro e w' ⟨z, rfl, hz, pb⟩
    obtain rfl : z = false := by have h := hz.trans ((HQ26.out.iff HQ28.out).trans (eqv_iff HXX.out.out HYY.out.out)); cases z <;> simp_all
    exact hK _ _ ⟨v1800x0, v1800x1, v1800x2, v1800x3, v1800x4, v1800x5, v1800x6, v1800x7, v1800x8, v1800x9, v1800x10, v1800x11, v1800x12, v1800x13, v1800x14, v1800x15, v1800x16, v1800x17, v1800x18, v1800x19, v1800x20, v1800x21, _, v1800x23, v1800x24, v1800x25, _, v1800x27, _, .bool false, v1800x30, v1800x31, v1800x32, rfl, HT.out.plain (Ph1800_mono a b c pj pm pd w y15) pb 29 (by decide) HL.out _ rfl (by simp) (by simp) (by decide)⟩
  · have d24 := hi3 _ rfl { on := 24, ground := Ground.data } (by simp) rfl
    have d29 := hi3 _ rfl { on := 29, ground := Ground.data } (by simp) rfl
    have d22 := hi3 _ rfl { on := 22, ground := Ground.guard } (by simp) rfl
    have e24 : v1800x24 = .bool false := HT.out.h 24 (by decide) d24 (fun hm => absurd hm (by decide))
    subst e24
    have e29 : v1800x29 = .bool false := HT.out.h 29 (by decide) d29 (fun hm => absurd hm (by decide))
    subst e29
    have e22 : v1800x22 = .bool true := HT.out.h 22 (by decide) d22 (fun hm => absurd hm (by decide))
    subst e22
    have HL := hide hi4
    clear hi hi1 hi2 hi3 hi4 d24 d29 d22
    refine wpOp_step (o := { dst := some 184, op := Op.binOp BinOp.eql 4 (Operand.tmp 178) (Operand.tmp 183) 4, type := 4, pos := "law.go:208", after := #[{ on := 24, ground := Ground.data }, { on := 29, ground := Ground.data }, { on := 22, ground := Ground.guard }], guard := some (22, true) }) rfl (fun K hK => ?_)
    go_simp
    exact hK _ _ ⟨v1800x0, v1800x1, v1800x2, v1800x3, v1800x4, v1800x5, v1800x6, v1800x7, v1800x8, v1800x9, v1800x10, v1800x11, v1800x12, v1800x13, v1800x14, v1800x15, v1800x16, v1800x17, v1800x18, v1800x19, v1800x20, v1800x21, _, v1800x23, _, v1800x25, v1800x26, v1800x27, v1800x28, _, .bool true, v1800x31, v1800x32, rfl, HT.out.plain (Ph1800_mono a b c pj pm pd w y15) (Below.refl _ _) 30 (by decide) HL.out _ rfl (by simp) (by simp) (by decide)⟩
  · have d22 := hi3 _ rfl { on := 22, ground := Ground.data } (by simp) rfl
    have d30 := hi3 _ rfl { on := 30, ground := Ground.data } (by simp) rfl
    have e22 : v1800x22 = .bool true := HT.out.h 22 (by decide) d22 (fun hm => absurd hm (by decide))
    subst e22
    have e30 : v1800x30 = .bool true := HT.out.h 30 (by decide) d30 (fun hm => absurd hm (by decide))
    subst e30
    have HL := hide hi4
    clear hi hi1 hi2 hi3 hi4 d22 d30
    refine wpOp_step (o := { dst := some 185, op := Op.pick (Operand.tmp 176) (Operand.tmp 184) (Operand.const (Value.bool false)), type := 4, pos := "law.go:208", after := #[{ on := 22, ground := Ground.data }, { on := 30, ground := Ground.data }], guard := none }) rfl (fun K hK => ?_)
    go_simp
    exact hK _ _ ⟨v1800x0, v1800x1, v1800x2, v1800x3, v1800x4, v1800x5, v1800x6, v1800x7, v1800x8, v1800x9, v1800x10, v1800x11, v1800x12, v1800x13, v1800x14, v1800x15, v1800x16, v1800x17, v1800x18, v1800x19, v1800x20, v1800x21, _, v1800x23, v1800x24, v1800x25, v1800x26, v1800x27, v1800x28, v1800x29, _, .bool true, v1800x32, rfl, HT.out.plain (Ph1800_mono a b c pj pm pd w y15) (Below.refl _ _) 31 (by decide) HL.out _ rfl (by simp) (by simp) (by decide)⟩
  · have d31 := hi3 _ rfl { on := 31, ground := Ground.data } (by simp) rfl
    have e31 : v1800x31 = .bool true := HT.out.h 31 (by decide) d31 (fun hm => absurd hm (by decide))
    subst e31
    have HL := hide hi4
    clear hi hi1 hi2 hi3 hi4 d31
    refine wpOp_step (o := { dst := some 2, op := Op.assign (Operand.tmp 185), type := 4, pos := "law.go:208", after := #[{ on := 31, ground := Ground.data }, { on := 29, ground := Ground.chain }, { on := 0, ground := Ground.phase }, { on := 1, ground := Ground.phase }, { on := 2, ground := Ground.phase }, { on := 3, ground := Ground.phase }, { on := 4, ground := Ground.phase }, { on := 5, ground := Ground.phase }, { on := 6, ground := Ground.phase }, { on := 7, ground := Ground.phase }, { on := 8, ground := Ground.phase }, { on := 9, ground := Ground.phase }, { on := 10, ground := Ground.phase }, { on := 11, ground := Ground.phase }, { on := 12, ground := Ground.phase }, { on := 13, ground := Ground.phase }, { on := 14, ground := Ground.phase }, { on := 15, ground := Ground.phase }, { on := 16, ground := Ground.phase }, { on := 17, ground := Ground.phase }, { on := 18, ground := Ground.phase }, { on := 19, ground := Ground.phase }, { on := 20, ground := Ground.phase }, { on := 21, ground := Ground.phase }, { on := 22, ground := Ground.phase }, { on := 23, ground := Ground.phase }, { on := 24, ground := Ground.phase }, { on := 25, ground := Ground.phase }, { on := 26, ground := Ground.phase }, { on := 27, ground := Ground.phase }, { on := 28, ground := Ground.phase }, { on := 29, ground := Ground.phase }, { on := 30, ground := Ground.phase }, { on := 31, ground := Ground.phase }], guard := none }) rfl (fun K hK => ?_)
    go_simp
    exact hK _ _ ⟨v1800x0, v1800x1, v1800x2, v1800x3, v1800x4, v1800x5, v1800x6, v1800x7, v1800x8, v1800x9, v1800x10, v1800x11, v1800x12, v1800x13, v1800x14, v1800x15, v1800x16, v1800x17, v1800x18, v1800x19, v1800x20, v1800x21, v1800x22, v1800x23, v1800x24, v1800x25, v1800x26, v1800x27, v1800x28, v1800x29, v1800x30, _, .bool true, rfl, HT.out.plain (Ph1800_mono a b c pj pm pd w y15) (Below.refl _ _) 32 (by decide) HL.out _ rfl (by simp) (by simp) (by decide)⟩
end Go.Proofs.Ytliedjloceckjaa
