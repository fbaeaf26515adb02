/- Structs in memory (genstruct.py). -/
import Derived.Test.YtebedjhfdncabaaYDn
import Derived.Deep.MidRow
import Derived.Laws.CopyOwn
import Derived.Lib.OthersKept
namespace Go.Proofs.Ytebedjhfdncabaa
open Go.RowKit
theorem add_nought (p : Addr) : p.add 0 = p := by unfold Addr.add; split <;> simp_all
theorem below_setRow {w w' : World} {n g : Nat} {cs : Array Value} (h : Below n w w') (hg : n ≤ g) : Below n w (w'.setRow g cs) :=
  h.trans ⟨rfl, rfl, rfl, by simp [World.setRow], fun k hk => setRow_other _ _ _ _ (by omega)⟩
variable {w w' : World} {g : Nat}
structure Put where
  kind : Int
  num : Int
  flag : Bool
  txt : ByteArray
def p0 : Put := ⟨0, 0, false, ⟨#[]⟩⟩
def PC (m : Put) : Array Value := #[.int .i64 m.kind, .int .i64 m.num, .bool m.flag, .string m.txt]
abbrev PV (m : Put) : Value := .agg (PC m)
theorem PC_size (m : Put) : (PC m).size = 4 := rfl
theorem PC_one (m : Put) : ∀ v ∈ (PC m).toList, v.oneCell' = true := by
  intro v hv; simp [PC] at hv; rcases hv with rfl | rfl | rfl | rfl <;> rfl
theorem cells_PV (m : Put) : (PV m).cells = PC m := by simp [Value.cells]
structure PAt (w : World) (a : Addr) (m : Put) : Prop where
  c0 : w.cell? a = some (.int .i64 m.kind)
  c1 : w.cell? (a.add 1) = some (.int .i64 m.num)
  c2 : w.cell? (a.add 2) = some (.bool m.flag)
  c3 : w.cell? (a.add 3) = some (.string m.txt)
theorem PAt.on {a : Addr} {m : Put} (S : PAt w a m) (hb : Below w.heap.size w w') : PAt w' a m := by
  have h0 := World.block_lt_of_cell? _ _ S.c0
  exact ⟨by rw [hb.cell h0]; exact S.c0, by rw [hb.cell (by rw [block_of_add]; exact h0)]; exact S.c1, by rw [hb.cell (by rw [block_of_add]; exact h0)]; exact S.c2, by rw [hb.cell (by rw [block_of_add]; exact h0)]; exact S.c3⟩
def PBox (w : World) (g : Nat) (m : Put) : Prop := w.heap[g]? = some (.cells (PC m) 41 (0, 0))
theorem PBox.lt {m : Put} (h : PBox w g m) : g < w.heap.size := (Array.getElem?_eq_some_iff.1 h).1
theorem PBox.below {m : Put} (h : PBox w g m) (hb : Below w.heap.size w w') : PBox w' g m := (hb.block g h.lt).trans h
theorem PBox.c0 {m : Put} (h : PBox w g m) : w.cell? ⟨g, 0, none⟩ = some (.int .i64 m.kind) := by unfold PBox at h; simp [World.cell?, h, PC]
theorem PBox.c1 {m : Put} (h : PBox w g m) : w.cell? ⟨g, 1, none⟩ = some (.int .i64 m.num) := by unfold PBox at h; simp [World.cell?, h, PC]
theorem PBox.c2 {m : Put} (h : PBox w g m) : w.cell? ⟨g, 2, none⟩ = some (.bool m.flag) := by unfold PBox at h; simp [World.cell?, h, PC]
theorem PBox.c3 {m : Put} (h : PBox w g m) : w.cell? ⟨g, 3, none⟩ = some (.string m.txt) := by unfold PBox at h; simp [World.cell?, h, PC]
theorem PBox_new (w : World) (m : Put) : PBox (w.alloc (.cells (PC m) 41)) w.heap.size m := by unfold PBox; rw [heap_alloc_new]
def ldP (v : Value) : Sem Value := Instr.loadAt 41 v
theorem ldP_eq (v : Value) : Instr.loadAt 41 v = ldP v := rfl
def stP (p v : Value) : Sem Unit := Instr.storeAt 41 p v
theorem stP_eq (p v : Value) : Instr.storeAt 41 p v = stP p v := rfl
theorem sizeP : (Try.prog.info? 41).map (·.size) = some 4 := by kernel_rfl
theorem PBox.range {m : Put} (h : PBox w g m) : w.rangeAt g 0 (PC m).toList := by
  intro j v hv
  rw [Nat.zero_add]
  unfold PBox at h
  simp only [Array.getElem?_toList] at hv
  simp [World.cell?, h, hv]
theorem run_lvP {m : Put} (A : PBox w g m) : (loadVar 41 ⟨g, 0, none⟩).run Try.prog w = .ok (PV m) w := by
  have := run_loadVar_mid (P := Try.prog) w g 0 41 (PC m).toList _ A.range Try.underlying41 rfl (by rw [sizeP]; rfl)
  simpa using this
theorem run_ldP {m : Put} (A : PBox w g m) : (ldP (.pointer (some ⟨g, 0, none⟩))).run Try.prog w = .ok (.agg (PC m)) w := by
  unfold ldP
  simp only [Instr.loadAt, Instr.sureAddr, Sem.run_bind, Sem.run_pure, Result.andThen]
  exact run_lvP A
theorem run_laP {a : Addr} {m : Put} (A : PAt w a m) : (ldP (.pointer (some a))).run Try.prog w = .ok (.agg (PC m)) w := by
  have hl := run_loadCells_list (P := Try.prog) (w := w) a (PC m).toList (fun j v hv => by
    match j, hv with
    | 0, hv => cases hv; rw [add_nought]; exact A.c0
    | 1, hv => cases hv; exact A.c1
    | 2, hv => cases hv; exact A.c2
    | 3, hv => cases hv; exact A.c3
    | j + 4, hv => simp [PC] at hv)
  unfold ldP
  simp only [Instr.loadAt, Instr.sureAddr, Sem.run_bind, Sem.run_pure, Result.andThen]
  cases hq : Try.prog.info? 41 with
  | none => have := sizeP; simp [hq] at this
  | some x =>
    have hs : x.size = 4 := by have := sizeP; simpa [hq] using this
    have hagg : (isAgg 41).run Try.prog w = .ok true w := by
      unfold isAgg
      rw [Sem.run_bind, run_underlying Try.underlying41 w]
      rfl
    have e2 : (PC m).toList.length = 4 := rfl
    rw [e2] at hl
    simp [loadVar, Sem.run_bind, hagg, sizeOf, typeInfo, hq, hs, hl]
theorem run_stP {m m' : Put} (A : PBox w g m) : (stP (.pointer (some ⟨g, 0, none⟩)) (.agg (PC m'))).run Try.prog w = .ok () (w.setRow g (PC m')) := by
  unfold stP
  have h := run_storeCells_from (P := Try.prog) g 41 (PC m').toList 0 (PC m) w A (by simp [PC]) (PC_one m')
  cases hq : Try.prog.info? 41 with
  | none => have := sizeP; simp [hq] at this
  | some x =>
    have hs : x.size = 4 := by have := sizeP; simpa [hq] using this
    simp only [Instr.storeAt, Instr.sureAddr, Sem.run_bind, Sem.run_pure, Result.andThen, storeVar, sizeOf, typeInfo, cells_PV, PC_size]
    simp at h
    simp [h, hq, hs]
theorem PBox.setRow {m m' : Put} (A : PBox w g m) : PBox (w.setRow g (PC m')) g m' := setRow_heap w g _ _ _ _ A
theorem madeP (w : World) (m : Put) (g : Nat) (hg : w.heap.size = g) : ∃ w' : World, (stP (.pointer (some ⟨g, 0, none⟩)) (.agg (PC m))).run Try.prog (w.alloc (.cells (PC p0) 41)) = .ok () w' ∧ PBox w' g m ∧ Below w.heap.size w w' ∧ w'.heap.size = w.heap.size + 1 := by
  subst hg
  refine ⟨_, run_stP (PBox_new w _), (PBox_new w _).setRow, below_setRow (below_new w _) (Nat.le_refl _), by simp [World.setRow]⟩
theorem res1P {m : Put} {fn : Func} {p : Tmp} (h : fn.results = #[.cell p 41]) {tmps : Array Value} (hp : tmps.getD p undef = .pointer (some ⟨g, 0, none⟩)) (A : PBox w g m) :
    (results fn tmps).run Try.prog w = .ok (PV m) w := by
  have hl := run_lvP A
  simp only [results, h]
  rw [Array.getD_eq_getD_getElem?] at hp
  simp [hp, asAddr, hl]
structure Stp where
  wn : Int
  kind : Int
  num : Int
  flag : Bool
  txt : ByteArray
def q0 : Stp := ⟨0, 0, 0, false, ⟨#[]⟩⟩
def QC (m : Stp) : Array Value := #[.int .i64 m.wn, .int .i64 m.kind, .int .i64 m.num, .bool m.flag, .string m.txt]
abbrev QV (m : Stp) : Value := .agg (QC m)
theorem QC_size (m : Stp) : (QC m).size = 5 := rfl
theorem QC_one (m : Stp) : ∀ v ∈ (QC m).toList, v.oneCell' = true := by
  intro v hv; simp [QC] at hv; rcases hv with rfl | rfl | rfl | rfl | rfl <;> rfl
theorem cells_QV (m : Stp) : (QV m).cells = QC m := by simp [Value.cells]
structure QAt (w : World) (a : Addr) (m : Stp) : Prop where
  c0 : w.cell? a = some (.int .i64 m.wn)
  c1 : w.cell? (a.add 1) = some (.int .i64 m.kind)
  c2 : w.cell? (a.add 2) = some (.int .i64 m.num)
  c3 : w.cell? (a.add 3) = some (.bool m.flag)
  c4 : w.cell? (a.add 4) = some (.string m.txt)
theorem QAt.on {a : Addr} {m : Stp} (S : QAt w a m) (hb : Below w.heap.size w w') : QAt w' a m := by
  have h0 := World.block_lt_of_cell? _ _ S.c0
  exact ⟨by rw [hb.cell h0]; exact S.c0, by rw [hb.cell (by rw [block_of_add]; exact h0)]; exact S.c1, by rw [hb.cell (by rw [block_of_add]; exact h0)]; exact S.c2, by rw [hb.cell (by rw [block_of_add]; exact h0)]; exact S.c3, by rw [hb.cell (by rw [block_of_add]; exact h0)]; exact S.c4⟩
def QBox (w : World) (g : Nat) (m : Stp) : Prop := w.heap[g]? = some (.cells (QC m) 36 (0, 0))
theorem QBox.lt {m : Stp} (h : QBox w g m) : g < w.heap.size := (Array.getElem?_eq_some_iff.1 h).1
theorem QBox.below {m : Stp} (h : QBox w g m) (hb : Below w.heap.size w w') : QBox w' g m := (hb.block g h.lt).trans h
theorem QBox.c0 {m : Stp} (h : QBox w g m) : w.cell? ⟨g, 0, none⟩ = some (.int .i64 m.wn) := by unfold QBox at h; simp [World.cell?, h, QC]
theorem QBox.c1 {m : Stp} (h : QBox w g m) : w.cell? ⟨g, 1, none⟩ = some (.int .i64 m.kind) := by unfold QBox at h; simp [World.cell?, h, QC]
theorem QBox.c2 {m : Stp} (h : QBox w g m) : w.cell? ⟨g, 2, none⟩ = some (.int .i64 m.num) := by unfold QBox at h; simp [World.cell?, h, QC]
theorem QBox.c3 {m : Stp} (h : QBox w g m) : w.cell? ⟨g, 3, none⟩ = some (.bool m.flag) := by unfold QBox at h; simp [World.cell?, h, QC]
theorem QBox.c4 {m : Stp} (h : QBox w g m) : w.cell? ⟨g, 4, none⟩ = some (.string m.txt) := by unfold QBox at h; simp [World.cell?, h, QC]
theorem QBox_new (w : World) (m : Stp) : QBox (w.alloc (.cells (QC m) 36)) w.heap.size m := by unfold QBox; rw [heap_alloc_new]
def ldQ (v : Value) : Sem Value := Instr.loadAt 36 v
theorem ldQ_eq (v : Value) : Instr.loadAt 36 v = ldQ v := rfl
def stQ (p v : Value) : Sem Unit := Instr.storeAt 36 p v
theorem stQ_eq (p v : Value) : Instr.storeAt 36 p v = stQ p v := rfl
theorem sizeQ : (Try.prog.info? 36).map (·.size) = some 5 := by kernel_rfl
theorem QBox.range {m : Stp} (h : QBox w g m) : w.rangeAt g 0 (QC m).toList := by
  intro j v hv
  rw [Nat.zero_add]
  unfold QBox at h
  simp only [Array.getElem?_toList] at hv
  simp [World.cell?, h, hv]
theorem run_lvQ {m : Stp} (A : QBox w g m) : (loadVar 36 ⟨g, 0, none⟩).run Try.prog w = .ok (QV m) w := by
  have := run_loadVar_mid (P := Try.prog) w g 0 36 (QC m).toList _ A.range Try.underlying36 rfl (by rw [sizeQ]; rfl)
  simpa using this
theorem run_ldQ {m : Stp} (A : QBox w g m) : (ldQ (.pointer (some ⟨g, 0, none⟩))).run Try.prog w = .ok (.agg (QC m)) w := by
  unfold ldQ
  simp only [Instr.loadAt, Instr.sureAddr, Sem.run_bind, Sem.run_pure, Result.andThen]
  exact run_lvQ A
theorem run_laQ {a : Addr} {m : Stp} (A : QAt w a m) : (ldQ (.pointer (some a))).run Try.prog w = .ok (.agg (QC m)) w := by
  have hl := run_loadCells_list (P := Try.prog) (w := w) a (QC m).toList (fun j v hv => by
    match j, hv with
    | 0, hv => cases hv; rw [add_nought]; exact A.c0
    | 1, hv => cases hv; exact A.c1
    | 2, hv => cases hv; exact A.c2
    | 3, hv => cases hv; exact A.c3
    | 4, hv => cases hv; exact A.c4
    | j + 5, hv => simp [QC] at hv)
  unfold ldQ
  simp only [Instr.loadAt, Instr.sureAddr, Sem.run_bind, Sem.run_pure, Result.andThen]
  cases hq : Try.prog.info? 36 with
  | none => have := sizeQ; simp [hq] at this
  | some x =>
    have hs : x.size = 5 := by have := sizeQ; simpa [hq] using this
    have hagg : (isAgg 36).run Try.prog w = .ok true w := by
      unfold isAgg
      rw [Sem.run_bind, run_underlying Try.underlying36 w]
      rfl
    have e2 : (QC m).toList.length = 5 := rfl
    rw [e2] at hl
    simp [loadVar, Sem.run_bind, hagg, sizeOf, typeInfo, hq, hs, hl]
theorem run_stQ {m m' : Stp} (A : QBox w g m) : (stQ (.pointer (some ⟨g, 0, none⟩)) (.agg (QC m'))).run Try.prog w = .ok () (w.setRow g (QC m')) := by
  unfold stQ
  have h := run_storeCells_from (P := Try.prog) g 36 (QC m').toList 0 (QC m) w A (by simp [QC]) (QC_one m')
  cases hq : Try.prog.info? 36 with
  | none => have := sizeQ; simp [hq] at this
  | some x =>
    have hs : x.size = 5 := by have := sizeQ; simpa [hq] using this
    simp only [Instr.storeAt, Instr.sureAddr, Sem.run_bind, Sem.run_pure, Result.andThen, storeVar, sizeOf, typeInfo, cells_QV, QC_size]
    simp at h
    simp [h, hq, hs]
theorem QBox.setRow {m m' : Stp} (A : QBox w g m) : QBox (w.setRow g (QC m')) g m' := setRow_heap w g _ _ _ _ A
theorem madeQ (w : World) (m : Stp) (g : Nat) (hg : w.heap.size = g) : ∃ w' : World, (stQ (.pointer (some ⟨g, 0, none⟩)) (.agg (QC m))).run Try.prog (w.alloc (.cells (QC q0) 36)) = .ok () w' ∧ QBox w' g m ∧ Below w.heap.size w w' ∧ w'.heap.size = w.heap.size + 1 := by
  subst hg
  refine ⟨_, run_stQ (QBox_new w _), (QBox_new w _).setRow, below_setRow (below_new w _) (Nat.le_refl _), by simp [World.setRow]⟩
theorem res1Q {m : Stp} {fn : Func} {p : Tmp} (h : fn.results = #[.cell p 36]) {tmps : Array Value} (hp : tmps.getD p undef = .pointer (some ⟨g, 0, none⟩)) (A : QBox w g m) :
    (results fn tmps).run Try.prog w = .ok (QV m) w := by
  have hl := run_lvQ A
  simp only [results, h]
  rw [Array.getD_eq_getD_getElem?] at hp
  simp [hp, asAddr, hl]
end Go.Proofs.Ytebedjhfdncabaa
