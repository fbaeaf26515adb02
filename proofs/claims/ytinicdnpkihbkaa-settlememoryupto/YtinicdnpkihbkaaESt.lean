/- Structs in memory (genstruct.py). -/
import Derived.Test.YtinicdnpkihbkaaEBs
import Derived.Deep.MidRow
import Derived.Laws.CopyOwn
import Derived.Lib.OthersKept
namespace Go.Proofs.Ytinicdnpkihbkaa
open Go.RowKit
theorem add_nought (p : Addr) : p.add 0 = p := by unfold Addr.add; split <;> simp_all
theorem below_setRow {w w' : World} {n g : Nat} {cs : Array Value} (h : Below n w w') (hg : n ≤ g) : Below n w (w'.setRow g cs) :=
  h.trans ⟨rfl, rfl, rfl, by simp [World.setRow], fun k hk => setRow_other _ _ _ _ (by omega)⟩
variable {w w' : World} {g : Nat}
structure Pr where
  f : Int
  t : Int
def p0 : Pr := ⟨0, 0⟩
def PC (m : Pr) : Array Value := #[.int .i64 m.f, .int .i64 m.t]
abbrev PV (m : Pr) : Value := .agg (PC m)
theorem PC_size (m : Pr) : (PC m).size = 2 := rfl
theorem PC_one (m : Pr) : ∀ v ∈ (PC m).toList, v.oneCell' = true := by
  intro v hv; simp [PC] at hv; rcases hv with rfl | rfl <;> rfl
theorem cells_PV (m : Pr) : (PV m).cells = PC m := by simp [Value.cells]
structure PAt (w : World) (a : Addr) (m : Pr) : Prop where
  c0 : w.cell? a = some (.int .i64 m.f)
  c1 : w.cell? (a.add 1) = some (.int .i64 m.t)
theorem PAt.on {a : Addr} {m : Pr} (S : PAt w a m) (hb : Below w.heap.size w w') : PAt w' a m := by
  have h0 := World.block_lt_of_cell? _ _ S.c0
  exact ⟨by rw [hb.cell h0]; exact S.c0, by rw [hb.cell (by rw [block_of_add]; exact h0)]; exact S.c1⟩
def PBox (w : World) (g : Nat) (m : Pr) : Prop := w.heap[g]? = some (.cells (PC m) 28 (0, 0))
theorem PBox.lt {m : Pr} (h : PBox w g m) : g < w.heap.size := (Array.getElem?_eq_some_iff.1 h).1
theorem PBox.below {m : Pr} (h : PBox w g m) (hb : Below w.heap.size w w') : PBox w' g m := (hb.block g h.lt).trans h
theorem PBox.c0 {m : Pr} (h : PBox w g m) : w.cell? ⟨g, 0, none⟩ = some (.int .i64 m.f) := by unfold PBox at h; simp [World.cell?, h, PC]
theorem PBox.c1 {m : Pr} (h : PBox w g m) : w.cell? ⟨g, 1, none⟩ = some (.int .i64 m.t) := by unfold PBox at h; simp [World.cell?, h, PC]
theorem PBox_new (w : World) (m : Pr) : PBox (w.alloc (.cells (PC m) 28)) w.heap.size m := by unfold PBox; rw [heap_alloc_new]
def ldP (v : Value) : Sem Value := Instr.loadAt 28 v
theorem ldP_eq (v : Value) : Instr.loadAt 28 v = ldP v := rfl
def stP (p v : Value) : Sem Unit := Instr.storeAt 28 p v
theorem stP_eq (p v : Value) : Instr.storeAt 28 p v = stP p v := rfl
theorem sizeP : (Try.prog.info? 28).map (·.size) = some 2 := by kernel_rfl
theorem PBox.range {m : Pr} (h : PBox w g m) : w.rangeAt g 0 (PC m).toList := by
  intro j v hv
  rw [Nat.zero_add]
  unfold PBox at h
  simp only [Array.getElem?_toList] at hv
  simp [World.cell?, h, hv]
theorem run_lvP {m : Pr} (A : PBox w g m) : (loadVar 28 ⟨g, 0, none⟩).run Try.prog w = .ok (PV m) w := by
  have := run_loadVar_mid (P := Try.prog) w g 0 28 (PC m).toList _ A.range Try.underlying28 rfl (by rw [sizeP]; rfl)
  simpa using this
theorem run_ldP {m : Pr} (A : PBox w g m) : (ldP (.pointer (some ⟨g, 0, none⟩))).run Try.prog w = .ok (.agg (PC m)) w := by
  unfold ldP
  simp only [Instr.loadAt, Instr.sureAddr, Sem.run_bind, Sem.run_pure, Result.andThen]
  exact run_lvP A
theorem run_laP {a : Addr} {m : Pr} (A : PAt w a m) : (ldP (.pointer (some a))).run Try.prog w = .ok (.agg (PC m)) w := by
  have hl := run_loadCells_list (P := Try.prog) (w := w) a (PC m).toList (fun j v hv => by
    match j, hv with
    | 0, hv => cases hv; rw [add_nought]; exact A.c0
    | 1, hv => cases hv; exact A.c1
    | j + 2, hv => simp [PC] at hv)
  unfold ldP
  simp only [Instr.loadAt, Instr.sureAddr, Sem.run_bind, Sem.run_pure, Result.andThen]
  cases hq : Try.prog.info? 28 with
  | none => have := sizeP; simp [hq] at this
  | some x =>
    have hs : x.size = 2 := by have := sizeP; simpa [hq] using this
    have hagg : (isAgg 28).run Try.prog w = .ok true w := by
      unfold isAgg
      rw [Sem.run_bind, run_underlying Try.underlying28 w]
      rfl
    have e2 : (PC m).toList.length = 2 := rfl
    rw [e2] at hl
    simp [loadVar, Sem.run_bind, hagg, sizeOf, typeInfo, hq, hs, hl]
theorem run_stP {m m' : Pr} (A : PBox w g m) : (stP (.pointer (some ⟨g, 0, none⟩)) (.agg (PC m'))).run Try.prog w = .ok () (w.setRow g (PC m')) := by
  unfold stP
  have h := run_storeCells_from (P := Try.prog) g 28 (PC m').toList 0 (PC m) w A (by simp [PC]) (PC_one m')
  cases hq : Try.prog.info? 28 with
  | none => have := sizeP; simp [hq] at this
  | some x =>
    have hs : x.size = 2 := by have := sizeP; simpa [hq] using this
    simp only [Instr.storeAt, Instr.sureAddr, Sem.run_bind, Sem.run_pure, Result.andThen, storeVar, sizeOf, typeInfo, cells_PV, PC_size]
    simp at h
    simp [h, hq, hs]
theorem PBox.setRow {m m' : Pr} (A : PBox w g m) : PBox (w.setRow g (PC m')) g m' := setRow_heap w g _ _ _ _ A
theorem madeP (w : World) (m : Pr) (g : Nat) (hg : w.heap.size = g) : ∃ w' : World, (stP (.pointer (some ⟨g, 0, none⟩)) (.agg (PC m))).run Try.prog (w.alloc (.cells (PC p0) 28)) = .ok () w' ∧ PBox w' g m ∧ Below w.heap.size w w' ∧ w'.heap.size = w.heap.size + 1 := by
  subst hg
  refine ⟨_, run_stP (PBox_new w _), (PBox_new w _).setRow, below_setRow (below_new w _) (Nat.le_refl _), by simp [World.setRow]⟩
theorem res1P {m : Pr} {fn : Func} {p : Tmp} (h : fn.results = #[.cell p 28]) {tmps : Array Value} (hp : tmps.getD p undef = .pointer (some ⟨g, 0, none⟩)) (A : PBox w g m) :
    (results fn tmps).run Try.prog w = .ok (PV m) w := by
  have hl := run_lvP A
  simp only [results, h]
  rw [Array.getD_eq_getD_getElem?] at hp
  simp [hp, asAddr, hl]
structure Qr where
  f : Int
  t : Int
def q0 : Qr := ⟨0, 0⟩
def QC (m : Qr) : Array Value := #[.int .i64 m.f, .int .i64 m.t]
abbrev QV (m : Qr) : Value := .agg (QC m)
theorem QC_size (m : Qr) : (QC m).size = 2 := rfl
theorem QC_one (m : Qr) : ∀ v ∈ (QC m).toList, v.oneCell' = true := by
  intro v hv; simp [QC] at hv; rcases hv with rfl | rfl <;> rfl
theorem cells_QV (m : Qr) : (QV m).cells = QC m := by simp [Value.cells]
structure QAt (w : World) (a : Addr) (m : Qr) : Prop where
  c0 : w.cell? a = some (.int .i64 m.f)
  c1 : w.cell? (a.add 1) = some (.int .i64 m.t)
theorem QAt.on {a : Addr} {m : Qr} (S : QAt w a m) (hb : Below w.heap.size w w') : QAt w' a m := by
  have h0 := World.block_lt_of_cell? _ _ S.c0
  exact ⟨by rw [hb.cell h0]; exact S.c0, by rw [hb.cell (by rw [block_of_add]; exact h0)]; exact S.c1⟩
def QBox (w : World) (g : Nat) (m : Qr) : Prop := w.heap[g]? = some (.cells (QC m) 50 (0, 0))
theorem QBox.lt {m : Qr} (h : QBox w g m) : g < w.heap.size := (Array.getElem?_eq_some_iff.1 h).1
theorem QBox.below {m : Qr} (h : QBox w g m) (hb : Below w.heap.size w w') : QBox w' g m := (hb.block g h.lt).trans h
theorem QBox.c0 {m : Qr} (h : QBox w g m) : w.cell? ⟨g, 0, none⟩ = some (.int .i64 m.f) := by unfold QBox at h; simp [World.cell?, h, QC]
theorem QBox.c1 {m : Qr} (h : QBox w g m) : w.cell? ⟨g, 1, none⟩ = some (.int .i64 m.t) := by unfold QBox at h; simp [World.cell?, h, QC]
theorem QBox_new (w : World) (m : Qr) : QBox (w.alloc (.cells (QC m) 50)) w.heap.size m := by unfold QBox; rw [heap_alloc_new]
def ldQ (v : Value) : Sem Value := Instr.loadAt 50 v
theorem ldQ_eq (v : Value) : Instr.loadAt 50 v = ldQ v := rfl
def stQ (p v : Value) : Sem Unit := Instr.storeAt 50 p v
theorem stQ_eq (p v : Value) : Instr.storeAt 50 p v = stQ p v := rfl
theorem sizeQ : (Try.prog.info? 50).map (·.size) = some 2 := by kernel_rfl
theorem QBox.range {m : Qr} (h : QBox w g m) : w.rangeAt g 0 (QC m).toList := by
  intro j v hv
  rw [Nat.zero_add]
  unfold QBox at h
  simp only [Array.getElem?_toList] at hv
  simp [World.cell?, h, hv]
theorem run_lvQ {m : Qr} (A : QBox w g m) : (loadVar 50 ⟨g, 0, none⟩).run Try.prog w = .ok (QV m) w := by
  have := run_loadVar_mid (P := Try.prog) w g 0 50 (QC m).toList _ A.range Try.underlying50 rfl (by rw [sizeQ]; rfl)
  simpa using this
theorem run_ldQ {m : Qr} (A : QBox w g m) : (ldQ (.pointer (some ⟨g, 0, none⟩))).run Try.prog w = .ok (.agg (QC m)) w := by
  unfold ldQ
  simp only [Instr.loadAt, Instr.sureAddr, Sem.run_bind, Sem.run_pure, Result.andThen]
  exact run_lvQ A
theorem run_laQ {a : Addr} {m : Qr} (A : QAt w a m) : (ldQ (.pointer (some a))).run Try.prog w = .ok (.agg (QC m)) w := by
  have hl := run_loadCells_list (P := Try.prog) (w := w) a (QC m).toList (fun j v hv => by
    match j, hv with
    | 0, hv => cases hv; rw [add_nought]; exact A.c0
    | 1, hv => cases hv; exact A.c1
    | j + 2, hv => simp [QC] at hv)
  unfold ldQ
  simp only [Instr.loadAt, Instr.sureAddr, Sem.run_bind, Sem.run_pure, Result.andThen]
  cases hq : Try.prog.info? 50 with
  | none => have := sizeQ; simp [hq] at this
  | some x =>
    have hs : x.size = 2 := by have := sizeQ; simpa [hq] using this
    have hagg : (isAgg 50).run Try.prog w = .ok true w := by
      unfold isAgg
      rw [Sem.run_bind, run_underlying Try.underlying50 w]
      rfl
    have e2 : (QC m).toList.length = 2 := rfl
    rw [e2] at hl
    simp [loadVar, Sem.run_bind, hagg, sizeOf, typeInfo, hq, hs, hl]
theorem run_stQ {m m' : Qr} (A : QBox w g m) : (stQ (.pointer (some ⟨g, 0, none⟩)) (.agg (QC m'))).run Try.prog w = .ok () (w.setRow g (QC m')) := by
  unfold stQ
  have h := run_storeCells_from (P := Try.prog) g 50 (QC m').toList 0 (QC m) w A (by simp [QC]) (QC_one m')
  cases hq : Try.prog.info? 50 with
  | none => have := sizeQ; simp [hq] at this
  | some x =>
    have hs : x.size = 2 := by have := sizeQ; simpa [hq] using this
    simp only [Instr.storeAt, Instr.sureAddr, Sem.run_bind, Sem.run_pure, Result.andThen, storeVar, sizeOf, typeInfo, cells_QV, QC_size]
    simp at h
    simp [h, hq, hs]
theorem QBox.setRow {m m' : Qr} (A : QBox w g m) : QBox (w.setRow g (QC m')) g m' := setRow_heap w g _ _ _ _ A
theorem madeQ (w : World) (m : Qr) (g : Nat) (hg : w.heap.size = g) : ∃ w' : World, (stQ (.pointer (some ⟨g, 0, none⟩)) (.agg (QC m))).run Try.prog (w.alloc (.cells (QC q0) 50)) = .ok () w' ∧ QBox w' g m ∧ Below w.heap.size w w' ∧ w'.heap.size = w.heap.size + 1 := by
  subst hg
  refine ⟨_, run_stQ (QBox_new w _), (QBox_new w _).setRow, below_setRow (below_new w _) (Nat.le_refl _), by simp [World.setRow]⟩
theorem res1Q {m : Qr} {fn : Func} {p : Tmp} (h : fn.results = #[.cell p 50]) {tmps : Array Value} (hp : tmps.getD p undef = .pointer (some ⟨g, 0, none⟩)) (A : QBox w g m) :
    (results fn tmps).run Try.prog w = .ok (QV m) w := by
  have hl := run_lvQ A
  simp only [results, h]
  rw [Array.getD_eq_getD_getElem?] at hp
  simp [hp, asAddr, hl]
end Go.Proofs.Ytinicdnpkihbkaa
