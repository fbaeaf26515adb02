/- Structs in memory (genstruct.py). -/
import Derived.Test.YtheiblagjeekjaaDoorTeB
import Derived.Deep.MidRow
import Derived.Laws.CopyOwn
import Derived.Lib.OthersKept
namespace Go.Proofs.YtheiblagjeekjaaDoor
open Go.RowKit
theorem add_nought (p : Addr) : p.add 0 = p := by unfold Addr.add; split <;> simp_all
theorem below_setRow {w w' : World} {n g : Nat} {cs : Array Value} (h : Below n w w') (hg : n ≤ g) : Below n w (w'.setRow g cs) :=
  h.trans ⟨rfl, rfl, rfl, by simp [World.setRow], fun k hk => setRow_other _ _ _ _ (by omega)⟩
variable {w w' : World} {g : Nat}
structure Lne where
  sku : ByteArray
  qty : Int
  parts : Int
def ln0 : Lne := ⟨⟨#[]⟩, 0, 0⟩
def LnC (m : Lne) : Array Value := #[.string m.sku, .int .i64 m.qty, .int .i64 m.parts]
abbrev LnV (m : Lne) : Value := .agg (LnC m)
theorem LnC_size (m : Lne) : (LnC m).size = 3 := rfl
theorem LnC_one (m : Lne) : ∀ v ∈ (LnC m).toList, v.oneCell' = true := by
  intro v hv; simp [LnC] at hv; rcases hv with rfl | rfl | rfl <;> rfl
theorem cells_LnV (m : Lne) : (LnV m).cells = LnC m := by simp [Value.cells]
structure LnAt (w : World) (a : Addr) (m : Lne) : Prop where
  c0 : w.cell? a = some (.string m.sku)
  c1 : w.cell? (a.add 1) = some (.int .i64 m.qty)
  c2 : w.cell? (a.add 2) = some (.int .i64 m.parts)
theorem LnAt.on {a : Addr} {m : Lne} (S : LnAt w a m) (hb : Below w.heap.size w w') : LnAt w' a m := by
  have h0 := World.block_lt_of_cell? _ _ S.c0
  exact ⟨by rw [hb.cell h0]; exact S.c0, by rw [hb.cell (by rw [block_of_add]; exact h0)]; exact S.c1, by rw [hb.cell (by rw [block_of_add]; exact h0)]; exact S.c2⟩
def LnBox (w : World) (g : Nat) (m : Lne) : Prop := w.heap[g]? = some (.cells (LnC m) 31 (0, 0))
theorem LnBox.lt {m : Lne} (h : LnBox w g m) : g < w.heap.size := (Array.getElem?_eq_some_iff.1 h).1
theorem LnBox.below {m : Lne} (h : LnBox w g m) (hb : Below w.heap.size w w') : LnBox w' g m := (hb.block g h.lt).trans h
theorem LnBox.c0 {m : Lne} (h : LnBox w g m) : w.cell? ⟨g, 0, none⟩ = some (.string m.sku) := by unfold LnBox at h; simp [World.cell?, h, LnC]
theorem LnBox.c1 {m : Lne} (h : LnBox w g m) : w.cell? ⟨g, 1, none⟩ = some (.int .i64 m.qty) := by unfold LnBox at h; simp [World.cell?, h, LnC]
theorem LnBox.c2 {m : Lne} (h : LnBox w g m) : w.cell? ⟨g, 2, none⟩ = some (.int .i64 m.parts) := by unfold LnBox at h; simp [World.cell?, h, LnC]
theorem LnBox_new (w : World) (m : Lne) : LnBox (w.alloc (.cells (LnC m) 31)) w.heap.size m := by unfold LnBox; rw [heap_alloc_new]
def ldLn (v : Value) : Sem Value := Instr.loadAt 31 v
theorem ldLn_eq (v : Value) : Instr.loadAt 31 v = ldLn v := rfl
def stLn (p v : Value) : Sem Unit := Instr.storeAt 31 p v
theorem stLn_eq (p v : Value) : Instr.storeAt 31 p v = stLn p v := rfl
theorem sizeLn : (Tryd.prog.info? 31).map (·.size) = some 3 := by kernel_rfl
theorem LnBox.range {m : Lne} (h : LnBox w g m) : w.rangeAt g 0 (LnC m).toList := by
  intro j v hv
  rw [Nat.zero_add]
  unfold LnBox at h
  simp only [Array.getElem?_toList] at hv
  simp [World.cell?, h, hv]
theorem run_lvLn {m : Lne} (A : LnBox w g m) : (loadVar 31 ⟨g, 0, none⟩).run Tryd.prog w = .ok (LnV m) w := by
  have := run_loadVar_mid (P := Tryd.prog) w g 0 31 (LnC m).toList _ A.range Tryd.underlying31 rfl (by rw [sizeLn]; rfl)
  simpa using this
theorem run_ldLn {m : Lne} (A : LnBox w g m) : (ldLn (.pointer (some ⟨g, 0, none⟩))).run Tryd.prog w = .ok (.agg (LnC m)) w := by
  unfold ldLn
  simp only [Instr.loadAt, Instr.sureAddr, Sem.run_bind, Sem.run_pure, Result.andThen]
  exact run_lvLn A
theorem run_laLn {a : Addr} {m : Lne} (A : LnAt w a m) : (ldLn (.pointer (some a))).run Tryd.prog w = .ok (.agg (LnC m)) w := by
  have hl := run_loadCells_list (P := Tryd.prog) (w := w) a (LnC m).toList (fun j v hv => by
    match j, hv with
    | 0, hv => cases hv; rw [add_nought]; exact A.c0
    | 1, hv => cases hv; exact A.c1
    | 2, hv => cases hv; exact A.c2
    | j + 3, hv => simp [LnC] at hv)
  unfold ldLn
  simp only [Instr.loadAt, Instr.sureAddr, Sem.run_bind, Sem.run_pure, Result.andThen]
  cases hq : Tryd.prog.info? 31 with
  | none => have := sizeLn; simp [hq] at this
  | some x =>
    have hs : x.size = 3 := by have := sizeLn; simpa [hq] using this
    have hagg : (isAgg 31).run Tryd.prog w = .ok true w := by
      unfold isAgg
      rw [Sem.run_bind, run_underlying Tryd.underlying31 w]
      rfl
    have e2 : (LnC m).toList.length = 3 := rfl
    rw [e2] at hl
    simp [loadVar, Sem.run_bind, hagg, sizeOf, typeInfo, hq, hs, hl]
theorem run_stLn {m m' : Lne} (A : LnBox w g m) : (stLn (.pointer (some ⟨g, 0, none⟩)) (.agg (LnC m'))).run Tryd.prog w = .ok () (w.setRow g (LnC m')) := by
  unfold stLn
  have h := run_storeCells_from (P := Tryd.prog) g 31 (LnC m').toList 0 (LnC m) w A (by simp [LnC]) (LnC_one m')
  cases hq : Tryd.prog.info? 31 with
  | none => have := sizeLn; simp [hq] at this
  | some x =>
    have hs : x.size = 3 := by have := sizeLn; simpa [hq] using this
    simp only [Instr.storeAt, Instr.sureAddr, Sem.run_bind, Sem.run_pure, Result.andThen, storeVar, sizeOf, typeInfo, cells_LnV, LnC_size]
    simp at h
    simp [h, hq, hs]
theorem LnBox.setRow {m m' : Lne} (A : LnBox w g m) : LnBox (w.setRow g (LnC m')) g m' := setRow_heap w g _ _ _ _ A
theorem madeLn (w : World) (m : Lne) (g : Nat) (hg : w.heap.size = g) : ∃ w' : World, (stLn (.pointer (some ⟨g, 0, none⟩)) (.agg (LnC m))).run Tryd.prog (w.alloc (.cells (LnC ln0) 31)) = .ok () w' ∧ LnBox w' g m ∧ Below w.heap.size w w' ∧ w'.heap.size = w.heap.size + 1 := by
  subst hg
  refine ⟨_, run_stLn (LnBox_new w _), (LnBox_new w _).setRow, below_setRow (below_new w _) (Nat.le_refl _), by simp [World.setRow]⟩
theorem res1Ln {m : Lne} {fn : Func} {p : Tmp} (h : fn.results = #[.cell p 31]) {tmps : Array Value} (hp : tmps.getD p undef = .pointer (some ⟨g, 0, none⟩)) (A : LnBox w g m) :
    (results fn tmps).run Tryd.prog w = .ok (LnV m) w := by
  have hl := run_lvLn A
  simp only [results, h]
  rw [Array.getD_eq_getD_getElem?] at hp
  simp [hp, asAddr, hl]
structure Ans where
  st : Int
  lno : Option Addr
  lnn : Nat
  lnc : Nat
  tok : Int
  msg : Int
def an0 : Ans := ⟨0, none, 0, 0, 0, 0⟩
def AnC (m : Ans) : Array Value := #[.int .i64 m.st, .slice m.lno m.lnn m.lnc, .int .i64 m.tok, .int .i64 m.msg]
abbrev AnV (m : Ans) : Value := .agg (AnC m)
theorem AnC_size (m : Ans) : (AnC m).size = 4 := rfl
theorem AnC_one (m : Ans) : ∀ v ∈ (AnC m).toList, v.oneCell' = true := by
  intro v hv; simp [AnC] at hv; rcases hv with rfl | rfl | rfl | rfl <;> rfl
theorem cells_AnV (m : Ans) : (AnV m).cells = AnC m := by simp [Value.cells]
structure AnAt (w : World) (a : Addr) (m : Ans) : Prop where
  c0 : w.cell? a = some (.int .i64 m.st)
  c1 : w.cell? (a.add 1) = some (.slice m.lno m.lnn m.lnc)
  c2 : w.cell? (a.add 2) = some (.int .i64 m.tok)
  c3 : w.cell? (a.add 3) = some (.int .i64 m.msg)
theorem AnAt.on {a : Addr} {m : Ans} (S : AnAt w a m) (hb : Below w.heap.size w w') : AnAt w' a m := by
  have h0 := World.block_lt_of_cell? _ _ S.c0
  exact ⟨by rw [hb.cell h0]; exact S.c0, by rw [hb.cell (by rw [block_of_add]; exact h0)]; exact S.c1, by rw [hb.cell (by rw [block_of_add]; exact h0)]; exact S.c2, by rw [hb.cell (by rw [block_of_add]; exact h0)]; exact S.c3⟩
def AnBox (w : World) (g : Nat) (m : Ans) : Prop := w.heap[g]? = some (.cells (AnC m) 28 (0, 0))
theorem AnBox.lt {m : Ans} (h : AnBox w g m) : g < w.heap.size := (Array.getElem?_eq_some_iff.1 h).1
theorem AnBox.below {m : Ans} (h : AnBox w g m) (hb : Below w.heap.size w w') : AnBox w' g m := (hb.block g h.lt).trans h
theorem AnBox.c0 {m : Ans} (h : AnBox w g m) : w.cell? ⟨g, 0, none⟩ = some (.int .i64 m.st) := by unfold AnBox at h; simp [World.cell?, h, AnC]
theorem AnBox.c1 {m : Ans} (h : AnBox w g m) : w.cell? ⟨g, 1, none⟩ = some (.slice m.lno m.lnn m.lnc) := by unfold AnBox at h; simp [World.cell?, h, AnC]
theorem AnBox.c2 {m : Ans} (h : AnBox w g m) : w.cell? ⟨g, 2, none⟩ = some (.int .i64 m.tok) := by unfold AnBox at h; simp [World.cell?, h, AnC]
theorem AnBox.c3 {m : Ans} (h : AnBox w g m) : w.cell? ⟨g, 3, none⟩ = some (.int .i64 m.msg) := by unfold AnBox at h; simp [World.cell?, h, AnC]
theorem AnBox_new (w : World) (m : Ans) : AnBox (w.alloc (.cells (AnC m) 28)) w.heap.size m := by unfold AnBox; rw [heap_alloc_new]
def ldAn (v : Value) : Sem Value := Instr.loadAt 28 v
theorem ldAn_eq (v : Value) : Instr.loadAt 28 v = ldAn v := rfl
def stAn (p v : Value) : Sem Unit := Instr.storeAt 28 p v
theorem stAn_eq (p v : Value) : Instr.storeAt 28 p v = stAn p v := rfl
theorem sizeAn : (Tryd.prog.info? 28).map (·.size) = some 4 := by kernel_rfl
theorem AnBox.range {m : Ans} (h : AnBox w g m) : w.rangeAt g 0 (AnC m).toList := by
  intro j v hv
  rw [Nat.zero_add]
  unfold AnBox at h
  simp only [Array.getElem?_toList] at hv
  simp [World.cell?, h, hv]
theorem run_lvAn {m : Ans} (A : AnBox w g m) : (loadVar 28 ⟨g, 0, none⟩).run Tryd.prog w = .ok (AnV m) w := by
  have := run_loadVar_mid (P := Tryd.prog) w g 0 28 (AnC m).toList _ A.range Tryd.underlying28 rfl (by rw [sizeAn]; rfl)
  simpa using this
theorem run_ldAn {m : Ans} (A : AnBox w g m) : (ldAn (.pointer (some ⟨g, 0, none⟩))).run Tryd.prog w = .ok (.agg (AnC m)) w := by
  unfold ldAn
  simp only [Instr.loadAt, Instr.sureAddr, Sem.run_bind, Sem.run_pure, Result.andThen]
  exact run_lvAn A
theorem run_laAn {a : Addr} {m : Ans} (A : AnAt w a m) : (ldAn (.pointer (some a))).run Tryd.prog w = .ok (.agg (AnC m)) w := by
  have hl := run_loadCells_list (P := Tryd.prog) (w := w) a (AnC m).toList (fun j v hv => by
    match j, hv with
    | 0, hv => cases hv; rw [add_nought]; exact A.c0
    | 1, hv => cases hv; exact A.c1
    | 2, hv => cases hv; exact A.c2
    | 3, hv => cases hv; exact A.c3
    | j + 4, hv => simp [AnC] at hv)
  unfold ldAn
  simp only [Instr.loadAt, Instr.sureAddr, Sem.run_bind, Sem.run_pure, Result.andThen]
  cases hq : Tryd.prog.info? 28 with
  | none => have := sizeAn; simp [hq] at this
  | some x =>
    have hs : x.size = 4 := by have := sizeAn; simpa [hq] using this
    have hagg : (isAgg 28).run Tryd.prog w = .ok true w := by
      unfold isAgg
      rw [Sem.run_bind, run_underlying Tryd.underlying28 w]
      rfl
    have e2 : (AnC m).toList.length = 4 := rfl
    rw [e2] at hl
    simp [loadVar, Sem.run_bind, hagg, sizeOf, typeInfo, hq, hs, hl]
theorem run_stAn {m m' : Ans} (A : AnBox w g m) : (stAn (.pointer (some ⟨g, 0, none⟩)) (.agg (AnC m'))).run Tryd.prog w = .ok () (w.setRow g (AnC m')) := by
  unfold stAn
  have h := run_storeCells_from (P := Tryd.prog) g 28 (AnC m').toList 0 (AnC m) w A (by simp [AnC]) (AnC_one m')
  cases hq : Tryd.prog.info? 28 with
  | none => have := sizeAn; simp [hq] at this
  | some x =>
    have hs : x.size = 4 := by have := sizeAn; simpa [hq] using this
    simp only [Instr.storeAt, Instr.sureAddr, Sem.run_bind, Sem.run_pure, Result.andThen, storeVar, sizeOf, typeInfo, cells_AnV, AnC_size]
    simp at h
    simp [h, hq, hs]
theorem AnBox.setRow {m m' : Ans} (A : AnBox w g m) : AnBox (w.setRow g (AnC m')) g m' := setRow_heap w g _ _ _ _ A
theorem madeAn (w : World) (m : Ans) (g : Nat) (hg : w.heap.size = g) : ∃ w' : World, (stAn (.pointer (some ⟨g, 0, none⟩)) (.agg (AnC m))).run Tryd.prog (w.alloc (.cells (AnC an0) 28)) = .ok () w' ∧ AnBox w' g m ∧ Below w.heap.size w w' ∧ w'.heap.size = w.heap.size + 1 := by
  subst hg
  refine ⟨_, run_stAn (AnBox_new w _), (AnBox_new w _).setRow, below_setRow (below_new w _) (Nat.le_refl _), by simp [World.setRow]⟩
theorem res1An {m : Ans} {fn : Func} {p : Tmp} (h : fn.results = #[.cell p 28]) {tmps : Array Value} (hp : tmps.getD p undef = .pointer (some ⟨g, 0, none⟩)) (A : AnBox w g m) :
    (results fn tmps).run Tryd.prog w = .ok (AnV m) w := by
  have hl := run_lvAn A
  simp only [results, h]
  rw [Array.getD_eq_getD_getElem?] at hp
  simp [hp, asAddr, hl]
end Go.Proofs.YtheiblagjeekjaaDoor
