/- A dot as a variable. -/
import Derived.Test.YtdilejbdkhkifabPut
namespace Go.Proofs.Ytdilejbdkhkifab
open Go.RowKit

/-- the block g is a dot's variable -/
def DotAt (w : World) (g : Nat) (R M : Int) : Prop := w.heap[g]? = some (.cells #[.int .i64 R, .int .i64 M] 31 (0, 0))
section
variable {w w' : World} {g : Nat} {R M : Int}
theorem DotAt.lt (h : DotAt w g R M) : g < w.heap.size := (Array.getElem?_eq_some_iff.1 h).1
theorem DotAt.c0 (h : DotAt w g R M) : w.cell? ⟨g, 0, none⟩ = some (.int .i64 R) := by unfold DotAt at h; simp [World.cell?, h]
theorem DotAt.c1 (h : DotAt w g R M) : w.cell? ⟨g, 1, none⟩ = some (.int .i64 M) := by unfold DotAt at h; simp [World.cell?, h]
theorem DotAt.below (h : DotAt w g R M) (hb : Below w.heap.size w w') : DotAt w' g R M := (hb.block g h.lt).trans h
theorem DotAt.setOther (h : DotAt w g R M) (a : Addr) (v : Value) (hne : a.block ≠ g) : DotAt (w.setCell a v) g R M := by
  unfold DotAt at h ⊢
  simp [World.setCell, h, Array.getElem?_modify, hne]
theorem dot_new (w : World) (R M : Int) : DotAt (w.alloc (.cells #[.int .i64 R, .int .i64 M] 31)) w.heap.size R M := by unfold DotAt; rw [heap_alloc_new]
end
def st29 (p v : Value) : Sem Unit := Instr.storeAt 31 p v
theorem st29_eq (p v : Value) : Instr.storeAt 31 p v = st29 p v := rfl
theorem size29 : (Try.prog.info? 31).map (·.size) = some 2 := by kernel_rfl
theorem run_st29 {w : World} {g : Nat} {R M : Int} (D : DotAt w g R M) (R' M' : Int) :
    (st29 (.pointer (some ⟨g, 0, none⟩)) (.agg #[.int .i64 R', .int .i64 M'])).run Try.prog w = .ok () (w.setRow g #[.int .i64 R', .int .i64 M']) := by
  unfold st29
  have h := run_storeCells_from (P := Try.prog) g 31 [.int .i64 R', .int .i64 M'] 0 #[.int .i64 R, .int .i64 M] w D (by simp) (by intro v hv; simp at hv; rcases hv with rfl | rfl <;> rfl)
  cases hq : Try.prog.info? 31 with
  | none => have := size29; simp [hq] at this
  | some x =>
    have hs : x.size = 2 := by have := size29; simpa [hq] using this
    simp only [Instr.storeAt, Instr.sureAddr, Sem.run_bind, Sem.run_pure, Result.andThen, storeVar, sizeOf, typeInfo]
    simp at h
    simp [h, hq, hs, Value.cells]
theorem run_lv29 {w : World} {g : Nat} {R M : Int} (D : DotAt w g R M) : (loadVar 31 ⟨g, 0, none⟩).run Try.prog w = .ok (.agg #[.int .i64 R, .int .i64 M]) w := by
  have hl := run_loadCells_list (P := Try.prog) (w := w) ⟨g, 0, none⟩ [.int .i64 R, .int .i64 M] (fun j v hv => by
    rw [Addr.add_lit, Nat.zero_add]
    match j, hv with
    | 0, hv => cases hv; exact D.c0
    | 1, hv => cases hv; exact D.c1
    | j + 2, hv => simp at hv)
  cases hq : Try.prog.info? 31 with
  | none => have := size29; simp [hq] at this
  | some x =>
    have hs : x.size = 2 := by have := size29; simpa [hq] using this
    have hagg : (isAgg 31).run Try.prog w = .ok true w := by
      unfold isAgg
      rw [Sem.run_bind, run_underlying Try.underlying31 w]
      rfl
    simp at hl
    simp [loadVar, Sem.run_bind, hagg, sizeOf, typeInfo, hq, hs, hl]
theorem DotAt.setRow {w : World} {g : Nat} {R M : Int} (D : DotAt w g R M) (R' M' : Int) : DotAt (w.setRow g #[.int .i64 R', .int .i64 M']) g R' M' := setRow_heap w g _ _ _ _ D
theorem res3 {fn : Func} {p q u : Tmp} {w : World} {g : Nat} {R M : Int} {v x : Value} (h : fn.results = #[.tmp p, .cell q 31, .tmp u]) {tmps : Array Value} (hp : tmps.getD p undef = v) (hq : tmps.getD q undef = .pointer (some ⟨g, 0, none⟩)) (hu : tmps.getD u undef = x) (D : DotAt w g R M) :
    (results fn tmps).run Try.prog w = .ok (.tuple #[v, .agg #[.int .i64 R, .int .i64 M], x]) w := by
  have hl := run_lv29 D
  simp only [results, h]
  rw [Array.getD_eq_getD_getElem?] at hp hq hu
  simp [hp, hq, hu, asAddr, hl]
end Go.Proofs.Ytdilejbdkhkifab
