/- A span as a variable, and as an element of a list. -/
import Derived.Test.YtdilejbdkhkifaaSpan
namespace Go.Proofs.Ytdilejbdkhkifaa
open Go.RowKit

def SpanAt (w : World) (g : Nat) (s : Int × Int × Int) : Prop := w.heap[g]? = some (.cells (spC s).toArray 53 (0, 0))
section
variable {w w' : World} {g : Nat} {s : Int × Int × Int}
theorem SpanAt.lt (h : SpanAt w g s) : g < w.heap.size := (Array.getElem?_eq_some_iff.1 h).1
theorem SpanAt.c0 (h : SpanAt w g s) : w.cell? ⟨g, 0, none⟩ = some (.int .i64 s.1) := by unfold SpanAt at h; simp [World.cell?, h, spC]
theorem SpanAt.c1 (h : SpanAt w g s) : w.cell? ⟨g, 1, none⟩ = some (.int .i64 s.2.1) := by unfold SpanAt at h; simp [World.cell?, h, spC]
theorem SpanAt.c2 (h : SpanAt w g s) : w.cell? ⟨g, 2, none⟩ = some (.int .i64 s.2.2) := by unfold SpanAt at h; simp [World.cell?, h, spC]
theorem span_new (w : World) (s : Int × Int × Int) : SpanAt (w.alloc (.cells (spC s).toArray 53)) w.heap.size s := by unfold SpanAt; rw [heap_alloc_new]
end
def ld53 (v : Value) : Sem Value := Instr.loadAt 53 v
theorem ld53_eq (v : Value) : Instr.loadAt 53 v = ld53 v := rfl
def st53 (p v : Value) : Sem Unit := Instr.storeAt 53 p v
theorem st53_eq (p v : Value) : Instr.storeAt 53 p v = st53 p v := rfl
theorem size53 : (Try.prog.info? 53).map (·.size) = some 3 := by kernel_rfl
theorem add_add' (p : Addr) (a b : Nat) : (p.add a).add b = p.add (a + b) := by
  obtain ⟨blk, off, sp⟩ := p
  unfold Addr.add
  cases sp with
  | none =>
    by_cases h : a = 0 <;> by_cases h' : b = 0 <;> simp_all <;> omega
  | some x =>
    by_cases h : a = 0 <;> by_cases h' : b = 0 <;> simp_all <;> omega
theorem run_ld53 {w : World} {ao : Option Addr} {m c : Nat} {L : List (Int × Int × Int)} (S : SSrc w ao m c L) (ad : Addr) (ha : ao = some ad) (t : Nat) (ht : t < m) :
    (ld53 (.pointer (some (ad.add (t * 3))))).run Try.prog w = .ok (.agg (spC (L.getD t (0, 0, 0))).toArray) w := by
  have hl := run_loadCells_list (P := Try.prog) (w := w) (ad.add (t * 3)) (spC (L.getD t (0, 0, 0))) (fun j v hv => by
    have hj : j < 3 := by have := (List.getElem?_eq_some_iff.1 hv).1; simpa [spC] using this
    rw [add_add', S.2.2 ad ha t ht j hj]; exact hv)
  have e : (spC (L.getD t (0, 0, 0))).length = 3 := rfl
  rw [e] at hl
  unfold ld53
  cases hq : Try.prog.info? 53 with
  | none => have := size53; simp [hq] at this
  | some x =>
    have hs : x.size = 3 := by have := size53; simpa [hq] using this
    have hagg : (isAgg 53).run Try.prog w = .ok true w := by
      unfold isAgg
      rw [Sem.run_bind, run_underlying Try.underlying53 w]
      rfl
    simp [Instr.loadAt, Instr.sureAddr, loadVar, Sem.run_bind, hagg, sizeOf, typeInfo, hq, hs, hl]
theorem freshS (w1 : World) (s : Int × Int × Int) : ∃ w2 : World, (st53 (.pointer (some ⟨w1.heap.size, 0, none⟩)) (.agg (spC s).toArray)).run Try.prog (w1.alloc (.cells #[.int .i64 0, .int .i64 0, .int .i64 0] 53)) = .ok () w2 ∧ SpanAt w2 w1.heap.size s ∧ Below w1.heap.size w1 w2 := by
  have D : SpanAt (w1.alloc (.cells #[.int .i64 0, .int .i64 0, .int .i64 0] 53)) w1.heap.size (0, 0, 0) := span_new w1 (0, 0, 0)
  have h := run_storeCells_from (P := Try.prog) w1.heap.size 53 (spC s) 0 _ _ D (by simp [spC]) (by intro v hv; simp [spC] at hv; rcases hv with rfl | rfl | rfl <;> rfl)
  refine ⟨_, ?_, setRow_heap _ w1.heap.size _ (spC s).toArray _ _ D, below_setRow ((Below.refl _ _).alloc (Nat.le_refl _) _) (Nat.le_refl _)⟩
  unfold st53
  cases hq : Try.prog.info? 53 with
  | none => have := size53; simp [hq] at this
  | some x =>
    have hs : x.size = 3 := by have := size53; simpa [hq] using this
    simp only [Instr.storeAt, Instr.sureAddr, Sem.run_bind, Sem.run_pure, Result.andThen, storeVar, sizeOf, typeInfo]
    simp at h
    have e : (spC s).length = 3 := rfl
    simp [h, hq, hs, Value.cells, e]
end Go.Proofs.Ytdilejbdkhkifaa
