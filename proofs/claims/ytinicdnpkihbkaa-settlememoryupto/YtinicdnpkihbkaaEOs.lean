/- Structs in memory (genstruct.py). -/
import Derived.Test.YtinicdnpkihbkaaESp
import Derived.Deep.MidRow
import Derived.Laws.MakeOwn
import Derived.Laws.StructEq
namespace Go.Proofs.Ytinicdnpkihbkaa
open Go.RowKit
variable {w w' : World} {g : Nat}
structure Opp where
  k : Int
  r : Int
  c : Int
  t : Int
  s : ByteArray
  q : Int
  n : Int
def o0 : Opp := ⟨0, 0, 0, 0, ⟨#[]⟩, 0, 0⟩
def OC (m : Opp) : Array Value := #[.int .i64 m.k, .int .i64 m.r, .int .i64 m.c, .int .i64 m.t, .string m.s, .int .i64 m.q, .int .i64 m.n]
abbrev OV (m : Opp) : Value := .agg (OC m)
theorem OC_size (m : Opp) : (OC m).size = 7 := rfl
theorem OC_one (m : Opp) : ∀ v ∈ (OC m).toList, v.oneCell' = true := by
  intro v hv; simp [OC] at hv; rcases hv with rfl | rfl | rfl | rfl | rfl | rfl | rfl <;> rfl
theorem cells_OV (m : Opp) : (OV m).cells = OC m := by simp [Value.cells]
structure OAt (w : World) (a : Addr) (m : Opp) : Prop where
  c0 : w.cell? a = some (.int .i64 m.k)
  c1 : w.cell? (a.add 1) = some (.int .i64 m.r)
  c2 : w.cell? (a.add 2) = some (.int .i64 m.c)
  c3 : w.cell? (a.add 3) = some (.int .i64 m.t)
  c4 : w.cell? (a.add 4) = some (.string m.s)
  c5 : w.cell? (a.add 5) = some (.int .i64 m.q)
  c6 : w.cell? (a.add 6) = some (.int .i64 m.n)
theorem OAt.on {a : Addr} {m : Opp} (S : OAt w a m) (hb : Below w.heap.size w w') : OAt w' a m := by
  have h0 := World.block_lt_of_cell? _ _ S.c0
  exact ⟨by rw [hb.cell h0]; exact S.c0, by rw [hb.cell (by rw [block_of_add]; exact h0)]; exact S.c1, by rw [hb.cell (by rw [block_of_add]; exact h0)]; exact S.c2, by rw [hb.cell (by rw [block_of_add]; exact h0)]; exact S.c3, by rw [hb.cell (by rw [block_of_add]; exact h0)]; exact S.c4, by rw [hb.cell (by rw [block_of_add]; exact h0)]; exact S.c5, by rw [hb.cell (by rw [block_of_add]; exact h0)]; exact S.c6⟩
def OBox (w : World) (g : Nat) (m : Opp) : Prop := w.heap[g]? = some (.cells (OC m) 43 (0, 0))
theorem OBox.lt {m : Opp} (h : OBox w g m) : g < w.heap.size := (Array.getElem?_eq_some_iff.1 h).1
theorem OBox.below {m : Opp} (h : OBox w g m) (hb : Below w.heap.size w w') : OBox w' g m := (hb.block g h.lt).trans h
theorem OBox.c0 {m : Opp} (h : OBox w g m) : w.cell? ⟨g, 0, none⟩ = some (.int .i64 m.k) := by unfold OBox at h; simp [World.cell?, h, OC]
theorem OBox.c1 {m : Opp} (h : OBox w g m) : w.cell? ⟨g, 1, none⟩ = some (.int .i64 m.r) := by unfold OBox at h; simp [World.cell?, h, OC]
theorem OBox.c2 {m : Opp} (h : OBox w g m) : w.cell? ⟨g, 2, none⟩ = some (.int .i64 m.c) := by unfold OBox at h; simp [World.cell?, h, OC]
theorem OBox.c3 {m : Opp} (h : OBox w g m) : w.cell? ⟨g, 3, none⟩ = some (.int .i64 m.t) := by unfold OBox at h; simp [World.cell?, h, OC]
theorem OBox.c4 {m : Opp} (h : OBox w g m) : w.cell? ⟨g, 4, none⟩ = some (.string m.s) := by unfold OBox at h; simp [World.cell?, h, OC]
theorem OBox.c5 {m : Opp} (h : OBox w g m) : w.cell? ⟨g, 5, none⟩ = some (.int .i64 m.q) := by unfold OBox at h; simp [World.cell?, h, OC]
theorem OBox.c6 {m : Opp} (h : OBox w g m) : w.cell? ⟨g, 6, none⟩ = some (.int .i64 m.n) := by unfold OBox at h; simp [World.cell?, h, OC]
theorem OBox_new (w : World) (m : Opp) : OBox (w.alloc (.cells (OC m) 43)) w.heap.size m := by unfold OBox; rw [heap_alloc_new]
def ldO (v : Value) : Sem Value := Instr.loadAt 43 v
theorem ldO_eq (v : Value) : Instr.loadAt 43 v = ldO v := rfl
def stO (p v : Value) : Sem Unit := Instr.storeAt 43 p v
theorem stO_eq (p v : Value) : Instr.storeAt 43 p v = stO p v := rfl
theorem sizeO : (Try.prog.info? 43).map (·.size) = some 7 := by kernel_rfl
theorem OBox.range {m : Opp} (h : OBox w g m) : w.rangeAt g 0 (OC m).toList := by
  intro j v hv
  rw [Nat.zero_add]
  unfold OBox at h
  simp only [Array.getElem?_toList] at hv
  simp [World.cell?, h, hv]
theorem run_lvO {m : Opp} (A : OBox w g m) : (loadVar 43 ⟨g, 0, none⟩).run Try.prog w = .ok (OV m) w := by
  have := run_loadVar_mid (P := Try.prog) w g 0 43 (OC m).toList _ A.range Try.underlying43 rfl (by rw [sizeO]; rfl)
  simpa using this
theorem run_ldO {m : Opp} (A : OBox w g m) : (ldO (.pointer (some ⟨g, 0, none⟩))).run Try.prog w = .ok (.agg (OC m)) w := by
  unfold ldO
  simp only [Instr.loadAt, Instr.sureAddr, Sem.run_bind, Sem.run_pure, Result.andThen]
  exact run_lvO A
theorem run_laO {a : Addr} {m : Opp} (A : OAt w a m) : (ldO (.pointer (some a))).run Try.prog w = .ok (.agg (OC m)) w := by
  have hl := run_loadCells_list (P := Try.prog) (w := w) a (OC m).toList (fun j v hv => by
    match j, hv with
    | 0, hv => cases hv; rw [add_nought]; exact A.c0
    | 1, hv => cases hv; exact A.c1
    | 2, hv => cases hv; exact A.c2
    | 3, hv => cases hv; exact A.c3
    | 4, hv => cases hv; exact A.c4
    | 5, hv => cases hv; exact A.c5
    | 6, hv => cases hv; exact A.c6
    | j + 7, hv => simp [OC] at hv)
  unfold ldO
  simp only [Instr.loadAt, Instr.sureAddr, Sem.run_bind, Sem.run_pure, Result.andThen]
  cases hq : Try.prog.info? 43 with
  | none => have := sizeO; simp [hq] at this
  | some x =>
    have hs : x.size = 7 := by have := sizeO; simpa [hq] using this
    have hagg : (isAgg 43).run Try.prog w = .ok true w := by
      unfold isAgg
      rw [Sem.run_bind, run_underlying Try.underlying43 w]
      rfl
    have e2 : (OC m).toList.length = 7 := rfl
    rw [e2] at hl
    simp [loadVar, Sem.run_bind, hagg, sizeOf, typeInfo, hq, hs, hl]
theorem run_stO {m m' : Opp} (A : OBox w g m) : (stO (.pointer (some ⟨g, 0, none⟩)) (.agg (OC m'))).run Try.prog w = .ok () (w.setRow g (OC m')) := by
  unfold stO
  have h := run_storeCells_from (P := Try.prog) g 43 (OC m').toList 0 (OC m) w A (by simp [OC]) (OC_one m')
  cases hq : Try.prog.info? 43 with
  | none => have := sizeO; simp [hq] at this
  | some x =>
    have hs : x.size = 7 := by have := sizeO; simpa [hq] using this
    simp only [Instr.storeAt, Instr.sureAddr, Sem.run_bind, Sem.run_pure, Result.andThen, storeVar, sizeOf, typeInfo, cells_OV, OC_size]
    simp at h
    simp [h, hq, hs]
theorem OBox.setRow {m m' : Opp} (A : OBox w g m) : OBox (w.setRow g (OC m')) g m' := setRow_heap w g _ _ _ _ A
theorem madeO (w : World) (m : Opp) (g : Nat) (hg : w.heap.size = g) : ∃ w' : World, (stO (.pointer (some ⟨g, 0, none⟩)) (.agg (OC m))).run Try.prog (w.alloc (.cells (OC o0) 43)) = .ok () w' ∧ OBox w' g m ∧ Below w.heap.size w w' ∧ w'.heap.size = w.heap.size + 1 := by
  subst hg
  refine ⟨_, run_stO (OBox_new w _), (OBox_new w _).setRow, below_setRow (below_new w _) (Nat.le_refl _), by simp [World.setRow]⟩
theorem res1O {m : Opp} {fn : Func} {p : Tmp} (h : fn.results = #[.cell p 43]) {tmps : Array Value} (hp : tmps.getD p undef = .pointer (some ⟨g, 0, none⟩)) (A : OBox w g m) :
    (results fn tmps).run Try.prog w = .ok (OV m) w := by
  have hl := run_lvO A
  simp only [results, h]
  rw [Array.getD_eq_getD_getElem?] at hp
  simp [hp, asAddr, hl]
end Go.Proofs.Ytinicdnpkihbkaa
