/- Structs in memory (genstruct.py). -/
import Derived.Test.YthagachlilnjpaaXFi
import Derived.Deep.MidRow
namespace Go.Proofs.Ythagachlilnjpaa
open Go.RowKit
variable {w w' : World} {g : Nat}
structure Opr where
  kind : Int
  sec : Bool
  nn : Int
  xx : Int
  yy : Int
  bo : Option Addr
  bn : Nat
  bc : Nat
def o0 : Opr := ⟨0, false, 0, 0, 0, none, 0, 0⟩
def OC (m : Opr) : Array Value := #[.int .i64 m.kind, .bool m.sec, .int .i64 m.nn, .int .i64 m.xx, .int .i64 m.yy, .slice m.bo m.bn m.bc]
abbrev OV (m : Opr) : Value := .agg (OC m)
theorem OC_size (m : Opr) : (OC m).size = 6 := rfl
theorem OC_one (m : Opr) : ∀ v ∈ (OC m).toList, v.oneCell' = true := by
  intro v hv; simp [OC] at hv; rcases hv with rfl | rfl | rfl | rfl | rfl | rfl <;> rfl
theorem cells_OV (m : Opr) : (OV m).cells = OC m := by simp [Value.cells]
structure OAt (w : World) (a : Addr) (m : Opr) : Prop where
  c0 : w.cell? a = some (.int .i64 m.kind)
  c1 : w.cell? (a.add 1) = some (.bool m.sec)
  c2 : w.cell? (a.add 2) = some (.int .i64 m.nn)
  c3 : w.cell? (a.add 3) = some (.int .i64 m.xx)
  c4 : w.cell? (a.add 4) = some (.int .i64 m.yy)
  c5 : w.cell? (a.add 5) = some (.slice m.bo m.bn m.bc)
theorem OAt.on {a : Addr} {m : Opr} (S : OAt w a m) (hb : Below w.heap.size w w') : OAt w' a m := by
  have h0 := World.block_lt_of_cell? _ _ S.c0
  exact ⟨by rw [hb.cell h0]; exact S.c0, by rw [hb.cell (by rw [block_of_add]; exact h0)]; exact S.c1, by rw [hb.cell (by rw [block_of_add]; exact h0)]; exact S.c2, by rw [hb.cell (by rw [block_of_add]; exact h0)]; exact S.c3, by rw [hb.cell (by rw [block_of_add]; exact h0)]; exact S.c4, by rw [hb.cell (by rw [block_of_add]; exact h0)]; exact S.c5⟩
def OBox (w : World) (g : Nat) (m : Opr) : Prop := w.heap[g]? = some (.cells (OC m) 31 (0, 0))
theorem OBox.lt {m : Opr} (h : OBox w g m) : g < w.heap.size := (Array.getElem?_eq_some_iff.1 h).1
theorem OBox.below {m : Opr} (h : OBox w g m) (hb : Below w.heap.size w w') : OBox w' g m := (hb.block g h.lt).trans h
theorem OBox.c0 {m : Opr} (h : OBox w g m) : w.cell? ⟨g, 0, none⟩ = some (.int .i64 m.kind) := by unfold OBox at h; simp [World.cell?, h, OC]
theorem OBox.c1 {m : Opr} (h : OBox w g m) : w.cell? ⟨g, 1, none⟩ = some (.bool m.sec) := by unfold OBox at h; simp [World.cell?, h, OC]
theorem OBox.c2 {m : Opr} (h : OBox w g m) : w.cell? ⟨g, 2, none⟩ = some (.int .i64 m.nn) := by unfold OBox at h; simp [World.cell?, h, OC]
theorem OBox.c3 {m : Opr} (h : OBox w g m) : w.cell? ⟨g, 3, none⟩ = some (.int .i64 m.xx) := by unfold OBox at h; simp [World.cell?, h, OC]
theorem OBox.c4 {m : Opr} (h : OBox w g m) : w.cell? ⟨g, 4, none⟩ = some (.int .i64 m.yy) := by unfold OBox at h; simp [World.cell?, h, OC]
theorem OBox.c5 {m : Opr} (h : OBox w g m) : w.cell? ⟨g, 5, none⟩ = some (.slice m.bo m.bn m.bc) := by unfold OBox at h; simp [World.cell?, h, OC]
theorem OBox_new (w : World) (m : Opr) : OBox (w.alloc (.cells (OC m) 31)) w.heap.size m := by unfold OBox; rw [heap_alloc_new]
def ldO (v : Value) : Sem Value := Instr.loadAt 31 v
theorem ldO_eq (v : Value) : Instr.loadAt 31 v = ldO v := rfl
def stO (p v : Value) : Sem Unit := Instr.storeAt 31 p v
theorem stO_eq (p v : Value) : Instr.storeAt 31 p v = stO p v := rfl
theorem sizeO : (Try.prog.info? 31).map (·.size) = some 6 := by kernel_rfl
theorem OBox.range {m : Opr} (h : OBox w g m) : w.rangeAt g 0 (OC m).toList := by
  intro j v hv
  rw [Nat.zero_add]
  unfold OBox at h
  simp only [Array.getElem?_toList] at hv
  simp [World.cell?, h, hv]
theorem run_lvO {m : Opr} (A : OBox w g m) : (loadVar 31 ⟨g, 0, none⟩).run Try.prog w = .ok (OV m) w := by
  have := run_loadVar_mid (P := Try.prog) w g 0 31 (OC m).toList _ A.range Try.underlying31 rfl (by rw [sizeO]; rfl)
  simpa using this
theorem run_ldO {m : Opr} (A : OBox w g m) : (ldO (.pointer (some ⟨g, 0, none⟩))).run Try.prog w = .ok (.agg (OC m)) w := by
  unfold ldO
  simp only [Instr.loadAt, Instr.sureAddr, Sem.run_bind, Sem.run_pure, Result.andThen]
  exact run_lvO A
theorem run_laO {a : Addr} {m : Opr} (A : OAt w a m) : (ldO (.pointer (some a))).run Try.prog w = .ok (.agg (OC m)) w := by
  have hl := run_loadCells_list (P := Try.prog) (w := w) a (OC m).toList (fun j v hv => by
    match j, hv with
    | 0, hv => cases hv; rw [add_nought]; exact A.c0
    | 1, hv => cases hv; exact A.c1
    | 2, hv => cases hv; exact A.c2
    | 3, hv => cases hv; exact A.c3
    | 4, hv => cases hv; exact A.c4
    | 5, hv => cases hv; exact A.c5
    | j + 6, hv => simp [OC] at hv)
  unfold ldO
  simp only [Instr.loadAt, Instr.sureAddr, Sem.run_bind, Sem.run_pure, Result.andThen]
  cases hq : Try.prog.info? 31 with
  | none => have := sizeO; simp [hq] at this
  | some x =>
    have hs : x.size = 6 := by have := sizeO; simpa [hq] using this
    have hagg : (isAgg 31).run Try.prog w = .ok true w := by
      unfold isAgg
      rw [Sem.run_bind, run_underlying Try.underlying31 w]
      rfl
    have e2 : (OC m).toList.length = 6 := rfl
    rw [e2] at hl
    simp [loadVar, Sem.run_bind, hagg, sizeOf, typeInfo, hq, hs, hl]
theorem run_stO {m m' : Opr} (A : OBox w g m) : (stO (.pointer (some ⟨g, 0, none⟩)) (.agg (OC m'))).run Try.prog w = .ok () (w.setRow g (OC m')) := by
  unfold stO
  have h := run_storeCells_from (P := Try.prog) g 31 (OC m').toList 0 (OC m) w A (by simp [OC]) (OC_one m')
  cases hq : Try.prog.info? 31 with
  | none => have := sizeO; simp [hq] at this
  | some x =>
    have hs : x.size = 6 := by have := sizeO; simpa [hq] using this
    simp only [Instr.storeAt, Instr.sureAddr, Sem.run_bind, Sem.run_pure, Result.andThen, storeVar, sizeOf, typeInfo, cells_OV, OC_size]
    simp at h
    simp [h, hq, hs]
theorem OBox.setRow {m m' : Opr} (A : OBox w g m) : OBox (w.setRow g (OC m')) g m' := setRow_heap w g _ _ _ _ A
theorem madeO (w : World) (m : Opr) (g : Nat) (hg : w.heap.size = g) : ∃ w' : World, (stO (.pointer (some ⟨g, 0, none⟩)) (.agg (OC m))).run Try.prog (w.alloc (.cells (OC o0) 31)) = .ok () w' ∧ OBox w' g m ∧ Below w.heap.size w w' ∧ w'.heap.size = w.heap.size + 1 := by
  subst hg
  refine ⟨_, run_stO (OBox_new w _), (OBox_new w _).setRow, below_setRow (below_new w _) (Nat.le_refl _), by simp [World.setRow]⟩
theorem res1O {m : Opr} {fn : Func} {p : Tmp} (h : fn.results = #[.cell p 31]) {tmps : Array Value} (hp : tmps.getD p undef = .pointer (some ⟨g, 0, none⟩)) (A : OBox w g m) :
    (results fn tmps).run Try.prog w = .ok (OV m) w := by
  have hl := run_lvO A
  simp only [results, h]
  rw [Array.getD_eq_getD_getElem?] at hp
  simp [hp, asAddr, hl]
end Go.Proofs.Ythagachlilnjpaa
