/- Structs in memory (genstruct.py). -/
import Derived.Test.YthagachlilnjpaaXWa
import Derived.Deep.MidRow
namespace Go.Proofs.Ythagachlilnjpaa
open Go.RowKit
variable {w w' : World} {g : Nat}
structure Mde where
  frm : Int
  dst : Int
  txt : ByteArray
  spent : Bool
def d0 : Mde := ⟨0, 0, ⟨#[]⟩, false⟩
def DC (m : Mde) : Array Value := #[.int .i64 m.frm, .int .i64 m.dst, .string m.txt, .bool m.spent]
abbrev DV (m : Mde) : Value := .agg (DC m)
theorem DC_size (m : Mde) : (DC m).size = 4 := rfl
theorem DC_one (m : Mde) : ∀ v ∈ (DC m).toList, v.oneCell' = true := by
  intro v hv; simp [DC] at hv; rcases hv with rfl | rfl | rfl | rfl <;> rfl
theorem cells_DV (m : Mde) : (DV m).cells = DC m := by simp [Value.cells]
structure DAt (w : World) (a : Addr) (m : Mde) : Prop where
  c0 : w.cell? a = some (.int .i64 m.frm)
  c1 : w.cell? (a.add 1) = some (.int .i64 m.dst)
  c2 : w.cell? (a.add 2) = some (.string m.txt)
  c3 : w.cell? (a.add 3) = some (.bool m.spent)
theorem DAt.on {a : Addr} {m : Mde} (S : DAt w a m) (hb : Below w.heap.size w w') : DAt w' a m := by
  have h0 := World.block_lt_of_cell? _ _ S.c0
  exact ⟨by rw [hb.cell h0]; exact S.c0, by rw [hb.cell (by rw [block_of_add]; exact h0)]; exact S.c1, by rw [hb.cell (by rw [block_of_add]; exact h0)]; exact S.c2, by rw [hb.cell (by rw [block_of_add]; exact h0)]; exact S.c3⟩
def DBox (w : World) (g : Nat) (m : Mde) : Prop := w.heap[g]? = some (.cells (DC m) 46 (0, 0))
theorem DBox.lt {m : Mde} (h : DBox w g m) : g < w.heap.size := (Array.getElem?_eq_some_iff.1 h).1
theorem DBox.below {m : Mde} (h : DBox w g m) (hb : Below w.heap.size w w') : DBox w' g m := (hb.block g h.lt).trans h
theorem DBox.c0 {m : Mde} (h : DBox w g m) : w.cell? ⟨g, 0, none⟩ = some (.int .i64 m.frm) := by unfold DBox at h; simp [World.cell?, h, DC]
theorem DBox.c1 {m : Mde} (h : DBox w g m) : w.cell? ⟨g, 1, none⟩ = some (.int .i64 m.dst) := by unfold DBox at h; simp [World.cell?, h, DC]
theorem DBox.c2 {m : Mde} (h : DBox w g m) : w.cell? ⟨g, 2, none⟩ = some (.string m.txt) := by unfold DBox at h; simp [World.cell?, h, DC]
theorem DBox.c3 {m : Mde} (h : DBox w g m) : w.cell? ⟨g, 3, none⟩ = some (.bool m.spent) := by unfold DBox at h; simp [World.cell?, h, DC]
theorem DBox_new (w : World) (m : Mde) : DBox (w.alloc (.cells (DC m) 46)) w.heap.size m := by unfold DBox; rw [heap_alloc_new]
def ldD (v : Value) : Sem Value := Instr.loadAt 46 v
theorem ldD_eq (v : Value) : Instr.loadAt 46 v = ldD v := rfl
def stD (p v : Value) : Sem Unit := Instr.storeAt 46 p v
theorem stD_eq (p v : Value) : Instr.storeAt 46 p v = stD p v := rfl
theorem sizeD : (Try.prog.info? 46).map (·.size) = some 4 := by kernel_rfl
theorem DBox.range {m : Mde} (h : DBox w g m) : w.rangeAt g 0 (DC m).toList := by
  intro j v hv
  rw [Nat.zero_add]
  unfold DBox at h
  simp only [Array.getElem?_toList] at hv
  simp [World.cell?, h, hv]
theorem run_lvD {m : Mde} (A : DBox w g m) : (loadVar 46 ⟨g, 0, none⟩).run Try.prog w = .ok (DV m) w := by
  have := run_loadVar_mid (P := Try.prog) w g 0 46 (DC m).toList _ A.range Try.underlying46 rfl (by rw [sizeD]; rfl)
  simpa using this
theorem run_ldD {m : Mde} (A : DBox w g m) : (ldD (.pointer (some ⟨g, 0, none⟩))).run Try.prog w = .ok (.agg (DC m)) w := by
  unfold ldD
  simp only [Instr.loadAt, Instr.sureAddr, Sem.run_bind, Sem.run_pure, Result.andThen]
  exact run_lvD A
theorem run_laD {a : Addr} {m : Mde} (A : DAt w a m) : (ldD (.pointer (some a))).run Try.prog w = .ok (.agg (DC m)) w := by
  have hl := run_loadCells_list (P := Try.prog) (w := w) a (DC m).toList (fun j v hv => by
    match j, hv with
    | 0, hv => cases hv; rw [add_nought]; exact A.c0
    | 1, hv => cases hv; exact A.c1
    | 2, hv => cases hv; exact A.c2
    | 3, hv => cases hv; exact A.c3
    | j + 4, hv => simp [DC] at hv)
  unfold ldD
  simp only [Instr.loadAt, Instr.sureAddr, Sem.run_bind, Sem.run_pure, Result.andThen]
  cases hq : Try.prog.info? 46 with
  | none => have := sizeD; simp [hq] at this
  | some x =>
    have hs : x.size = 4 := by have := sizeD; simpa [hq] using this
    have hagg : (isAgg 46).run Try.prog w = .ok true w := by
      unfold isAgg
      rw [Sem.run_bind, run_underlying Try.underlying46 w]
      rfl
    have e2 : (DC m).toList.length = 4 := rfl
    rw [e2] at hl
    simp [loadVar, Sem.run_bind, hagg, sizeOf, typeInfo, hq, hs, hl]
theorem run_stD {m m' : Mde} (A : DBox w g m) : (stD (.pointer (some ⟨g, 0, none⟩)) (.agg (DC m'))).run Try.prog w = .ok () (w.setRow g (DC m')) := by
  unfold stD
  have h := run_storeCells_from (P := Try.prog) g 46 (DC m').toList 0 (DC m) w A (by simp [DC]) (DC_one m')
  cases hq : Try.prog.info? 46 with
  | none => have := sizeD; simp [hq] at this
  | some x =>
    have hs : x.size = 4 := by have := sizeD; simpa [hq] using this
    simp only [Instr.storeAt, Instr.sureAddr, Sem.run_bind, Sem.run_pure, Result.andThen, storeVar, sizeOf, typeInfo, cells_DV, DC_size]
    simp at h
    simp [h, hq, hs]
theorem DBox.setRow {m m' : Mde} (A : DBox w g m) : DBox (w.setRow g (DC m')) g m' := setRow_heap w g _ _ _ _ A
theorem madeD (w : World) (m : Mde) (g : Nat) (hg : w.heap.size = g) : ∃ w' : World, (stD (.pointer (some ⟨g, 0, none⟩)) (.agg (DC m))).run Try.prog (w.alloc (.cells (DC d0) 46)) = .ok () w' ∧ DBox w' g m ∧ Below w.heap.size w w' ∧ w'.heap.size = w.heap.size + 1 := by
  subst hg
  refine ⟨_, run_stD (DBox_new w _), (DBox_new w _).setRow, below_setRow (below_new w _) (Nat.le_refl _), by simp [World.setRow]⟩
theorem res1D {m : Mde} {fn : Func} {p : Tmp} (h : fn.results = #[.cell p 46]) {tmps : Array Value} (hp : tmps.getD p undef = .pointer (some ⟨g, 0, none⟩)) (A : DBox w g m) :
    (results fn tmps).run Try.prog w = .ok (DV m) w := by
  have hl := run_lvD A
  simp only [results, h]
  rw [Array.getD_eq_getD_getElem?] at hp
  simp [hp, asAddr, hl]
end Go.Proofs.Ythagachlilnjpaa
