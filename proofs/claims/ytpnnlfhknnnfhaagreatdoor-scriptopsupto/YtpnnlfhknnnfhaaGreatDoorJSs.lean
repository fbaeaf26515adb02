/- Structs in memory (genstruct.py). -/
import Derived.Test.YtpnnlfhknnnfhaaGreatDoorJFd
import Derived.Deep.MidRow
import Derived.Laws.CopyOwn
import Derived.Lib.OthersKept
namespace Go.Proofs.YtpnnlfhknnnfhaaGreatDoor
open Go.RowKit
variable {w w' : World} {g : Nat}
structure Shp where
  wd : ByteArray
  fl : ByteArray
def shp0 : Shp := ⟨⟨#[]⟩, ⟨#[]⟩⟩
def ShC (m : Shp) : Array Value := #[.string m.wd, .string m.fl]
abbrev ShV (m : Shp) : Value := .agg (ShC m)
theorem ShC_size (m : Shp) : (ShC m).size = 2 := rfl
theorem ShC_one (m : Shp) : ∀ v ∈ (ShC m).toList, v.oneCell' = true := by
  intro v hv; simp [ShC] at hv; rcases hv with rfl | rfl <;> rfl
theorem cells_ShV (m : Shp) : (ShV m).cells = ShC m := by simp [Value.cells]
structure ShAt (w : World) (a : Addr) (m : Shp) : Prop where
  c0 : w.cell? a = some (.string m.wd)
  c1 : w.cell? (a.add 1) = some (.string m.fl)
theorem ShAt.on {a : Addr} {m : Shp} (S : ShAt w a m) (hb : Below w.heap.size w w') : ShAt w' a m := by
  have h0 := World.block_lt_of_cell? _ _ S.c0
  exact ⟨by rw [hb.cell h0]; exact S.c0, by rw [hb.cell (by rw [block_of_add]; exact h0)]; exact S.c1⟩
def ShBox (w : World) (g : Nat) (m : Shp) : Prop := w.heap[g]? = some (.cells (ShC m) 36 (0, 0))
theorem ShBox.lt {m : Shp} (h : ShBox w g m) : g < w.heap.size := (Array.getElem?_eq_some_iff.1 h).1
theorem ShBox.below {m : Shp} (h : ShBox w g m) (hb : Below w.heap.size w w') : ShBox w' g m := (hb.block g h.lt).trans h
theorem ShBox.c0 {m : Shp} (h : ShBox w g m) : w.cell? ⟨g, 0, none⟩ = some (.string m.wd) := by unfold ShBox at h; simp [World.cell?, h, ShC]
theorem ShBox.c1 {m : Shp} (h : ShBox w g m) : w.cell? ⟨g, 1, none⟩ = some (.string m.fl) := by unfold ShBox at h; simp [World.cell?, h, ShC]
theorem ShBox_new (w : World) (m : Shp) : ShBox (w.alloc (.cells (ShC m) 36)) w.heap.size m := by unfold ShBox; rw [heap_alloc_new]
def ldSh (v : Value) : Sem Value := Instr.loadAt 36 v
theorem ldSh_eq (v : Value) : Instr.loadAt 36 v = ldSh v := rfl
def stSh (p v : Value) : Sem Unit := Instr.storeAt 36 p v
theorem stSh_eq (p v : Value) : Instr.storeAt 36 p v = stSh p v := rfl
theorem sizeSh : (Tryz.prog.info? 36).map (·.size) = some 2 := by kernel_rfl
theorem ShBox.range {m : Shp} (h : ShBox w g m) : w.rangeAt g 0 (ShC m).toList := by
  intro j v hv
  rw [Nat.zero_add]
  unfold ShBox at h
  simp only [Array.getElem?_toList] at hv
  simp [World.cell?, h, hv]
theorem run_lvSh {m : Shp} (A : ShBox w g m) : (loadVar 36 ⟨g, 0, none⟩).run Tryz.prog w = .ok (ShV m) w := by
  have := run_loadVar_mid (P := Tryz.prog) w g 0 36 (ShC m).toList _ A.range Tryz.underlying36 rfl (by rw [sizeSh]; rfl)
  simpa using this
theorem run_ldSh {m : Shp} (A : ShBox w g m) : (ldSh (.pointer (some ⟨g, 0, none⟩))).run Tryz.prog w = .ok (.agg (ShC m)) w := by
  unfold ldSh
  simp only [Instr.loadAt, Instr.sureAddr, Sem.run_bind, Sem.run_pure, Result.andThen]
  exact run_lvSh A
theorem run_laSh {a : Addr} {m : Shp} (A : ShAt w a m) : (ldSh (.pointer (some a))).run Tryz.prog w = .ok (.agg (ShC m)) w := by
  have hl := run_loadCells_list (P := Tryz.prog) (w := w) a (ShC m).toList (fun j v hv => by
    match j, hv with
    | 0, hv => cases hv; rw [add_nought]; exact A.c0
    | 1, hv => cases hv; exact A.c1
    | j + 2, hv => simp [ShC] at hv)
  unfold ldSh
  simp only [Instr.loadAt, Instr.sureAddr, Sem.run_bind, Sem.run_pure, Result.andThen]
  cases hq : Tryz.prog.info? 36 with
  | none => have := sizeSh; simp [hq] at this
  | some x =>
    have hs : x.size = 2 := by have := sizeSh; simpa [hq] using this
    have hagg : (isAgg 36).run Tryz.prog w = .ok true w := by
      unfold isAgg
      rw [Sem.run_bind, run_underlying Tryz.underlying36 w]
      rfl
    have e2 : (ShC m).toList.length = 2 := rfl
    rw [e2] at hl
    simp [loadVar, Sem.run_bind, hagg, sizeOf, typeInfo, hq, hs, hl]
theorem run_stSh {m m' : Shp} (A : ShBox w g m) : (stSh (.pointer (some ⟨g, 0, none⟩)) (.agg (ShC m'))).run Tryz.prog w = .ok () (w.setRow g (ShC m')) := by
  unfold stSh
  have h := run_storeCells_from (P := Tryz.prog) g 36 (ShC m').toList 0 (ShC m) w A (by simp [ShC]) (ShC_one m')
  cases hq : Tryz.prog.info? 36 with
  | none => have := sizeSh; simp [hq] at this
  | some x =>
    have hs : x.size = 2 := by have := sizeSh; simpa [hq] using this
    simp only [Instr.storeAt, Instr.sureAddr, Sem.run_bind, Sem.run_pure, Result.andThen, storeVar, sizeOf, typeInfo, cells_ShV, ShC_size]
    simp at h
    simp [h, hq, hs]
theorem ShBox.setRow {m m' : Shp} (A : ShBox w g m) : ShBox (w.setRow g (ShC m')) g m' := setRow_heap w g _ _ _ _ A
theorem madeSh (w : World) (m : Shp) (g : Nat) (hg : w.heap.size = g) : ∃ w' : World, (stSh (.pointer (some ⟨g, 0, none⟩)) (.agg (ShC m))).run Tryz.prog (w.alloc (.cells (ShC shp0) 36)) = .ok () w' ∧ ShBox w' g m ∧ Below w.heap.size w w' ∧ w'.heap.size = w.heap.size + 1 := by
  subst hg
  refine ⟨_, run_stSh (ShBox_new w _), (ShBox_new w _).setRow, below_setRow (below_new w _) (Nat.le_refl _), by simp [World.setRow]⟩
theorem res1Sh {m : Shp} {fn : Func} {p : Tmp} (h : fn.results = #[.cell p 36]) {tmps : Array Value} (hp : tmps.getD p undef = .pointer (some ⟨g, 0, none⟩)) (A : ShBox w g m) :
    (results fn tmps).run Tryz.prog w = .ok (ShV m) w := by
  have hl := run_lvSh A
  simp only [results, h]
  rw [Array.getD_eq_getD_getElem?] at hp
  simp [hp, asAddr, hl]
end Go.Proofs.YtpnnlfhknnnfhaaGreatDoor
