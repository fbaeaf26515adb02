/- Structs in memory (genstruct.py). -/
import Derived.Test.YthagachlilnjpaaXBs
import Derived.Deep.MidRow
import Derived.Laws.CopyOwn
import Derived.Lib.OthersKept
namespace Go.Proofs.Ythagachlilnjpaa
open Go.RowKit
theorem add_nought (p : Addr) : p.add 0 = p := by unfold Addr.add; split <;> simp_all
theorem below_setRow {w w' : World} {n g : Nat} {cs : Array Value} (h : Below n w w') (hg : n ≤ g) : Below n w (w'.setRow g cs) :=
  h.trans ⟨rfl, rfl, rfl, by simp [World.setRow], fun k hk => setRow_other _ _ _ _ (by omega)⟩
variable {w w' : World} {g : Nat}
structure Ltr where
  frm : Int
  dst : Int
  bo : Option Addr
  bn : Nat
  bc : Nat
def t0 : Ltr := ⟨0, 0, none, 0, 0⟩
def TC (m : Ltr) : Array Value := #[.int .i64 m.frm, .int .i64 m.dst, .slice m.bo m.bn m.bc]
abbrev TV (m : Ltr) : Value := .agg (TC m)
theorem TC_size (m : Ltr) : (TC m).size = 3 := rfl
theorem TC_one (m : Ltr) : ∀ v ∈ (TC m).toList, v.oneCell' = true := by
  intro v hv; simp [TC] at hv; rcases hv with rfl | rfl | rfl <;> rfl
theorem cells_TV (m : Ltr) : (TV m).cells = TC m := by simp [Value.cells]
structure TAt (w : World) (a : Addr) (m : Ltr) : Prop where
  c0 : w.cell? a = some (.int .i64 m.frm)
  c1 : w.cell? (a.add 1) = some (.int .i64 m.dst)
  c2 : w.cell? (a.add 2) = some (.slice m.bo m.bn m.bc)
theorem TAt.on {a : Addr} {m : Ltr} (S : TAt w a m) (hb : Below w.heap.size w w') : TAt w' a m := by
  have h0 := World.block_lt_of_cell? _ _ S.c0
  exact ⟨by rw [hb.cell h0]; exact S.c0, by rw [hb.cell (by rw [block_of_add]; exact h0)]; exact S.c1, by rw [hb.cell (by rw [block_of_add]; exact h0)]; exact S.c2⟩
def TBox (w : World) (g : Nat) (m : Ltr) : Prop := w.heap[g]? = some (.cells (TC m) 40 (0, 0))
theorem TBox.lt {m : Ltr} (h : TBox w g m) : g < w.heap.size := (Array.getElem?_eq_some_iff.1 h).1
theorem TBox.below {m : Ltr} (h : TBox w g m) (hb : Below w.heap.size w w') : TBox w' g m := (hb.block g h.lt).trans h
theorem TBox.c0 {m : Ltr} (h : TBox w g m) : w.cell? ⟨g, 0, none⟩ = some (.int .i64 m.frm) := by unfold TBox at h; simp [World.cell?, h, TC]
theorem TBox.c1 {m : Ltr} (h : TBox w g m) : w.cell? ⟨g, 1, none⟩ = some (.int .i64 m.dst) := by unfold TBox at h; simp [World.cell?, h, TC]
theorem TBox.c2 {m : Ltr} (h : TBox w g m) : w.cell? ⟨g, 2, none⟩ = some (.slice m.bo m.bn m.bc) := by unfold TBox at h; simp [World.cell?, h, TC]
theorem TBox_new (w : World) (m : Ltr) : TBox (w.alloc (.cells (TC m) 40)) w.heap.size m := by unfold TBox; rw [heap_alloc_new]
def ldT (v : Value) : Sem Value := Instr.loadAt 40 v
theorem ldT_eq (v : Value) : Instr.loadAt 40 v = ldT v := rfl
def stT (p v : Value) : Sem Unit := Instr.storeAt 40 p v
theorem stT_eq (p v : Value) : Instr.storeAt 40 p v = stT p v := rfl
theorem sizeT : (Try.prog.info? 40).map (·.size) = some 3 := by kernel_rfl
theorem TBox.range {m : Ltr} (h : TBox w g m) : w.rangeAt g 0 (TC m).toList := by
  intro j v hv
  rw [Nat.zero_add]
  unfold TBox at h
  simp only [Array.getElem?_toList] at hv
  simp [World.cell?, h, hv]
theorem run_lvT {m : Ltr} (A : TBox w g m) : (loadVar 40 ⟨g, 0, none⟩).run Try.prog w = .ok (TV m) w := by
  have := run_loadVar_mid (P := Try.prog) w g 0 40 (TC m).toList _ A.range Try.underlying40 rfl (by rw [sizeT]; rfl)
  simpa using this
theorem run_ldT {m : Ltr} (A : TBox w g m) : (ldT (.pointer (some ⟨g, 0, none⟩))).run Try.prog w = .ok (.agg (TC m)) w := by
  unfold ldT
  simp only [Instr.loadAt, Instr.sureAddr, Sem.run_bind, Sem.run_pure, Result.andThen]
  exact run_lvT A
theorem run_laT {a : Addr} {m : Ltr} (A : TAt w a m) : (ldT (.pointer (some a))).run Try.prog w = .ok (.agg (TC m)) w := by
  have hl := run_loadCells_list (P := Try.prog) (w := w) a (TC m).toList (fun j v hv => by
    match j, hv with
    | 0, hv => cases hv; rw [add_nought]; exact A.c0
    | 1, hv => cases hv; exact A.c1
    | 2, hv => cases hv; exact A.c2
    | j + 3, hv => simp [TC] at hv)
  unfold ldT
  simp only [Instr.loadAt, Instr.sureAddr, Sem.run_bind, Sem.run_pure, Result.andThen]
  cases hq : Try.prog.info? 40 with
  | none => have := sizeT; simp [hq] at this
  | some x =>
    have hs : x.size = 3 := by have := sizeT; simpa [hq] using this
    have hagg : (isAgg 40).run Try.prog w = .ok true w := by
      unfold isAgg
      rw [Sem.run_bind, run_underlying Try.underlying40 w]
      rfl
    have e2 : (TC m).toList.length = 3 := rfl
    rw [e2] at hl
    simp [loadVar, Sem.run_bind, hagg, sizeOf, typeInfo, hq, hs, hl]
theorem run_stT {m m' : Ltr} (A : TBox w g m) : (stT (.pointer (some ⟨g, 0, none⟩)) (.agg (TC m'))).run Try.prog w = .ok () (w.setRow g (TC m')) := by
  unfold stT
  have h := run_storeCells_from (P := Try.prog) g 40 (TC m').toList 0 (TC m) w A (by simp [TC]) (TC_one m')
  cases hq : Try.prog.info? 40 with
  | none => have := sizeT; simp [hq] at this
  | some x =>
    have hs : x.size = 3 := by have := sizeT; simpa [hq] using this
    simp only [Instr.storeAt, Instr.sureAddr, Sem.run_bind, Sem.run_pure, Result.andThen, storeVar, sizeOf, typeInfo, cells_TV, TC_size]
    simp at h
    simp [h, hq, hs]
theorem TBox.setRow {m m' : Ltr} (A : TBox w g m) : TBox (w.setRow g (TC m')) g m' := setRow_heap w g _ _ _ _ A
theorem madeT (w : World) (m : Ltr) (g : Nat) (hg : w.heap.size = g) : ∃ w' : World, (stT (.pointer (some ⟨g, 0, none⟩)) (.agg (TC m))).run Try.prog (w.alloc (.cells (TC t0) 40)) = .ok () w' ∧ TBox w' g m ∧ Below w.heap.size w w' ∧ w'.heap.size = w.heap.size + 1 := by
  subst hg
  refine ⟨_, run_stT (TBox_new w _), (TBox_new w _).setRow, below_setRow (below_new w _) (Nat.le_refl _), by simp [World.setRow]⟩
theorem res1T {m : Ltr} {fn : Func} {p : Tmp} (h : fn.results = #[.cell p 40]) {tmps : Array Value} (hp : tmps.getD p undef = .pointer (some ⟨g, 0, none⟩)) (A : TBox w g m) :
    (results fn tmps).run Try.prog w = .ok (TV m) w := by
  have hl := run_lvT A
  simp only [results, h]
  rw [Array.getD_eq_getD_getElem?] at hp
  simp [hp, asAddr, hl]
end Go.Proofs.Ythagachlilnjpaa
