/- Structs in memory (genstruct.py). -/
import Derived.Test.YtpnnlfhknnnfhaaGreatDoorJKb
import Derived.Deep.MidRow
import Derived.Laws.CopyOwn
import Derived.Lib.OthersKept
namespace Go.Proofs.YtpnnlfhknnnfhaaGreatDoor
open Go.RowKit
theorem add_nought (p : Addr) : p.add 0 = p := by unfold Addr.add; split <;> simp_all
theorem below_setRow {w w' : World} {n g : Nat} {cs : Array Value} (h : Below n w w') (hg : n ≤ g) : Below n w (w'.setRow g cs) :=
  h.trans ⟨rfl, rfl, rfl, by simp [World.setRow], fun k hk => setRow_other _ _ _ _ (by omega)⟩
variable {w w' : World} {g : Nat}
structure Sp where
  kind : Int
  rep : Int
  cart : Int
  dst : Int
  sku : ByteArray
  qty : Int
  nr : Int
def sp0 : Sp := ⟨0, 0, 0, 0, ⟨#[]⟩, 0, 0⟩
def OC (m : Sp) : Array Value := #[.int .i64 m.kind, .int .i64 m.rep, .int .i64 m.cart, .int .i64 m.dst, .string m.sku, .int .i64 m.qty, .int .i64 m.nr]
abbrev OV (m : Sp) : Value := .agg (OC m)
theorem OC_size (m : Sp) : (OC m).size = 7 := rfl
theorem OC_one (m : Sp) : ∀ v ∈ (OC m).toList, v.oneCell' = true := by
  intro v hv; simp [OC] at hv; rcases hv with rfl | rfl | rfl | rfl | rfl | rfl | rfl <;> rfl
theorem cells_OV (m : Sp) : (OV m).cells = OC m := by simp [Value.cells]
structure OAt (w : World) (a : Addr) (m : Sp) : Prop where
  c0 : w.cell? a = some (.int .i64 m.kind)
  c1 : w.cell? (a.add 1) = some (.int .i64 m.rep)
  c2 : w.cell? (a.add 2) = some (.int .i64 m.cart)
  c3 : w.cell? (a.add 3) = some (.int .i64 m.dst)
  c4 : w.cell? (a.add 4) = some (.string m.sku)
  c5 : w.cell? (a.add 5) = some (.int .i64 m.qty)
  c6 : w.cell? (a.add 6) = some (.int .i64 m.nr)
theorem OAt.on {a : Addr} {m : Sp} (S : OAt w a m) (hb : Below w.heap.size w w') : OAt w' a m := by
  have h0 := World.block_lt_of_cell? _ _ S.c0
  exact ⟨by rw [hb.cell h0]; exact S.c0, by rw [hb.cell (by rw [block_of_add]; exact h0)]; exact S.c1, by rw [hb.cell (by rw [block_of_add]; exact h0)]; exact S.c2, by rw [hb.cell (by rw [block_of_add]; exact h0)]; exact S.c3, by rw [hb.cell (by rw [block_of_add]; exact h0)]; exact S.c4, by rw [hb.cell (by rw [block_of_add]; exact h0)]; exact S.c5, by rw [hb.cell (by rw [block_of_add]; exact h0)]; exact S.c6⟩
def OBox (w : World) (g : Nat) (m : Sp) : Prop := w.heap[g]? = some (.cells (OC m) 24 (0, 0))
theorem OBox.lt {m : Sp} (h : OBox w g m) : g < w.heap.size := (Array.getElem?_eq_some_iff.1 h).1
theorem OBox.below {m : Sp} (h : OBox w g m) (hb : Below w.heap.size w w') : OBox w' g m := (hb.block g h.lt).trans h
theorem OBox.c0 {m : Sp} (h : OBox w g m) : w.cell? ⟨g, 0, none⟩ = some (.int .i64 m.kind) := by unfold OBox at h; simp [World.cell?, h, OC]
theorem OBox.c1 {m : Sp} (h : OBox w g m) : w.cell? ⟨g, 1, none⟩ = some (.int .i64 m.rep) := by unfold OBox at h; simp [World.cell?, h, OC]
theorem OBox.c2 {m : Sp} (h : OBox w g m) : w.cell? ⟨g, 2, none⟩ = some (.int .i64 m.cart) := by unfold OBox at h; simp [World.cell?, h, OC]
theorem OBox.c3 {m : Sp} (h : OBox w g m) : w.cell? ⟨g, 3, none⟩ = some (.int .i64 m.dst) := by unfold OBox at h; simp [World.cell?, h, OC]
theorem OBox.c4 {m : Sp} (h : OBox w g m) : w.cell? ⟨g, 4, none⟩ = some (.string m.sku) := by unfold OBox at h; simp [World.cell?, h, OC]
theorem OBox.c5 {m : Sp} (h : OBox w g m) : w.cell? ⟨g, 5, none⟩ = some (.int .i64 m.qty) := by unfold OBox at h; simp [World.cell?, h, OC]
theorem OBox.c6 {m : Sp} (h : OBox w g m) : w.cell? ⟨g, 6, none⟩ = some (.int .i64 m.nr) := by unfold OBox at h; simp [World.cell?, h, OC]
theorem OBox_new (w : World) (m : Sp) : OBox (w.alloc (.cells (OC m) 24)) w.heap.size m := by unfold OBox; rw [heap_alloc_new]
def ldO (v : Value) : Sem Value := Instr.loadAt 24 v
theorem ldO_eq (v : Value) : Instr.loadAt 24 v = ldO v := rfl
def stO (p v : Value) : Sem Unit := Instr.storeAt 24 p v
theorem stO_eq (p v : Value) : Instr.storeAt 24 p v = stO p v := rfl
theorem sizeO : (Tryz.prog.info? 24).map (·.size) = some 7 := by kernel_rfl
theorem OBox.range {m : Sp} (h : OBox w g m) : w.rangeAt g 0 (OC m).toList := by
  intro j v hv
  rw [Nat.zero_add]
  unfold OBox at h
  simp only [Array.getElem?_toList] at hv
  simp [World.cell?, h, hv]
theorem run_lvO {m : Sp} (A : OBox w g m) : (loadVar 24 ⟨g, 0, none⟩).run Tryz.prog w = .ok (OV m) w := by
  have := run_loadVar_mid (P := Tryz.prog) w g 0 24 (OC m).toList _ A.range Tryz.underlying24 rfl (by rw [sizeO]; rfl)
  simpa using this
theorem run_ldO {m : Sp} (A : OBox w g m) : (ldO (.pointer (some ⟨g, 0, none⟩))).run Tryz.prog w = .ok (.agg (OC m)) w := by
  unfold ldO
  simp only [Instr.loadAt, Instr.sureAddr, Sem.run_bind, Sem.run_pure, Result.andThen]
  exact run_lvO A
theorem run_laO {a : Addr} {m : Sp} (A : OAt w a m) : (ldO (.pointer (some a))).run Tryz.prog w = .ok (.agg (OC m)) w := by
  have hl := run_loadCells_list (P := Tryz.prog) (w := w) a (OC m).toList (fun j v hv => by
    match j, hv with
    | 0, hv => cases hv; rw [add_nought]; exact A.c0
    | 1, hv => cases hv; exact A.c1
    | 2, hv => cases hv; exact A.c2
    | 3, hv => cases hv; exact A.c3
    | 4, hv => cases hv; exact A.c4
    | 5, hv => cases hv; exact A.c5
    | 6, hv => cases hv; exact A.c6
    | j + 7, hv => simp [OC] at hv)
  unfold ldO
  simp only [Instr.loadAt, Instr.sureAddr, Sem.run_bind, Sem.run_pure, Result.andThen]
  cases hq : Tryz.prog.info? 24 with
  | none => have := sizeO; simp [hq] at this
  | some x =>
    have hs : x.size = 7 := by have := sizeO; simpa [hq] using this
    have hagg : (isAgg 24).run Tryz.prog w = .ok true w := by
      unfold isAgg
      rw [Sem.run_bind, run_underlying Tryz.underlying24 w]
      rfl
    have e2 : (OC m).toList.length = 7 := rfl
    rw [e2] at hl
    simp [loadVar, Sem.run_bind, hagg, sizeOf, typeInfo, hq, hs, hl]
theorem run_stO {m m' : Sp} (A : OBox w g m) : (stO (.pointer (some ⟨g, 0, none⟩)) (.agg (OC m'))).run Tryz.prog w = .ok () (w.setRow g (OC m')) := by
  unfold stO
  have h := run_storeCells_from (P := Tryz.prog) g 24 (OC m').toList 0 (OC m) w A (by simp [OC]) (OC_one m')
  cases hq : Tryz.prog.info? 24 with
  | none => have := sizeO; simp [hq] at this
  | some x =>
    have hs : x.size = 7 := by have := sizeO; simpa [hq] using this
    simp only [Instr.storeAt, Instr.sureAddr, Sem.run_bind, Sem.run_pure, Result.andThen, storeVar, sizeOf, typeInfo, cells_OV, OC_size]
    simp at h
    simp [h, hq, hs]
theorem OBox.setRow {m m' : Sp} (A : OBox w g m) : OBox (w.setRow g (OC m')) g m' := setRow_heap w g _ _ _ _ A
theorem madeO (w : World) (m : Sp) (g : Nat) (hg : w.heap.size = g) : ∃ w' : World, (stO (.pointer (some ⟨g, 0, none⟩)) (.agg (OC m))).run Tryz.prog (w.alloc (.cells (OC sp0) 24)) = .ok () w' ∧ OBox w' g m ∧ Below w.heap.size w w' ∧ w'.heap.size = w.heap.size + 1 := by
  subst hg
  refine ⟨_, run_stO (OBox_new w _), (OBox_new w _).setRow, below_setRow (below_new w _) (Nat.le_refl _), by simp [World.setRow]⟩
theorem res1O {m : Sp} {fn : Func} {p : Tmp} (h : fn.results = #[.cell p 24]) {tmps : Array Value} (hp : tmps.getD p undef = .pointer (some ⟨g, 0, none⟩)) (A : OBox w g m) :
    (results fn tmps).run Tryz.prog w = .ok (OV m) w := by
  have hl := run_lvO A
  simp only [results, h]
  rw [Array.getD_eq_getD_getElem?] at hp
  simp [hp, asAddr, hl]
end Go.Proofs.YtpnnlfhknnnfhaaGreatDoor
