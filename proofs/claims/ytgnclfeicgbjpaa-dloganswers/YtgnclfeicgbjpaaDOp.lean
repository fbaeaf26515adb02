/- The steps of a script in memory. -/
import Derived.Test.YtgnclfeicgbjpaaDFx
namespace Go.Proofs.Ytgnclfeicgbjpaa
open Go.RowKit

structure Dp where
  kind : Int
  second : Bool
  n : Int
  x : Int
def dp0 : Dp := ⟨0, false, 0, 0⟩
instance : Inhabited Dp := ⟨dp0⟩
def DC (o : Dp) : Array Value := #[.int .i64 o.kind, .bool o.second, .int .i64 o.n, .int .i64 o.x]
abbrev DV (o : Dp) : Value := .agg (DC o)
theorem DC_size (o : Dp) : (DC o).size = 4 := rfl
theorem DC_one (o : Dp) : ∀ v ∈ (DC o).toList, v.oneCell' = true := by
  intro v hv; simp [DC] at hv; rcases hv with rfl | rfl | rfl | rfl <;> rfl
theorem cells_DV (o : Dp) : (DV o).cells = DC o := by simp [Value.cells]
theorem zero_DC : (#[.int .i64 0, .bool false, .int .i64 0, .int .i64 0] : Array Value) = DC dp0 := rfl
theorem add_zero (p : Addr) : p.add 0 = p := by unfold Addr.add; split <;> simp_all
theorem block_add (p : Addr) (m : Nat) : (p.add m).block = p.block := by unfold Addr.add; split <;> rfl
structure DpAt (w : World) (p : Addr) (o : Dp) : Prop where
  c0 : w.cell? p = some (.int .i64 o.kind)
  c1 : w.cell? (p.add 1) = some (.bool o.second)
  c2 : w.cell? (p.add 2) = some (.int .i64 o.n)
  c3 : w.cell? (p.add 3) = some (.int .i64 o.x)
theorem DpAt.on {w w' : World} {p : Addr} {r : Dp} (S : DpAt w p r) (hb : Below w.heap.size w w') : DpAt w' p r := by
  have h0 := World.block_lt_of_cell? _ _ S.c0
  exact ⟨by rw [hb.cell h0]; exact S.c0, by rw [hb.cell (by rw [block_add]; exact h0)]; exact S.c1, by rw [hb.cell (by rw [block_add]; exact h0)]; exact S.c2, by rw [hb.cell (by rw [block_add]; exact h0)]; exact S.c3⟩
def DBox (w : World) (g : Nat) (r : Dp) : Prop := w.heap[g]? = some (.cells (DC r) 31 (0, 0))
theorem DBox.lt {w : World} {g : Nat} {r : Dp} (h : DBox w g r) : g < w.heap.size := (Array.getElem?_eq_some_iff.1 h).1
theorem DBox.at {w : World} {g : Nat} {r : Dp} (h : DBox w g r) : DpAt w ⟨g, 0, none⟩ r := by
  unfold DBox at h
  refine ⟨?_, ?_, ?_, ?_⟩ <;> simp [Addr.add, World.cell?, h, DC]
theorem dbox_new (w : World) (r : Dp) : DBox (w.alloc (.cells (DC r) 31)) w.heap.size r := by unfold DBox; rw [heap_alloc_new]
def ldO (v : Value) : Sem Value := Instr.loadAt 31 v
theorem ldO_eq (v : Value) : Instr.loadAt 31 v = ldO v := rfl
def stO (p v : Value) : Sem Unit := Instr.storeAt 31 p v
theorem stO_eq (p v : Value) : Instr.storeAt 31 p v = stO p v := rfl
theorem sizeO : (Try.prog.info? 31).map (·.size) = some 4 := by kernel_rfl
theorem run_ldO {w : World} {p : Addr} {r : Dp} (A : DpAt w p r) : (ldO (.pointer (some p))).run Try.prog w = .ok (DV r) w := by
  have hl := run_loadCells_list (P := Try.prog) (w := w) p (DC r).toList (fun j v hv => by
    match j, hv with
    | 0, hv => cases hv; rw [add_zero]; exact A.c0
    | 1, hv => cases hv; exact A.c1
    | 2, hv => cases hv; exact A.c2
    | 3, hv => cases hv; exact A.c3
    | j + 4, hv => simp [DC] at hv)
  unfold ldO
  simp only [Instr.loadAt, Instr.sureAddr, Sem.run_bind, Sem.run_pure, Result.andThen]
  cases hq : Try.prog.info? 31 with
  | none => have := sizeO; simp [hq] at this
  | some x =>
    have hs : x.size = 4 := by have := sizeO; simpa [hq] using this
    have hagg : (isAgg 31).run Try.prog w = .ok true w := by
      unfold isAgg
      rw [Sem.run_bind, run_underlying Try.underlying31 w]
      rfl
    have e2 : (DC r).toList.length = 4 := rfl
    rw [e2] at hl
    simp [loadVar, Sem.run_bind, hagg, sizeOf, typeInfo, hq, hs, hl, DV]
theorem run_stO {w : World} {g : Nat} {r r' : Dp} (A : DBox w g r) : (stO (.pointer (some ⟨g, 0, none⟩)) (DV r')).run Try.prog w = .ok () (w.setRow g (DC r')) := by
  unfold stO
  have h := run_storeCells_from (P := Try.prog) g 31 (DC r').toList 0 (DC r) w A (by simp [DC]) (DC_one r')
  cases hq : Try.prog.info? 31 with
  | none => have := sizeO; simp [hq] at this
  | some x =>
    have hs : x.size = 4 := by have := sizeO; simpa [hq] using this
    simp only [Instr.storeAt, Instr.sureAddr, Sem.run_bind, Sem.run_pure, Result.andThen, storeVar, sizeOf, typeInfo, cells_DV, DC_size]
    simp at h
    simp [h, hq, hs]
theorem below_setRow {w w' : World} {n g : Nat} {cs : Array Value} (h : Below n w w') (hg : n ≤ g) : Below n w (w'.setRow g cs) :=
  h.trans ⟨rfl, rfl, rfl, by simp [World.setRow], fun k hk => setRow_other _ _ _ _ (by omega)⟩
theorem madeO (w : World) (r : Dp) (g : Nat) (hg : w.heap.size = g) : ∃ w' : World, (stO (.pointer (some ⟨g, 0, none⟩)) (DV r)).run Try.prog (w.alloc (.cells (DC dp0) 31)) = .ok () w' ∧ DBox w' g r ∧ Below w.heap.size w w' ∧ w'.heap.size = w.heap.size + 1 := by
  subst hg
  refine ⟨_, run_stO (dbox_new w dp0), setRow_heap _ _ _ _ _ _ (dbox_new w dp0), below_setRow (below_new w _) (Nat.le_refl _), by simp [World.setRow]⟩
/-- a script -/
structure DSrc (w : World) (ao : Option Addr) (m c : Nat) (L : List Dp) : Prop where
  len : L.length = m
  nil : ao = none → m = 0 ∧ c = 0
  cell : ∀ ad, ao = some ad → ∀ t, t < m → DpAt w (ad.add (t * 4)) (L.getD t dp0)
  big : m ≤ 4398046511104
theorem DSrc.below {w w' : World} {ao : Option Addr} {m c : Nat} {L : List Dp} (h : DSrc w ao m c L) (hb : Below w.heap.size w w') : DSrc w' ao m c L :=
  ⟨h.len, h.nil, fun ad ha t ht => (h.cell ad ha t ht).on hb, h.big⟩
theorem DSrc.at {w : World} {ao : Option Addr} {m c : Nat} {L : List Dp} (h : DSrc w ao m c L) (k : Nat) (hk : k < m) : ∃ ad, ao = some ad ∧ DpAt w (ad.add (k * 4)) (L.getD k dp0) := by
  cases ao with
  | none => have := h.nil rfl; omega
  | some ad => exact ⟨ad, rfl, h.cell ad rfl k hk⟩
end Go.Proofs.Ytgnclfeicgbjpaa
