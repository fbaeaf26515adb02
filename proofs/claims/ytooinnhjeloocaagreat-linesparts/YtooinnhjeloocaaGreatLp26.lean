/- LRow -/
import Derived.Test.YtooinnhjeloocaaGreatLp25
import Derived.Laws.Cells
import Derived.Laws.Tables
import Derived.Laws.CopyOwn
namespace Go.Proofs.YtooinnhjeloocaaGreat.K
open Go.RowKit

/-- an entry's cells -/
def EC (e : En) : Array Value := #[.int .i64 e.rep, .int .i64 e.num, .string e.sku, .int .i64 e.qty]
abbrev EV (e : En) : Value := .agg (EC e)
theorem EC_size (e : En) : (EC e).size = 4 := rfl
theorem EC_one (e : En) : ∀ v ∈ (EC e).toList, v.oneCell' = true := by
  intro v hv; simp [EC] at hv; rcases hv with rfl | rfl | rfl | rfl <;> rfl
theorem cells_EV (e : En) : (EV e).cells = EC e := by simp [Value.cells]
/-- no entry -/
def en0 : En := ⟨0, 0, ⟨#[]⟩, 0⟩
theorem zero_EC : (#[.int .i64 0, .int .i64 0, .string ⟨#[]⟩, .int .i64 0] : Array Value) = EC en0 := rfl
/-- from the place p on there lies the entry -/
structure EnAt (w : World) (p : Addr) (e : En) : Prop where
  c0 : w.cell? p = some (.int .i64 e.rep)
  c1 : w.cell? (p.add 1) = some (.int .i64 e.num)
  c2 : w.cell? (p.add 2) = some (.string e.sku)
  c3 : w.cell? (p.add 3) = some (.int .i64 e.qty)
theorem add_zero (p : Addr) : p.add 0 = p := by unfold Addr.add; split <;> simp_all
theorem block_add (p : Addr) (m : Nat) : (p.add m).block = p.block := by unfold Addr.add; split <;> rfl
theorem EnAt.on {w w' : World} {p : Addr} {e : En} (S : EnAt w p e) (hb : Below w.heap.size w w') : EnAt w' p e := by
  have h0 := World.block_lt_of_cell? _ _ S.c0
  exact ⟨by rw [hb.cell h0]; exact S.c0, by rw [hb.cell (by rw [block_add]; exact h0)]; exact S.c1, by rw [hb.cell (by rw [block_add]; exact h0)]; exact S.c2, by rw [hb.cell (by rw [block_add]; exact h0)]; exact S.c3⟩
/-- the block g is a variable that holds the entry -/
def Box (w : World) (g : Nat) (T : TypeId) (e : En) : Prop := w.heap[g]? = some (.cells (EC e) T (0, 0))
theorem Box.lt {w : World} {g : Nat} {T : TypeId} {e : En} (h : Box w g T e) : g < w.heap.size := (Array.getElem?_eq_some_iff.1 h).1
theorem Box.at {w : World} {g : Nat} {T : TypeId} {e : En} (h : Box w g T e) : EnAt w ⟨g, 0, none⟩ e := by
  unfold Box at h
  refine ⟨?_, ?_, ?_, ?_⟩ <;> simp [Addr.add, World.cell?, h, EC]
theorem Box.below {w w' : World} {g : Nat} {T : TypeId} {e : En} (h : Box w g T e) (hb : Below w.heap.size w w') : Box w' g T e := (hb.block g h.lt).trans h
theorem box_new (w : World) (T : TypeId) (e : En) : Box (w.alloc (.cells (EC e) T)) w.heap.size T e := by unfold Box; rw [heap_alloc_new]

def ld28 (v : Value) : Sem Value := Instr.loadAt 36 v
theorem ld28_eq (v : Value) : Instr.loadAt 36 v = ld28 v := rfl
def st28 (p v : Value) : Sem Unit := Instr.storeAt 36 p v
theorem st28_eq (p v : Value) : Instr.storeAt 36 p v = st28 p v := rfl
theorem size28 : (Tryz.prog.info? 36).map (·.size) = some 4 := by kernel_rfl
theorem run_lv28 {w : World} {p : Addr} {e : En} (A : EnAt w p e) : (loadVar 36 p).run Tryz.prog w = .ok (EV e) w := by
  have hl := run_loadCells_list (P := Tryz.prog) (w := w) p (EC e).toList (fun j v hv => by
    match j, hv with
    | 0, hv => cases hv; rw [add_zero]; exact A.c0
    | 1, hv => cases hv; exact A.c1
    | 2, hv => cases hv; exact A.c2
    | 3, hv => cases hv; exact A.c3
    | j + 4, hv => simp [EC] at hv)
  cases hq : Tryz.prog.info? 36 with
  | none => have := size28; simp [hq] at this
  | some x =>
    have hs : x.size = 4 := by have := size28; simpa [hq] using this
    have hagg : (isAgg 36).run Tryz.prog w = .ok true w := by
      unfold isAgg
      rw [Sem.run_bind, run_underlying Tryz.underlying36 w]
      rfl
    have e4 : (EC e).toList.length = 4 := rfl
    rw [e4] at hl
    simp [loadVar, Sem.run_bind, hagg, sizeOf, typeInfo, hq, hs, hl, EV]
theorem run_ld28 {w : World} {p : Addr} {e : En} (A : EnAt w p e) : (ld28 (.pointer (some p))).run Tryz.prog w = .ok (EV e) w := by
  unfold ld28
  simp only [Instr.loadAt, Instr.sureAddr, Sem.run_bind, Sem.run_pure, Result.andThen]
  exact run_lv28 A
theorem run_st28 {w : World} {g : Nat} {T : TypeId} {e e' : En} (A : Box w g T e) :
    (st28 (.pointer (some ⟨g, 0, none⟩)) (EV e')).run Tryz.prog w = .ok () (w.setRow g (EC e')) := by
  unfold st28
  have h := run_storeCells_from (P := Tryz.prog) g T (EC e').toList 0 (EC e) w A (by simp [EC]) (EC_one e')
  cases hq : Tryz.prog.info? 36 with
  | none => have := size28; simp [hq] at this
  | some x =>
    have hs : x.size = 4 := by have := size28; simpa [hq] using this
    simp only [Instr.storeAt, Instr.sureAddr, Sem.run_bind, Sem.run_pure, Result.andThen, storeVar, sizeOf, typeInfo, cells_EV, EC_size]
    simp at h
    simp [h, hq, hs]
theorem Box.setRow {w : World} {g : Nat} {T : TypeId} {e e' : En} (A : Box w g T e) : Box (w.setRow g (EC e')) g T e' := setRow_heap w g _ _ _ _ A
theorem below_setRow {w w' : World} {n g : Nat} {cs : Array Value} (h : Below n w w') (hg : n ≤ g) : Below n w (w'.setRow g cs) :=
  h.trans ⟨rfl, rfl, rfl, by simp [World.setRow], fun k hk => setRow_other _ _ _ _ (by omega)⟩
/-- a variable made and filled -/
theorem made (w : World) (e : En) (g : Nat) (hg : w.heap.size = g) : ∃ w' : World, (st28 (.pointer (some ⟨g, 0, none⟩)) (EV e)).run Tryz.prog (w.alloc (.cells (EC en0) 36)) = .ok () w' ∧ Box w' g 36 e ∧ Below w.heap.size w w' ∧ w'.heap.size = w.heap.size + 1 := by
  subst hg
  refine ⟨_, run_st28 (box_new w 36 en0), (box_new w 36 en0).setRow, below_setRow (below_new w _) (Nat.le_refl _), by simp [World.setRow]⟩

/-- a row of entries -/
def ESrc (w : World) (ao : Option Addr) (m c : Nat) (L : List En) : Prop :=
  L.length = m ∧ (ao = none → m = 0 ∧ c = 0) ∧ (∀ ad, ao = some ad → ∀ t, t < m → EnAt w (ad.add (t * 4)) (L.getD t en0)) ∧ (∀ e ∈ L, e.sku.size ≤ maxLen) ∧ m ≤ 3518437208883
theorem ESrc.below {w w' : World} {ao : Option Addr} {m c : Nat} {L : List En} (h : ESrc w ao m c L) (hb : Below w.heap.size w w') : ESrc w' ao m c L :=
  ⟨h.1, h.2.1, fun ad ha t ht => (h.2.2.1 ad ha t ht).on hb, h.2.2.2⟩
theorem ESrc.at {w : World} {ao : Option Addr} {m c : Nat} {L : List En} (h : ESrc w ao m c L) (k : Nat) (hk : k < m) : ∃ ad, ao = some ad ∧ EnAt w (ad.add (k * 4)) (L.getD k en0) := by
  cases ao with
  | none => have := h.2.1 rfl; omega
  | some ad => exact ⟨ad, rfl, h.2.2.1 ad rfl k hk⟩
theorem ESrc.sku {w : World} {ao : Option Addr} {m c : Nat} {L : List En} (h : ESrc w ao m c L) (k : Nat) (hk : k < m) : (L.getD k en0).sku.size ≤ maxLen := by
  have : L.getD k en0 = L[k]'(by rw [h.1]; exact hk) := by simp [List.getD, h.1, hk]
  rw [this]
  exact h.2.2.2.1 _ (List.getElem_mem _)
theorem ESrc.none (w : World) : ESrc w none 0 0 [] := ⟨rfl, fun _ => ⟨rfl, rfl⟩, (fun ad h => by cases h), (fun e he => by cases he), by omega⟩
theorem checkEntry_ec (e : En) (w : World) (hs : e.sku.size ≤ maxLen) : Calls Tryz.prog 19 #[EV e] w fun x w' => x = .returned (.int .i64 (ceE e)) ∧ Below w.heap.size w w' := checkEntry_any e w hs
theorem refCheckEntry_ec (e : En) (w : World) (hs : e.sku.size ≤ maxLen) : Calls Tryz.prog 46 #[EV e] w fun x w' => x = .returned (.int .i64 (ceE e)) ∧ Below w.heap.size w w' := refCheckEntry_any e w hs
theorem byDot_ec (x y : En) (w : World) : Calls Tryz.prog 20 #[EV x, EV y] w fun e w' => e = .returned (.int .i64 (byD x y)) ∧ Below w.heap.size w w' := byDot_any x y w
end Go.Proofs.YtooinnhjeloocaaGreat.K
