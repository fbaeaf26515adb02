/- Pairs of tables in memory; Reset. -/
import Derived.Test.YtikpjlbchnpmmaaAPn
namespace Go.Proofs.Ytikpjlbchnpmmaa
open Go.RowKit
variable {w w' : World} {g : Nat} {r s : Int} {f : Nat → Int}

/-- a pair's cells -/
structure Pr where
  pv : Option Addr
  reps : Int
  self : Int
  bo : Option Addr
  bn : Nat
  bc : Nat
def pr0 : Pr := ⟨none, 0, 0, none, 0, 0⟩
def RL (p : Pr) : List Value := [.pointer p.pv, .int .i64 p.reps, .int .i64 p.self, .slice p.bo p.bn p.bc]
def PC (p : Nat → Pr) : Array Value := (RL (p 0) ++ (RL (p 1) ++ (RL (p 2) ++ RL (p 3)))).toArray
abbrev PV (p : Nat → Pr) : Value := .agg (PC p)
theorem PC_size (p : Nat → Pr) : (PC p).size = 16 := rfl
theorem cells_PV (p : Nat → Pr) : (PV p).cells = PC p := by simp [Value.cells]
theorem zero_PC : (#[.pointer none, .int .i64 0, .int .i64 0, .slice none 0 0, .pointer none, .int .i64 0, .int .i64 0, .slice none 0 0, .pointer none, .int .i64 0, .int .i64 0, .slice none 0 0, .pointer none, .int .i64 0, .int .i64 0, .slice none 0 0] : Array Value) = PC (fun _ => pr0) := rfl
theorem PC_one (p : Nat → Pr) : ∀ v ∈ (PC p).toList, v.oneCell' = true := by
  intro v hv
  simp [PC, RL] at hv
  rcases hv with rfl | rfl | rfl | rfl | rfl | rfl | rfl | rfl | rfl | rfl | rfl | rfl | rfl | rfl | rfl | rfl <;> rfl
theorem PC_at (p : Nat → Pr) (k j : Nat) (hk : k < 4) (hj : j < 4) : (PC p)[k * 4 + j]? = (RL (p k))[j]? := by
  match k, hk, j, hj with
  | 0, _, 0, _ | 0, _, 1, _ | 0, _, 2, _ | 0, _, 3, _ | 1, _, 0, _ | 1, _, 1, _ | 1, _, 2, _ | 1, _, 3, _ | 2, _, 0, _ | 2, _, 1, _ | 2, _, 2, _ | 2, _, 3, _ | 3, _, 0, _ | 3, _, 1, _ | 3, _, 2, _ | 3, _, 3, _ => rfl
def pset (p : Nat → Pr) (k : Nat) (q : Pr) : Nat → Pr := fun t => if t = k then q else p t
theorem PC_congr {p q : Nat → Pr} (h : ∀ k, k < 4 → p k = q k) : PC p = PC q := by
  unfold PC; rw [h 0 (by omega), h 1 (by omega), h 2 (by omega), h 3 (by omega)]
def PBox (w : World) (g : Nat) (p : Nat → Pr) : Prop := w.heap[g]? = some (.cells (PC p) 29 (0, 0))
variable {p : Nat → Pr}
theorem PBox.lt (h : PBox w g p) : g < w.heap.size := (Array.getElem?_eq_some_iff.1 h).1
theorem PBox.below (h : PBox w g p) (hb : Below w.heap.size w w') : PBox w' g p := (hb.block g h.lt).trans h
theorem PBox.on {g' : Nat} (h : PBox w g p) (k : Fr w w' g') (hne : g ≠ g') : PBox w' g p := (k.block g hne).trans h
theorem PBox.congr {q : Nat → Pr} (h : PBox w g p) (e : ∀ k, k < 4 → p k = q k) : PBox w g q := by unfold PBox at h ⊢; rw [← PC_congr e]; exact h
theorem PBox.cell (h : PBox w g p) (k j : Nat) (hk : k < 4) (hj : j < 4) : w.cell? ⟨g, k * 4 + j, none⟩ = (RL (p k))[j]? := by
  unfold PBox at h; simp [World.cell?, h, PC_at p k j hk hj]
theorem PBox.c0 (h : PBox w g p) (k : Nat) (hk : k < 4) : w.cell? ⟨g, k * 4, none⟩ = some (.pointer (p k).pv) := h.cell k 0 hk (by omega)
theorem PBox.c1 (h : PBox w g p) (k : Nat) (hk : k < 4) : w.cell? ⟨g, k * 4 + 1, none⟩ = some (.int .i64 (p k).reps) := h.cell k 1 hk (by omega)
theorem PBox.c2 (h : PBox w g p) (k : Nat) (hk : k < 4) : w.cell? ⟨g, k * 4 + 2, none⟩ = some (.int .i64 (p k).self) := h.cell k 2 hk (by omega)
theorem PBox.c3 (h : PBox w g p) (k : Nat) (hk : k < 4) : w.cell? ⟨g, k * 4 + 3, none⟩ = some (.slice (p k).bo (p k).bn (p k).bc) := h.cell k 3 hk (by omega)
theorem PBox.fz (h : PBox w g p) (t : Nat) : w.frozen? ⟨g, t, none⟩ = false := by unfold PBox at h; simp [World.frozen?, h]
theorem pbox_new (w : World) (p : Nat → Pr) : PBox (w.alloc (.cells (PC p) 29)) w.heap.size p := by unfold PBox; rw [heap_alloc_new]
theorem PC_set (p : Nat → Pr) (k j : Nat) (_ : k < 4) (hj : j < 4) (v : Value) (q : Pr) (hq : (RL (p k)).set j v = RL q) : (PC p).setIfInBounds (k * 4 + j) v = PC (pset p k q) := by
  apply Array.ext_getElem?
  intro i
  by_cases hi : i < 16
  · have e : i = i / 4 * 4 + i % 4 := by omega
    have h1 : i / 4 < 4 := by omega
    have h2 : i % 4 < 4 := by omega
    rw [e, PC_at _ _ _ h1 h2, Array.getElem?_setIfInBounds]
    by_cases hx : k * 4 + j = i / 4 * 4 + i % 4
    · have hk' : i / 4 = k := by omega
      have hj' : i % 4 = j := by omega
      rw [hk', hj', if_pos rfl, if_pos (by rw [PC_size]; omega)]
      unfold pset
      rw [if_pos rfl, ← hq]
      simp [RL, hj]
    · rw [if_neg hx, PC_at _ _ _ h1 h2]
      unfold pset
      by_cases hk' : i / 4 = k
      · rw [if_pos hk', hk', ← hq, List.getElem?_set_ne (by omega)]
      · rw [if_neg hk']
  · rw [Array.getElem?_eq_none (by simp [PC_size]; omega), Array.getElem?_eq_none (by rw [PC_size]; omega)]
theorem PBox.set (h : PBox w g p) (k j : Nat) (hk : k < 4) (hj : j < 4) (v : Value) (q : Pr) (hq : (RL (p k)).set j v = RL q) : PBox (w.setCell ⟨g, k * 4 + j, none⟩ v) g (pset p k q) := by
  unfold PBox at h ⊢
  simp [World.setCell, h, Array.getElem?_modify, PC_set p k j hk hj v q hq]
theorem pset_pset (p : Nat → Pr) (k : Nat) (a b : Pr) : pset (pset p k a) k b = pset p k b := by
  funext t; unfold pset; split <;> rfl
theorem pset_at (p : Nat → Pr) (k : Nat) (a : Pr) : pset p k a k = a := by unfold pset; rw [if_pos rfl]
def ldA (v : Value) : Sem Value := Instr.loadAt 29 v
theorem ldA_eq (v : Value) : Instr.loadAt 29 v = ldA v := rfl
def stA (p v : Value) : Sem Unit := Instr.storeAt 29 p v
theorem stA_eq (p v : Value) : Instr.storeAt 29 p v = stA p v := rfl
theorem sizeA : (Try.prog.info? 29).map (·.size) = some 16 := by kernel_rfl
def stP (p v : Value) : Sem Unit := Instr.storeAt 28 p v
theorem stP_eq (p v : Value) : Instr.storeAt 28 p v = stP p v := rfl
theorem sizeP : (Try.prog.info? 28).map (·.size) = some 4 := by kernel_rfl
theorem PBox.range (h : PBox w g p) : w.rangeAt g 0 (PC p).toList := by
  intro j v hv
  rw [Nat.zero_add]
  unfold PBox at h
  simp only [Array.getElem?_toList] at hv
  simp [World.cell?, h, hv]
theorem run_lvA (A : PBox w g p) : (loadVar 29 ⟨g, 0, none⟩).run Try.prog w = .ok (PV p) w := by
  have := run_loadVar_mid (P := Try.prog) w g 0 29 (PC p).toList _ A.range Try.underlying29 rfl (by rw [sizeA]; rfl)
  simpa using this
theorem run_ldA (A : PBox w g p) : (ldA (.pointer (some ⟨g, 0, none⟩))).run Try.prog w = .ok (.agg (PC p)) w := by
  unfold ldA
  simp only [Instr.loadAt, Instr.sureAddr, Sem.run_bind, Sem.run_pure, Result.andThen]
  exact run_lvA A
theorem run_stA {p' : Nat → Pr} (A : PBox w g p) : (stA (.pointer (some ⟨g, 0, none⟩)) (.agg (PC p'))).run Try.prog w = .ok () (w.setRow g (PC p')) := by
  unfold stA
  have h := run_storeCells_from (P := Try.prog) g 29 (PC p').toList 0 (PC p) w A (by simp [PC, RL]) (PC_one p')
  cases hq : Try.prog.info? 29 with
  | none => have := sizeA; simp [hq] at this
  | some x =>
    have hs : x.size = 16 := by have := sizeA; simpa [hq] using this
    simp only [Instr.storeAt, Instr.sureAddr, Sem.run_bind, Sem.run_pure, Result.andThen, storeVar, sizeOf, typeInfo, cells_PV, PC_size]
    simp at h
    simp [h, hq, hs]
theorem PBox.setRow {p' : Nat → Pr} (A : PBox w g p) : PBox (w.setRow g (PC p')) g p' := setRow_heap w g _ _ _ _ A
theorem resA {fn : Func} {a u : Tmp} (h : fn.results = #[.cell a 29, .tmp u]) {tmps : Array Value} {v : Value} (hp : tmps.getD a undef = .pointer (some ⟨g, 0, none⟩)) (hu : tmps.getD u undef = v) (A : PBox w g p) :
    (results fn tmps).run Try.prog w = .ok (.tuple #[PV p, v]) w := by
  have hl := run_lvA A
  simp only [results, h]
  rw [Array.getD_eq_getD_getElem?] at hp hu
  simp [hp, hu, asAddr, hl]
/-- a pair is stored at its place -/
theorem PBox.put (A : PBox w g p) (k : Nat) (hk : k < 4) (q : Pr) : ∃ w', (stP (.pointer (some ⟨g, k * 4, none⟩)) (.agg #[.pointer q.pv, .int .i64 q.reps, .int .i64 q.self, .slice q.bo q.bn q.bc])).run Try.prog w = .ok () w' ∧ PBox w' g (pset p k q) ∧ Fr w w' g := by
  have ht : w.there g (k * 4) 4 := fun j hj => ⟨by rw [A.cell k j hk hj]; match j, hj with | 0, _ | 1, _ | 2, _ | 3, _ => rfl, A.fz _⟩
  have h := run_storeAt_mid (P := Try.prog) w g (k * 4) 28 #[.pointer q.pv, .int .i64 q.reps, .int .i64 q.self, .slice q.bo q.bn q.bc] ht sizeP (by simp [Value.oneCell'])
  refine ⟨_, h, ?_, ?_⟩
  · have a1 := A.set k 0 hk (by omega) (.pointer q.pv) ⟨q.pv, (p k).reps, (p k).self, (p k).bo, (p k).bn, (p k).bc⟩ rfl
    have a2 := a1.set k 1 hk (by omega) (.int .i64 q.reps) ⟨q.pv, q.reps, (p k).self, (p k).bo, (p k).bn, (p k).bc⟩ (by rw [pset_at]; rfl)
    have a3 := a2.set k 2 hk (by omega) (.int .i64 q.self) ⟨q.pv, q.reps, q.self, (p k).bo, (p k).bn, (p k).bc⟩ (by rw [pset_at]; rfl)
    have a4 := a3.set k 3 hk (by omega) (.slice q.bo q.bn q.bc) q (by rw [pset_at]; rfl)
    rw [pset_pset, pset_pset, pset_pset] at a4
    exact a4
  · exact (((Fr.setCell _ _ _ _).trans (Fr.setCell _ _ _ _)).trans (Fr.setCell _ _ _ _)).trans (Fr.setCell _ _ _ _)
theorem madeA (w : World) (p : Nat → Pr) (g : Nat) (hg : w.heap.size = g) : ∃ w' : World, (stA (.pointer (some ⟨g, 0, none⟩)) (.agg (PC p))).run Try.prog (w.alloc (.cells (PC fun _ => pr0) 29)) = .ok () w' ∧ PBox w' g p ∧ Below w.heap.size w w' ∧ w'.heap.size = w.heap.size + 1 := by
  subst hg
  refine ⟨_, run_stA (pbox_new w _), (pbox_new w _).setRow, below_setRow (below_new w _) (Nat.le_refl _), by simp [World.setRow]⟩
theorem NBox.made' (w : World) (p : Pn) (g : Nat) (hg : w.heap.size = g) : ∃ w' : World, (stN (.pointer (some ⟨g, 0, none⟩)) (.agg (NC p))).run Try.prog (w.alloc (.cells (NC ⟨false, 0, 0⟩) 51)) = .ok () w' ∧ NBox w' g p ∧ Below w.heap.size w w' ∧ w'.heap.size = w.heap.size + 1 := madeN w p g hg
end Go.Proofs.Ytikpjlbchnpmmaa
