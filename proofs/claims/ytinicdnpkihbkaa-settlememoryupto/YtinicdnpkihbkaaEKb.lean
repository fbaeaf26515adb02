/- What each replica knows: sixteen times sixteen truths in memory. -/
import Derived.Test.YtinicdnpkihbkaaECp
import Derived.Deep.RegionHeld3
namespace Go.Proofs.Ytinicdnpkihbkaa
open Go.RowKit
variable {w w' w2 : World} {g : Nat} {K : Nat → Nat → Bool}

def bA (f : Nat → Bool) : Array Value := ((List.range 16).map fun o => .bool (f o)).toArray
theorem bA_size (f : Nat → Bool) : (bA f).size = 16 := by simp [bA]
theorem bA_at (f : Nat → Bool) (k : Nat) (h : k < 16) : (bA f)[k]? = some (.bool (f k)) := by simp [bA, h]
theorem bA_one (f : Nat → Bool) : ∀ v ∈ (bA f).toList, v.oneCell' = true := by
  intro v hv; simp only [bA, List.mem_map] at hv; obtain ⟨r, _, rfl⟩ := hv; rfl
theorem bA_congr {f h : Nat → Bool} (e : ∀ k, k < 16 → f k = h k) : bA f = bA h := by
  unfold bA; congr 1; apply List.map_congr_left; intro r hr; rw [e r (by simpa using hr)]
def kA (K : Nat → Nat → Bool) : Array Value := ((List.range 256).map fun i => .bool (K (i / 16) (i % 16))).toArray
theorem kA_size (K : Nat → Nat → Bool) : (kA K).size = 256 := by simp [kA]
theorem kA_at (K : Nat → Nat → Bool) (r o : Nat) (h : r < 16) (ho : o < 16) : (kA K)[r * 16 + o]? = some (.bool (K r o)) := by
  have e1 : (r * 16 + o) / 16 = r := by omega
  have e2 : (r * 16 + o) % 16 = o := by omega
  have h' : r * 16 + o < 256 := by omega
  simp [kA, h', e1, e2]
theorem kA_one (K : Nat → Nat → Bool) : ∀ v ∈ (kA K).toList, v.oneCell' = true := by
  intro v hv; simp only [kA, List.mem_map] at hv; obtain ⟨r, _, rfl⟩ := hv; rfl
theorem kA_congr {K J : Nat → Nat → Bool} (e : ∀ r o, r < 16 → o < 16 → K r o = J r o) : kA K = kA J := by
  unfold kA; congr 1; apply List.map_congr_left; intro i hi
  have : i < 256 := by simpa using hi
  rw [e (i / 16) (i % 16) (by omega) (by omega)]
def kset (K : Nat → Nat → Bool) (r o : Nat) (b : Bool) : Nat → Nat → Bool := fun r' o' => if r' = r ∧ o' = o then b else K r' o'
theorem kA_set (K : Nat → Nat → Bool) (r o : Nat) (b : Bool) (_ : r < 16) (ho : o < 16) : (kA K).setIfInBounds (r * 16 + o) (.bool b) = kA (kset K r o b) := by
  apply Array.ext
  · simp [kA]
  · intro i h1 h2
    simp [kA] at h2
    by_cases h : r * 16 + o = i
    · subst h
      have e1 : (r * 16 + o) / 16 = r := by omega
      have e2 : (r * 16 + o) % 16 = o := by omega
      simp [kA, kset, e1, e2]
    · have : ¬ (i / 16 = r ∧ i % 16 = o) := fun e => h (by omega)
      simp [kA, kset, h, this]
def KBx (w : World) (g : Nat) (K : Nat → Nat → Bool) : Prop := w.heap[g]? = some (.cells (kA K) 55 (0, 0))
theorem KBx.lt (h : KBx w g K) : g < w.heap.size := (Array.getElem?_eq_some_iff.1 h).1
theorem KBx.cell (h : KBx w g K) (r o : Nat) (hr : r < 16) (ho : o < 16) : w.cell? ⟨g, r * 16 + o, none⟩ = some (.bool (K r o)) := by
  unfold KBx at h; simp [World.cell?, h, kA_at K r o hr ho]
theorem KBx.frozen (h : KBx w g K) (t : Nat) : w.frozen? ⟨g, t, none⟩ = false := by unfold KBx at h; simp [World.frozen?, h]
theorem KBx.set (h : KBx w g K) (r o : Nat) (hr : r < 16) (ho : o < 16) (b : Bool) : KBx (w.setCell ⟨g, r * 16 + o, none⟩ (.bool b)) g (kset K r o b) := by
  unfold KBx at h ⊢
  simp [World.setCell, h, Array.getElem?_modify, ← kA_set K r o b hr ho]
theorem KBx.keep (h : KBx w g K) (e : w'.heap[g]? = w.heap[g]?) : KBx w' g K := e.trans h
theorem KBx.below (h : KBx w g K) (hb : Below w.heap.size w w') : KBx w' g K := h.keep (hb.block g h.lt)
theorem KBx.congr {J : Nat → Nat → Bool} (h : KBx w g K) (e : ∀ r o, r < 16 → o < 16 → K r o = J r o) : KBx w g J := by
  unfold KBx at h ⊢; rw [← kA_congr e]; exact h
theorem KBx_new (w : World) (K : Nat → Nat → Bool) : KBx (w.alloc (.cells (kA K) 55)) w.heap.size K := by unfold KBx; rw [heap_alloc_new]
theorem zeroK (w : World) : (zeroValue 55).run Try.prog w = .ok (.agg (kA fun _ _ => false)) w := by kernel_rfl
/-- only the block g may have been written -/
def Fr (w w' : World) (g : Nat) : Prop := w.grownBy w' (some g)
theorem Fr.refl (w : World) (g : Nat) : Fr w w g := ⟨rfl, rfl, rfl, Nat.le_refl _, fun _ _ _ => rfl⟩
theorem Fr.trans (h : Fr w w' g) (k : Fr w' w2 g) : Fr w w2 g :=
  ⟨k.os.trans h.os, k.tape.trans h.tape, k.output.trans h.output, Nat.le_trans h.size k.size, fun i hi hne => (k.block i (Nat.lt_of_lt_of_le hi h.size) hne).trans (h.block i hi hne)⟩
theorem Fr.of_below (h : Below w.heap.size w w') : Fr w w' g := ⟨h.os, h.tape, h.output, h.size, fun i hi _ => h.block i hi⟩
theorem Fr.setCell (w : World) (g j : Nat) (v : Value) : Fr w (w.setCell ⟨g, j, none⟩ v) g := ⟨rfl, rfl, rfl, by simp, fun k _ hk => heap_setCell_other w ⟨g, j, none⟩ k v (fun e => hk (by simp [e]))⟩
theorem Fr.new {wr : World} (h : Fr wr w' g) (hb : Below w.heap.size w wr) (hg : w.heap.size ≤ g) : Below w.heap.size w w' :=
  hb.trans ⟨h.os, h.tape, h.output, Nat.le_trans hb.size (Nat.le_trans (Nat.le_refl _) h.size) |> fun _ => h.size, fun k hk => h.block k (Nat.lt_of_lt_of_le hk hb.size) (fun e => by have := Option.some.inj e; omega)⟩
/-! ### a row of the matrix -/
def ldS (v : Value) : Sem Value := Instr.loadAt 54 v
theorem ldS_eq (v : Value) : Instr.loadAt 54 v = ldS v := rfl
def ldK (v : Value) : Sem Value := Instr.loadAt 55 v
theorem ldK_eq (v : Value) : Instr.loadAt 55 v = ldK v := rfl
def stK (p v : Value) : Sem Unit := Instr.storeAt 55 p v
theorem stK_eq (p v : Value) : Instr.storeAt 55 p v = stK p v := rfl
theorem sizeS : (Try.prog.info? 54).map (·.size) = some 16 := by kernel_rfl
theorem sizeK : (Try.prog.info? 55).map (·.size) = some 256 := by kernel_rfl
theorem KBx.rangeS (h : KBx w g K) (r : Nat) (hr : r < 16) : w.rangeAt g (r * 16) (bA (K r)).toList := by
  intro j v hv
  have hj : j < 16 := by have := (List.getElem?_eq_some_iff.1 hv).1; simpa [bA] using this
  rw [h.cell r j hr hj]
  simp only [Array.getElem?_toList, bA_at _ j hj] at hv
  exact hv
theorem run_ldS (h : KBx w g K) (r : Nat) (hr : r < 16) : (ldS (.pointer (some ⟨g, r * 16, none⟩))).run Try.prog w = .ok (.agg (bA (K r))) w := by
  unfold ldS
  simp only [Instr.loadAt, Instr.sureAddr, Sem.run_bind, Sem.run_pure, Result.andThen]
  have := run_loadVar_mid (P := Try.prog) w g (r * 16) 54 (bA (K r)).toList _ (h.rangeS r hr) Try.underlying54 rfl (by rw [sizeS]; simp [bA])
  simpa using this
theorem KBx.rangeK (h : KBx w g K) : w.rangeAt g 0 (kA K).toList := by
  intro j v hv
  rw [Nat.zero_add]
  unfold KBx at h
  simp only [Array.getElem?_toList] at hv
  simp [World.cell?, h, hv]
theorem run_lvK (h : KBx w g K) : (loadVar 55 ⟨g, 0, none⟩).run Try.prog w = .ok (.agg (kA K)) w := by
  have := run_loadVar_mid (P := Try.prog) w g 0 55 (kA K).toList _ h.rangeK Try.underlying55 rfl (by rw [sizeK]; simp [kA])
  simpa using this
theorem run_ldK (h : KBx w g K) : (ldK (.pointer (some ⟨g, 0, none⟩))).run Try.prog w = .ok (.agg (kA K)) w := by
  unfold ldK
  simp only [Instr.loadAt, Instr.sureAddr, Sem.run_bind, Sem.run_pure, Result.andThen]
  exact run_lvK h
theorem run_stK {J : Nat → Nat → Bool} (A : KBx w g K) : (stK (.pointer (some ⟨g, 0, none⟩)) (.agg (kA J))).run Try.prog w = .ok () (w.setRow g (kA J)) := by
  unfold stK
  have h := run_storeCells_from (P := Try.prog) g 55 (kA J).toList 0 (kA K) w A (by simp [kA]) (kA_one J)
  have hc : (Value.agg (kA J)).cells = kA J := by simp [Value.cells]
  cases hq : Try.prog.info? 55 with
  | none => have := sizeK; simp [hq] at this
  | some x =>
    have hs : x.size = 256 := by have := sizeK; simpa [hq] using this
    simp only [Instr.storeAt, Instr.sureAddr, Sem.run_bind, Sem.run_pure, Result.andThen, storeVar, sizeOf, typeInfo, hc, kA_size]
    simp at h
    simp [h, hq, hs]
theorem KBx.setRow {J : Nat → Nat → Bool} (A : KBx w g K) : KBx (w.setRow g (kA J)) g J := setRow_heap w g _ _ _ _ A
theorem res1K {fn : Func} {p : Tmp} (h : fn.results = #[.cell p 55]) {tmps : Array Value} (hp : tmps.getD p undef = .pointer (some ⟨g, 0, none⟩)) (A : KBx w g K) :
    (results fn tmps).run Try.prog w = .ok (.agg (kA K)) w := by
  have hl := run_lvK A
  simp only [results, h]
  rw [Array.getD_eq_getD_getElem?] at hp
  simp [hp, asAddr, hl]
theorem idxS (f : Nat → Bool) (k : Nat) (hk : k < 16) (w : World) : (Instr.index 54 (.agg (bA f)) (.int .i64 (k : Int))).run Try.prog w = .ok (.bool (f k)) w := by
  rcases (show k = 0 ∨ k = 1 ∨ k = 2 ∨ k = 3 ∨ k = 4 ∨ k = 5 ∨ k = 6 ∨ k = 7 ∨ k = 8 ∨ k = 9 ∨ k = 10 ∨ k = 11 ∨ k = 12 ∨ k = 13 ∨ k = 14 ∨ k = 15 by omega) with rfl | rfl | rfl | rfl | rfl | rfl | rfl | rfl | rfl | rfl | rfl | rfl | rfl | rfl | rfl | rfl <;> kernel_rfl
end Go.Proofs.Ytinicdnpkihbkaa
