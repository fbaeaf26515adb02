/- AcksKeeps: what stands in memory between its steps. -/
import Derived.Test.YtikpjlbchnpmmaaASt
import Derived.Test.YtikpjlbchnpmmaaALs
namespace Go.Proofs.Ytikpjlbchnpmmaa
open Go.RowKit
variable {w w' wr : World} {g gt gu gl : Nat} {F U : Nat → Int} {a b : Int}

def LC (a b : Int) : Array Value := #[.int .i64 a, .int .i64 0, .int .i64 b]
theorem LC_one (a b : Int) : ∀ v ∈ (LC a b).toList, v.oneCell' = true := by
  intro v hv; simp [LC] at hv; rcases hv with rfl | rfl | rfl <;> rfl
theorem zero_LC : (#[.int .i64 0, .int .i64 0, .int .i64 0] : Array Value) = LC 0 0 := rfl
def LBx (w : World) (g : Nat) (a b : Int) : Prop := w.heap[g]? = some (.cells (LC a b) 37 (0, 0))
theorem LBx.lt (h : LBx w g a b) : g < w.heap.size := (Array.getElem?_eq_some_iff.1 h).1
theorem LBx.below (h : LBx w g a b) (hb : Below w.heap.size w w') : LBx w' g a b := (hb.block g h.lt).trans h
theorem LBx.on {g' : Nat} (h : LBx w g a b) (k : Fr w w' g') (hne : g ≠ g') : LBx w' g a b := (k.block g hne).trans h
theorem LBx.c0 (h : LBx w g a b) : w.cell? ⟨g, 0, none⟩ = some (.int .i64 a) := by unfold LBx at h; simp [World.cell?, h, LC]
theorem LBx.c2 (h : LBx w g a b) : w.cell? ⟨g, 2, none⟩ = some (.int .i64 b) := by unfold LBx at h; simp [World.cell?, h, LC]
theorem LBx.fz (h : LBx w g a b) (t : Nat) : w.frozen? ⟨g, t, none⟩ = false := by unfold LBx at h; simp [World.frozen?, h]
theorem LBx.set0 (h : LBx w g a b) (z : Int) : LBx (w.setCell ⟨g, 0, none⟩ (.int .i64 z)) g z b := by
  unfold LBx at h ⊢; simp [World.setCell, h, Array.getElem?_modify, LC]
theorem LBx.set2 (h : LBx w g a b) (z : Int) : LBx (w.setCell ⟨g, 2, none⟩ (.int .i64 z)) g a z := by
  unfold LBx at h ⊢; simp [World.setCell, h, Array.getElem?_modify, LC]
theorem lbx_new (w : World) (a b : Int) : LBx (w.alloc (.cells (LC a b) 37)) w.heap.size a b := by unfold LBx; rw [heap_alloc_new]
def stL (p v : Value) : Sem Unit := Instr.storeAt 37 p v
theorem stL_eq (p v : Value) : Instr.storeAt 37 p v = stL p v := rfl
theorem sizeL : (Try.prog.info? 37).map (·.size) = some 3 := by kernel_rfl
theorem run_stL {c d : Int} (A : LBx w g a b) : (stL (.pointer (some ⟨g, 0, none⟩)) (.agg (LC c d))).run Try.prog w = .ok () (w.setRow g (LC c d)) := by
  unfold stL
  have h := run_storeCells_from (P := Try.prog) g 37 (LC c d).toList 0 (LC a b) w A (by simp [LC]) (LC_one c d)
  have e1 : (Value.agg (LC c d)).cells = LC c d := by simp [Value.cells]
  have e2 : (LC c d).size = 3 := rfl
  cases hq : Try.prog.info? 37 with
  | none => have := sizeL; simp [hq] at this
  | some x =>
    have hs : x.size = 3 := by have := sizeL; simpa [hq] using this
    simp only [Instr.storeAt, Instr.sureAddr, Sem.run_bind, Sem.run_pure, Result.andThen, storeVar, sizeOf, typeInfo, e1, e2]
    simp at h
    simp [h, hq, hs]
theorem LBx.setRow {c d : Int} (A : LBx w g a b) : LBx (w.setRow g (LC c d)) g c d := setRow_heap w g _ _ _ _ A
theorem Fr.setRow (w : World) (g : Nat) (cs : Array Value) : Fr w (w.setRow g cs) g := ⟨rfl, rfl, rfl, by simp [World.setRow], fun k hk => setRow_other _ _ _ _ hk⟩
theorem lit3 (w : World) (x y z : Int) : NSrc (w.alloc (.cells #[.int .i64 x, .int .i64 y, .int .i64 z] 3)) (some ⟨w.heap.size, 0, none⟩) 3 3 [x, y, z] := by
  refine ⟨rfl, fun h => (by cases h), fun ad h t ht => ?_⟩
  obtain rfl := Option.some.inj h
  rw [Addr.add_lit, Nat.zero_add, World.cell?_alloc_new]
  match t, ht with
  | 0, _ | 1, _ | 2, _ => rfl
/-- the two tables and the last numbers -/
structure KS (w wr : World) (gt gu gl : Nat) (F U : Nat → Int) (a b : Int) : Prop where
  t : Tb wr gt 3 1 F
  u : Tb wr gu 3 1 U
  l : LBx wr gl a b
  bel : Below w.heap.size w wr
  n1 : gt ≠ gu
  n2 : gt ≠ gl
  n3 : gu ≠ gl
  m1 : w.heap.size ≤ gt
  m2 : w.heap.size ≤ gu
  m3 : w.heap.size ≤ gl
theorem KS.below (h : KS w wr gt gu gl F U a b) (hb : Below wr.heap.size wr w') : KS w w' gt gu gl F U a b :=
  ⟨h.t.below hb, h.u.below hb, h.l.below hb, h.bel.trans (hb.mono h.bel.size), h.n1, h.n2, h.n3, h.m1, h.m2, h.m3⟩
theorem KS.onT {F' : Nat → Int} (h : KS w wr gt gu gl F U a b) (T : Tb w' gt 3 1 F') (f : Fr wr w' gt) : KS w w' gt gu gl F' U a b :=
  ⟨T, h.u.on f h.n1.symm, h.l.on f h.n2.symm, f.below h.bel h.m1, h.n1, h.n2, h.n3, h.m1, h.m2, h.m3⟩
theorem KS.onU {U' : Nat → Int} (h : KS w wr gt gu gl F U a b) (T : Tb w' gu 3 1 U') (f : Fr wr w' gu) : KS w w' gt gu gl F U' a b :=
  ⟨h.t.on f h.n1, T, h.l.on f h.n3.symm, f.below h.bel h.m2, h.n1, h.n2, h.n3, h.m1, h.m2, h.m3⟩
theorem KS.onL {c d : Int} (h : KS w wr gt gu gl F U a b) (T : LBx w' gl c d) (f : Fr wr w' gl) : KS w w' gt gu gl F U c d :=
  ⟨h.t.on f h.n2, h.u.on f h.n3, T, f.below h.bel h.m3, h.n1, h.n2, h.n3, h.m1, h.m2, h.m3⟩
/-- within the bounds -/
def Bd (F : Nat → Int) : Prop := (0 ≤ F 0 ∧ F 0 ≤ 4611686018427387904) ∧ (0 ≤ F 2 ∧ F 2 ≤ 4611686018427387904) ∧ F 1 = 0
theorem bd_zero : Bd (fun _ => 0) := ⟨⟨by show (0 : Int) ≤ 0; omega, by show (0 : Int) ≤ _; omega⟩, ⟨by show (0 : Int) ≤ 0; omega, by show (0 : Int) ≤ _; omega⟩, rfl⟩
/-- the variable x stands beside them -/
structure KX (w wr : World) (gt gu gl : Nat) (F U : Nat → Int) (a b : Int) (gx : Nat) (e : Rn) : Prop where
  k : KS w wr gt gu gl F U a b
  x : Box wr gx 39 e
  q1 : gx ≠ gt
  q2 : gx ≠ gu
  q3 : gx ≠ gl
variable {gx : Nat} {e : Rn}
theorem Box.onF {g' : Nat} {T : TypeId} (h : Box w g T e) (k : Fr w w' g') (hne : g ≠ g') : Box w' g T e := (k.block g hne).trans h
theorem KX.onT {F' : Nat → Int} (h : KX w wr gt gu gl F U a b gx e) (T : Tb w' gt 3 1 F') (f : Fr wr w' gt) : KX w w' gt gu gl F' U a b gx e :=
  ⟨h.k.onT T f, h.x.onF f h.q1, h.q1, h.q2, h.q3⟩
theorem KX.onU {U' : Nat → Int} (h : KX w wr gt gu gl F U a b gx e) (T : Tb w' gu 3 1 U') (f : Fr wr w' gu) : KX w w' gt gu gl F U' a b gx e :=
  ⟨h.k.onU T f, h.x.onF f h.q2, h.q1, h.q2, h.q3⟩
theorem KX.onL {c d : Int} (h : KX w wr gt gu gl F U a b gx e) (T : LBx w' gl c d) (f : Fr wr w' gl) : KX w w' gt gu gl F U c d gx e :=
  ⟨h.k.onL T f, h.x.onF f h.q3, h.q1, h.q2, h.q3⟩
theorem KX.d0 (h : KX w wr gt gu gl F U a b gx e) : wr.cell? ⟨gx, 0, none⟩ = some (.int .i64 e.lo) := h.x.at.c0
theorem KX.d1 (h : KX w wr gt gu gl F U a b gx e) : wr.cell? ⟨gx, 1, none⟩ = some (.int .i64 e.hi) := h.x.at.c1
theorem KS.box (h : KS w wr gt gu gl F U a b) (X : Box w' wr.heap.size 39 e) (hb : Below wr.heap.size wr w') : KX w w' gt gu gl F U a b wr.heap.size e :=
  ⟨h.below hb, X, by have := h.t.lt; omega, by have := h.u.lt; omega, by have := h.l.lt; omega⟩
/-- Heard's error at these tables -/
theorem heardE3 (p hi : Int) : heardE 3 1 p hi = 0 ↔ (p = 0 ∨ p = 2) ∧ 0 ≤ hi ∧ hi ≤ 4611686018427387904 := by
  unfold heardE peerE
  by_cases h1 : p < 0 ∨ 3 ≤ p
  · rw [if_pos h1, if_neg (by decide)]
    omega
  · rw [if_neg h1]
    by_cases h2 : p = 1
    · rw [if_pos h2, if_neg (by decide)]
      omega
    · rw [if_neg h2, if_pos rfl]
      split <;> omega
theorem bd_heard (h : Bd F) (p hi : Int) : Bd (heardF 3 1 F p hi) := by
  unfold heardF
  by_cases he : heardE 3 1 p hi = 0
  · rw [if_pos he]
    obtain ⟨hp, h0, h1⟩ := (heardE3 p hi).1 he
    obtain ⟨b0, b2, b1⟩ := h
    rcases hp with rfl | rfl
    · refine ⟨?_, b2, b1⟩
      show 0 ≤ max (F 0) hi ∧ max (F 0) hi ≤ _
      omega
    · refine ⟨b0, ?_, b1⟩
      show 0 ≤ max (F 2) hi ∧ max (F 2) hi ≤ _
      omega
  · rw [if_neg he]; exact h
end Go.Proofs.Ytikpjlbchnpmmaa
