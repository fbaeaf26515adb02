/- Rows of rows of numbers that a call makes. -/
import Derived.Test.YtinicdnpkihbkaaEIr
import Derived.Laws.MakeOwn
import Derived.Test.YtinicdnpkihbkaaEPb
namespace Go.Proofs.Ytinicdnpkihbkaa
open Go.RowKit
variable {w w' w2 w0 : World} {g n : Nat}

structure Sl where
  a : Option Addr
  n : Nat
  c : Nat
def sl0 : Sl := ⟨none, 0, 0⟩
def slv (s : Sl) : Value := .slice s.a s.n s.c
/-- n rows of numbers, new since w0, each in memory of its own -/
structure Mat (w0 w : World) (g n : Nat) (F : Nat → Sl) (X : Nat → List Int) : Prop where
  box : ∃ cs : Array Value, w.heap[g]? = some (.cells cs 33 (0, 0)) ∧ cs.size = n ∧ ∀ i, i < n → cs[i]? = some (slv (F i))
  row : ∀ i, i < n → IR w (F i).a (F i).n (F i).c (X i)
  ne : ∀ i, i < n → ∀ k, blk (F i).a = some k → k ≠ g ∧ w0.heap.size ≤ k
  dis : ∀ i j, i < n → j < n → i ≠ j → ∀ k, blk (F i).a = some k → blk (F j).a ≠ some k
  gb : w0.heap.size ≤ g
  bel : Below w0.heap.size w0 w
variable {F : Nat → Sl} {X Y : Nat → List Int}
theorem Mat.lt (h : Mat w0 w g n F X) : g < w.heap.size := by obtain ⟨cs, h1, _⟩ := h.box; exact (Array.getElem?_eq_some_iff.1 h1).1
theorem Mat.cell (h : Mat w0 w g n F X) (i : Nat) (hi : i < n) : w.cell? ⟨g, i, none⟩ = some (.slice (F i).a (F i).n (F i).c) := by
  obtain ⟨cs, h1, _, h3⟩ := h.box
  simp [World.cell?, h1, h3 i hi, slv]
theorem Mat.frozen (h : Mat w0 w g n F X) (i : Nat) : w.frozen? ⟨g, i, none⟩ = false := by
  obtain ⟨cs, h1, _, h3⟩ := h.box
  simp [World.frozen?, h1]
theorem Mat.congr (h : Mat w0 w g n F X) (e : ∀ i, i < n → X i = Y i) : Mat w0 w g n F Y :=
  ⟨h.box, fun i hi => by rw [← e i hi]; exact h.row i hi, h.ne, h.dis, h.gb, h.bel⟩
theorem Mat.below (h : Mat w0 w g n F X) (hb : Below w.heap.size w w2) : Mat w0 w2 g n F X :=
  ⟨by obtain ⟨cs, h1, h2⟩ := h.box; exact ⟨cs, (hb.block g h.lt).trans h1, h2⟩, fun i hi => (h.row i hi).below hb, h.ne, h.dis, h.gb, h.bel.trans (hb.mono h.bel.size)⟩
theorem Mat.pre (h : Mat w0 w g n F X) (hb : Below w'.heap.size w' w0) : Mat w' w g n F X :=
  ⟨h.box, h.row, fun i hi k hk => ⟨(h.ne i hi k hk).1, Nat.le_trans hb.size (h.ne i hi k hk).2⟩, h.dis, Nat.le_trans hb.size h.gb, hb.trans (h.bel.mono hb.size)⟩
theorem mat_make (n : Nat) (hn : n ≤ 16) (w : World) : ∃ w2, (Instr.makeSlice 31 (.int .i64 (n : Int)) (.int .i64 (n : Int))).run Try.prog w = .ok (.slice (some ⟨w.heap.size, 0, none⟩) n n) w2 ∧ Mat w w2 w.heap.size n (fun _ => sl0) (fun _ => []) := by
  have inf : (Try.prog.info? 33).map (fun i => (i.zero, i.size, i.bytes)) = some (some (.slice none 0 0), 1, 24) := by kernel_rfl
  obtain ⟨i0, hi, hz0, hz1, hz2⟩ := info_parts inf
  have hr := run_make (P := Try.prog) w 31 33 i0 _ Try.underlying31 hi hz0 .i64 .i64 (n : Int) (n : Int) (by omega) (Int.le_refl _) (by rw [hz2]; omega) (by omega)
  simp only [Int.toNat_natCast] at hr
  refine ⟨_, hr, ⟨⟨_, heap_alloc_new w _, ?_, fun i hi => ?_⟩, fun i hi => IR.nil _, (fun i hi k hk => by cases hk), (fun i j hi hj hij k hk => by cases hk), Nat.le_refl _, below_new w _⟩⟩
  · rw [size_madeCells, hz1, Nat.mul_one]
  · rw [hz1, Nat.mul_one]
    have e : (Value.slice none 0 0).cells = #[.slice none 0 0] := by simp [Value.cells]
    rw [e]
    simp [madeCells, hi, slv, sl0, Nat.mod_one]
def Fup (F : Nat → Sl) (i : Nat) (s : Sl) : Nat → Sl := fun j => if j = i then s else F j
def Xup (X : Nat → List Int) (i : Nat) (l : List Int) : Nat → List Int := fun j => if j = i then l else X j
/-- the row i grows, and is written back -/
theorem Mat.grow {bo : Option Addr} {m c2 : Nat} {l : List Int} (h : Mat w0 w g n F X) (i : Nat) (hi : i < n) (r : IR w2 bo m c2 l) (a : Ap w w2 (F i).a bo) : Mat w0 (w2.setCell ⟨g, i, none⟩ (.slice bo m c2)) g n (Fup F i ⟨bo, m, c2⟩) (Xup X i l) := by
  have hgne : blk bo ≠ some g := by
    intro e
    rcases a.lies with e2 | ⟨j, e2, hj⟩
    · exact (h.ne i hi g (by rw [← e2]; exact e)).1 rfl
    · rw [e2] at e
      have := Option.some.inj e
      have := h.lt
      omega
  have hgw : w2.heap[g]? = w.heap[g]? := a.grown.block g h.lt (fun e => (h.ne i hi g e.symm).1 rfl)
  have keep : ∀ k, k ≠ g → (w2.setCell ⟨g, i, none⟩ (.slice bo m c2)).heap[k]? = w2.heap[k]? := fun k hk => heap_setCell_other w2 ⟨g, i, none⟩ k _ hk
  obtain ⟨cs, h1, h2, h3⟩ := h.box
  refine ⟨⟨cs.setIfInBounds i (.slice bo m c2), heap_setCell_same w2 g i cs _ _ (hgw.trans h1), by simpa using h2, fun j hj => ?_⟩, fun j hj => ?_, fun j hj k hk => ?_, fun j j' hj hj' hne k hk e => ?_, h.gb, ?_⟩
  · unfold Fup
    by_cases e : j = i
    · subst e
      rw [if_pos rfl]
      simp [h2, hj, slv]
    · rw [if_neg e, Array.getElem?_setIfInBounds_ne (fun x => e x.symm)]
      exact h3 j hj
  · unfold Fup Xup
    by_cases e : j = i
    · subst e
      rw [if_pos rfl, if_pos rfl]
      exact r.keep fun k hk => keep k (fun x => hgne (by rw [← x]; exact hk))
    · rw [if_neg e, if_neg e]
      refine (h.row j hj).keep fun k hk => ?_
      rw [keep k (h.ne j hj k hk).1]
      exact a.grown.block k ((h.row j hj).lt k hk) (fun x => h.dis i j hi hj (fun y => e y.symm) k x.symm hk)
  · unfold Fup at hk
    by_cases e : j = i
    · rw [if_pos e] at hk
      refine ⟨fun x => hgne (by rw [← x]; exact hk), ?_⟩
      rcases a.lies with e2 | ⟨j2, e2, hj2⟩
      · exact (h.ne i hi k (by rw [← e2]; exact hk)).2
      · have hk2 : blk bo = some k := hk
        rw [e2] at hk2
        have := Option.some.inj hk2
        have := h.bel.size
        omega
    · rw [if_neg e] at hk
      exact h.ne j hj k hk
  · have new : ∀ j', j' < n → j' ≠ i → blk bo = some k → blk (F j').a = some k → False := fun j' hj' hne' hb hf => by
      rcases a.lies with e2 | ⟨j2, e2, hj2⟩
      · exact h.dis i j' hi hj' (fun y => hne' y.symm) k (by rw [← e2]; exact hb) hf
      · rw [e2] at hb
        have := Option.some.inj hb
        have := (h.row j' hj').lt k hf
        omega
    unfold Fup at hk e
    by_cases e1 : j = i
    · rw [if_pos e1] at hk
      have e2 : ¬ j' = i := fun x => hne (e1.trans x.symm)
      rw [if_neg e2] at e
      exact new j' hj' e2 hk e
    · rw [if_neg e1] at hk
      by_cases e2 : j' = i
      · rw [if_pos e2] at e
        exact new j hj e1 e hk
      · rw [if_neg e2] at e
        exact h.dis j j' hj hj' hne k hk e
  · refine h.bel.trans ⟨?_, ?_, ?_, ?_, fun k hk => ?_⟩
    · exact a.grown.os
    · exact a.grown.tape
    · exact a.grown.output
    · simpa using a.grown.size
    · rw [keep k (by have := h.gb; omega)]
      refine a.grown.block k (Nat.lt_of_lt_of_le hk h.bel.size) (fun x => ?_)
      have := (h.ne i hi k x.symm).2
      omega
/-- the numbers below k of which f is true -/
def rl (f : Nat → Bool) : Nat → List Int
  | 0 => []
  | k + 1 => if f k = true then rl f k ++ [(k : Int)] else rl f k
theorem rl_len (f : Nat → Bool) (k : Nat) : (rl f k).length ≤ k := by
  induction k with
  | zero => simp [rl]
  | succ k ih => unfold rl; split <;> (try simp) <;> omega
theorem rl_congr {f h : Nat → Bool} (k : Nat) (e : ∀ j, j < k → f j = h j) : rl f k = rl h k := by
  induction k with
  | zero => rfl
  | succ k ih => rw [rl, rl, ih (fun j hj => e j (by omega)), e k (by omega)]
end Go.Proofs.Ytinicdnpkihbkaa
