/- The union of three, its row's cells said one by one; cells of literals laid a little earlier. -/
import Derived.Test.YthehbnfkobkciaaBPl
namespace Go.Proofs.Ythehbnfkobkciaa
open Go.RowKit

theorem union3c_any (gb : Nat) (ao bo co : Option Addr) (n cap m cap' l cap2 : Nat) (A B C : List Rn) (w : World) (hS : RSrc w ao n cap A) (hR : RSrc w bo m cap' B) (hT : RSrc w co l cap2 C) (c0 : w.cell? ⟨gb, 0, none⟩ = some (.slice ao n cap)) (c1 : w.cell? ⟨gb, 1, none⟩ = some (.slice bo m cap')) (c2 : w.cell? ⟨gb, 2, none⟩ = some (.slice co l cap2)) (hlen : n + m + l ≤ 8796093022207) :
    Calls Try.prog 5 #[.slice (some ⟨gb, 0, none⟩) 3 3] w fun e w' => GivesR w w' e (fun R => form 1 R ∧ ∀ x, mem R x ↔ mem A x ∨ mem B x ∨ mem C x) := by
  refine (unionN_any _ 3 3 [⟨ao, n, cap, A⟩, ⟨bo, m, cap', B⟩, ⟨co, l, cap2, C⟩] _ ⟨rfl, fun h => (by cases h), fun ad h t s ht => ?_, fun s hs => ?_, by omega⟩ (by simp [tot]; omega)).mono ?_
  · obtain rfl := Option.some.inj h
    rw [Addr.add_lit, Nat.zero_add]
    match t, ht with
    | 0, ht => cases ht; exact c0
    | 1, ht => cases ht; exact c1
    | 2, ht => cases ht; exact c2
    | t + 3, ht => simp at ht
  · simp only [List.mem_cons, List.not_mem_nil, or_false] at hs
    rcases hs with rfl | rfl | rfl
    · exact hS
    · exact hR
    · exact hT
  · rintro e w1 ⟨a1, n1, c1, R, rfl, S1, b1, p1⟩
    refine ⟨a1, n1, c1, R, rfl, S1, b1, p1.1, fun x => ?_⟩
    rw [p1.2 x]
    simp
theorem below_dr {n : Nat} {w W : World} (h : Below n w W) : Below n w W.drew := ⟨h.1, h.2, h.3, h.4, h.5⟩
theorem below_al {w W : World} {o : Obj} (h : Below w.heap.size w W) : Below w.heap.size w (W.alloc o) := h.alloc h.size _
theorem below_chain {w W W' : World} (h : Below w.heap.size w W) (b : Below W.heap.size W W') : Below w.heap.size w W' := h.trans (b.mono h.size)
/-- a cell of a block just laid -/
theorem top_cell (W : World) (C : Array Value) (T : TypeId) (g i : Nat) (v : Value) (hg : W.heap.size = g) (hv : C[i]? = some v) : (W.alloc (.cells C T)).drew.cell? ⟨g, i, none⟩ = some v := by
  subst hg
  rw [World.cell?_drew, World.cell?_alloc_new]; exact hv
/-- a cell of an older block -/
theorem old_cell (W : World) (o : Obj) (a : Addr) (v : Value) (ha : a.block < W.heap.size) (hv : W.cell? a = some v) : (W.alloc o).drew.cell? a = some v := by
  rw [World.cell?_drew, (below_new W o).cell ha]; exact hv
theorem kept_cell {W W' : World} (b : Below W.heap.size W W') (a : Addr) (v : Value) (ha : a.block < W.heap.size) (hv : W.cell? a = some v) : W'.cell? a = some v := by
  rw [b.cell ha]; exact hv
end Go.Proofs.Ythehbnfkobkciaa
