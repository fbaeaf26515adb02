/- Rows of slices of runs. -/
import Derived.Test.YtpolleieajgheaaDoorRPu
namespace Go.Proofs.YtpolleieajgheaaDoor
open Go.RowKit

/-- a slice of runs, as a cell holds it, with its runs -/
structure Sl where
  ao : Option Addr
  n : Nat
  cap : Nat
  L : List Rn
def tot : List Sl → Nat
  | [] => 0
  | s :: r => s.n + tot r
def cat : List Sl → List Rn
  | [] => []
  | s :: r => s.L ++ cat r
theorem tot_append (a b : List Sl) : tot (a ++ b) = tot a + tot b := by
  induction a with
  | nil => simp [tot]
  | cons s r ih => simp only [List.cons_append, tot, ih]; omega
theorem cat_append (a b : List Sl) : cat (a ++ b) = cat a ++ cat b := by
  induction a with
  | nil => simp [cat]
  | cons s r ih => simp only [List.cons_append, cat, ih, List.append_assoc]
theorem tot_take (X : List Sl) (k : Nat) : tot (X.take k) ≤ tot X := by
  have h := congrArg tot (List.take_append_drop k X)
  rw [tot_append] at h
  omega
theorem take_one {X : List Sl} {k : Nat} {s : Sl} (hs : X[k]? = some s) : X.take (k + 1) = X.take k ++ [s] := by
  rw [List.take_add_one, hs]; rfl
theorem mem_cat (X : List Sl) (n : Int) : mem (cat X) n ↔ ∃ s, s ∈ X ∧ mem s.L n := by
  induction X with
  | nil => exact ⟨fun h => absurd h (mem_nil n), fun ⟨s, h, _⟩ => by cases h⟩
  | cons s r ih =>
    rw [cat, mem_append, ih]
    constructor
    · rintro (h | ⟨t, ht, h⟩)
      · exact ⟨s, List.mem_cons_self .., h⟩
      · exact ⟨t, List.mem_cons_of_mem _ ht, h⟩
    · rintro ⟨t, ht, h⟩
      rcases List.mem_cons.1 ht with rfl | ht
      · exact Or.inl h
      · exact Or.inr ⟨t, ht, h⟩
/-- a row of slices of runs -/
structure CSrc (w : World) (ao : Option Addr) (q : Nat) (X : List Sl) : Prop where
  len : X.length = q
  nil : ao = none → q = 0
  cell : ∀ ad, ao = some ad → ∀ t s, X[t]? = some s → w.cell? (ad.add t) = some (.slice s.ao s.n s.cap)
  src : ∀ s, s ∈ X → RSrc w s.ao s.n s.cap s.L
  big : q ≤ 8796093022207
theorem CSrc.below {w w' : World} {ao : Option Addr} {q : Nat} {X : List Sl} (h : CSrc w ao q X) (hb : Below w.heap.size w w') : CSrc w' ao q X :=
  ⟨h.len, h.nil, fun ad ha t s hs => by have := h.cell ad ha t s hs; rw [hb.cell (World.block_lt_of_cell? _ _ this)]; exact this, fun s hs => (h.src s hs).below hb, h.big⟩
theorem CSrc.at {w : World} {ao : Option Addr} {q : Nat} {X : List Sl} (h : CSrc w ao q X) (k : Nat) (hk : k < q) : ∃ ad s, ao = some ad ∧ X[k]? = some s ∧ w.cell? (ad.add k) = some (.slice s.ao s.n s.cap) ∧ RSrc w s.ao s.n s.cap s.L := by
  have hk' : k < X.length := by rw [h.len]; exact hk
  cases ao with
  | none => have := h.nil rfl; omega
  | some ad => exact ⟨ad, X[k], rfl, List.getElem?_eq_getElem hk', h.cell ad rfl k _ (List.getElem?_eq_getElem hk'), h.src _ (List.getElem_mem hk')⟩
theorem cat_len {w : World} : ∀ {X : List Sl}, (∀ s, s ∈ X → RSrc w s.ao s.n s.cap s.L) → (cat X).length = tot X
  | [], _ => rfl
  | s :: r, h => by
    have h1 := (h s (List.mem_cons_self ..)).len
    have h2 := cat_len (X := r) (fun t ht => h t (List.mem_cons_of_mem _ ht))
    simp only [cat, tot, List.length_append, h1, h2]
end Go.Proofs.YtpolleieajgheaaDoor
