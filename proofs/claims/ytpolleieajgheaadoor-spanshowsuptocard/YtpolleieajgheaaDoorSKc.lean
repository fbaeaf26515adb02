/- The sets of a sweep, and what it keeps of them. -/
import Derived.Test.YtpolleieajgheaaDoorSSw
namespace Go.Proofs.YtpolleieajgheaaDoor
open Go.RowKit
attribute [local go_sem] zero_RC cells_RV RC_size fold_RC build_RC'

def T1 (ao : Option Addr) (n cap : Nat) (A : List Rn) : List Sl := [⟨ao, n, cap, A⟩]
def T2 (ao bo : Option Addr) (n cap m cap' : Nat) (A B : List Rn) : List Sl := [⟨ao, n, cap, A⟩, ⟨bo, m, cap', B⟩]
theorem csrc1 (w : World) (ao : Option Addr) (n cap : Nat) (A : List Rn) (hS : RSrc w ao n cap A) (T : TypeId) : CSrc (w.alloc (.cells #[.slice ao n cap] T)) (some ⟨w.heap.size, 0, none⟩) 1 (T1 ao n cap A) := by
  refine ⟨rfl, fun h => (by cases h), fun ad h t s hs => ?_, fun s hs => ?_, by omega⟩
  · obtain rfl := Option.some.inj h
    rw [Addr.add_lit, Nat.zero_add, World.cell?_alloc_new]
    match t, hs with
    | 0, hs => cases hs; rfl
    | t + 1, hs => simp [T1] at hs
  · obtain rfl := List.mem_singleton.1 hs
    exact hS.below (below_new _ _)
theorem csrc2 (w : World) (ao bo : Option Addr) (n cap m cap' : Nat) (A B : List Rn) (hS : RSrc w ao n cap A) (hR : RSrc w bo m cap' B) (T : TypeId) : CSrc (w.alloc (.cells #[.slice ao n cap, .slice bo m cap'] T)) (some ⟨w.heap.size, 0, none⟩) 2 (T2 ao bo n cap m cap' A B) := by
  refine ⟨rfl, fun h => (by cases h), fun ad h t s hs => ?_, fun s hs => ?_, by omega⟩
  · obtain rfl := Option.some.inj h
    rw [Addr.add_lit, Nat.zero_add, World.cell?_alloc_new]
    match t, hs with
    | 0, hs => cases hs; rfl
    | 1, hs => cases hs; rfl
    | t + 2, hs => simp [T2] at hs
  · simp only [T2, List.mem_cons, List.not_mem_nil, or_false] at hs
    rcases hs with rfl | rfl
    · exact hS.below (below_new _ _)
    · exact hR.below (below_new _ _)
theorem kept1 {A : List Rn} {ao : Option Addr} {n cap : Nat} (x : Int) : Kept 1 (lsts (T1 ao n cap A)) x ↔ mem A x := by
  unfold Kept
  rw [if_neg (by omega), if_neg (by omega)]
  constructor
  · rintro ⟨s, h1, h2⟩
    have e : s = 0 := by simp [lsts, T1] at h1; omega
    subst e; exact h2
  · intro h; exact ⟨0, by simp [lsts, T1], h⟩
theorem kept_all {A B : List Rn} {ao bo : Option Addr} {n cap m cap' : Nat} (x : Int) : Kept 2 (lsts (T2 ao bo n cap m cap' A B)) x ↔ mem A x ∧ mem B x := by
  unfold Kept
  rw [if_pos rfl]
  constructor
  · intro h; exact ⟨h 0 (by simp [lsts, T2]), h 1 (by simp [lsts, T2])⟩
  · rintro ⟨h1, h2⟩ s hs
    have : s = 0 ∨ s = 1 := by simp [lsts, T2] at hs; omega
    rcases this with rfl | rfl
    · exact h1
    · exact h2
theorem kept_first {A B : List Rn} {ao bo : Option Addr} {n cap m cap' : Nat} (x : Int) : Kept 3 (lsts (T2 ao bo n cap m cap' A B)) x ↔ mem A x ∧ ¬ mem B x := by
  unfold Kept
  rw [if_neg (by omega), if_pos rfl]
  constructor
  · intro h; exact ⟨h.1, h.2 1 (by omega) (by simp [lsts, T2])⟩
  · rintro ⟨h1, h2⟩
    refine ⟨h1, fun s h0 hs => ?_⟩
    have : s = 1 := by simp [lsts, T2] at hs; omega
    subst this; exact h2
theorem kept_any (X : List Sl) (x : Int) : Kept 1 (lsts X) x ↔ ∃ s, s ∈ X ∧ mem s.L x := by
  unfold Kept
  rw [if_neg (by omega), if_neg (by omega)]
  constructor
  · rintro ⟨s, h1, h2⟩
    rw [lsts_len] at h1
    rw [lsts_at (List.getElem?_eq_getElem h1)] at h2
    exact ⟨X[s], List.getElem_mem h1, h2⟩
  · rintro ⟨s, hs, h⟩
    obtain ⟨i, hi, rfl⟩ := List.mem_iff_getElem.1 hs
    exact ⟨i, by rw [lsts_len]; exact hi, by rw [lsts_at (List.getElem?_eq_getElem hi)]; exact h⟩
end Go.Proofs.YtpolleieajgheaaDoor
