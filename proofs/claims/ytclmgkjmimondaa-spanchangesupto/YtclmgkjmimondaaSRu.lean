/- The reference's Union: its contract. -/
import Derived.Test.YtclmgkjmimondaaSRf
import Derived.Test.YtclmgkjmimondaaRUo
namespace Go.Proofs.Ytclmgkjmimondaa
open Go.RowKit

theorem refUnionN_any (ao : Option Addr) (q cp : Nat) (X : List Sl) (w : World) (hC : CSrc w ao q X) (hq : 0 < q) (hn : tot X ≤ 8589934592) :
    Calls Try.prog 37 #[.slice ao q cp] w fun e w' => GivesR w w' e (fun R => form 1 R ∧ ∀ n, mem R n ↔ ∃ s, s ∈ X ∧ mem s.L n) := by
  have HC := hide (sweep_any ao q cp X 1 w hC hq hn)
  clear hC
  go_enter Try.func37, Try.ntmps37
  go_wp2_with fail
  refine HC.out.mono ?_
  rintro e w1 ⟨a1, n1, c1, R, rfl, S1, b1, p1⟩
  have HF : Hid (GivesR w w1 (.returned (.slice a1 n1 c1)) (fun R => form 1 R ∧ ∀ n, mem R n ↔ ∃ s, s ∈ X ∧ mem s.L n)) := ⟨a1, n1, c1, R, rfl, S1, b1, p1.1, fun x => (p1.2 x).trans (kept_any X x)⟩
  clear S1 b1 p1
  go_wp2_with fail
  go_ret
  exact HF.out
theorem refUnion_any (ao bo : Option Addr) (n cap m cap' : Nat) (A B : List Rn) (w : World) (hS : RSrc w ao n cap A) (hR : RSrc w bo m cap' B) (hn : n + m ≤ 8589934592) :
    Calls Try.prog 37 #[.slice (some ⟨w.heap.size, 0, none⟩) 2 2] (w.alloc (.cells #[.slice ao n cap, .slice bo m cap'] 22)) fun e w' => GivesR w w' e (UnionOf A B) := by
  have HB := below_new w (.cells #[.slice ao n cap, .slice bo m cap'] 22)
  refine (refUnionN_any _ 2 2 (T2 ao bo n cap m cap' A B) _ (csrc2 w ao bo n cap m cap' A B hS hR 22) (by omega) (by simp [T2, tot]; omega)).mono ?_
  rintro e w1 ⟨a1, n1, c1, R, rfl, S1, b1, p1⟩
  refine ⟨a1, n1, c1, R, rfl, S1, HB.trans (b1.mono HB.size), p1.1, fun x => ?_⟩
  rw [p1.2 x]
  constructor
  · rintro ⟨s, hs, h⟩
    simp only [T2, List.mem_cons, List.not_mem_nil, or_false] at hs
    rcases hs with rfl | rfl
    · exact Or.inl h
    · exact Or.inr h
  · rintro (h | h)
    · exact ⟨⟨ao, n, cap, A⟩, by simp [T2], h⟩
    · exact ⟨⟨bo, m, cap', B⟩, by simp [T2], h⟩
theorem union2_any (ao bo : Option Addr) (n cap m cap' : Nat) (A B : List Rn) (w : World) (hS : RSrc w ao n cap A) (hR : RSrc w bo m cap' B) (hlen : n + m ≤ 8796093022207) :
    Calls Try.prog 40 #[.slice (some ⟨w.heap.size, 0, none⟩) 2 2] (w.alloc (.cells #[.slice ao n cap, .slice bo m cap'] 22)) fun e w' => GivesR w w' e (UnionOf A B) := by
  have HB := below_new w (.cells #[.slice ao n cap, .slice bo m cap'] 22)
  refine (union_any w.heap.size ao bo n cap m cap' A B _ (hS.below HB) (hR.below HB) (by simp) (by simp) hlen).mono ?_
  rintro e w1 ⟨a1, n1, c1, R, rfl, S1, b1, p1⟩
  exact ⟨a1, n1, c1, R, rfl, S1, HB.trans (b1.mono HB.size), p1⟩
theorem UnionOf.unique {a b R R' : List Rn} (h : UnionOf a b R) (h' : UnionOf a b R') : R = R' := form_unique (Int.le_refl _) h.1 h'.1 (fun n => (h.2 n).trans (h'.2 n).symm)
theorem MeetOf.unique {a b R R' : List Rn} (h : MeetOf a b R) (h' : MeetOf a b R') : R = R' := form_unique (Int.le_refl _) h.1 h'.1 (fun n => (h.2 n).trans (h'.2 n).symm)
end Go.Proofs.Ytclmgkjmimondaa
