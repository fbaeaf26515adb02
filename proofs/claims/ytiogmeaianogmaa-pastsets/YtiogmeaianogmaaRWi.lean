/- Within: its contract. -/
import Derived.Test.YtiogmeaianogmaaROs
namespace Go.Proofs.Ytiogmeaianogmaa
open Go.RowKit
attribute [local go_sem ↓] ldR_eq stR_eq
attribute [local go_sem] zero_RC cells_RV RC_size fold_RC build_RC

/-- is all of A in B? -/
def Wth (A B : List Rn) (b : Bool) : Prop := b = true ↔ ∀ n, mem A n → mem B n
theorem minus_nil {A B R : List Rn} (h : MinusOf A B R) : R.length = 0 ↔ ∀ n, mem A n → mem B n := by
  constructor
  · intro e n ha
    have : R = [] := List.eq_nil_of_length_eq_zero e
    subst this
    exact Classical.byContradiction fun hb => mem_nil n ((h.2 n).2 ⟨ha, hb⟩)
  · intro e
    have : R = [] := form_empty (Int.le_refl _) h.1 (fun n hn => by have := (h.2 n).1 hn; exact this.2 (e n this.1))
    rw [this]; rfl
theorem within_any (ao bo : Option Addr) (n cap m cap' : Nat) (A B : List Rn) (w : World) (hS : RSrc w ao n cap A) (hR : RSrc w bo m cap' B) :
    Calls Try.prog 43 #[.slice ao n cap, .slice bo m cap'] w fun e w' => ∃ b, e = .returned (.bool b) ∧ Wth A B b ∧ Below w.heap.size w w' := by
  have HS := hide hS
  have HR := hide hR
  clear hS hR
  go_enter Try.func43, Try.ntmps43
  go_wp2_with fail
  refine (minus_any ao bo n cap m cap' A B _ HS.out HR.out).mono ?_
  rintro e w1 ⟨a1, n1, c1, R, rfl, S1, b1, p1⟩
  have HN := hide (minus_nil p1)
  rw [S1.len] at HN
  have HB1 := hide b1
  clear S1 b1 p1
  go_wp2_with fail
  go_ret
  refine ⟨_, rfl, ?_, HB1.out⟩
  unfold Wth
  rw [← HN.out]
  simp
end Go.Proofs.Ytiogmeaianogmaa
