/- The reference's once: its contract. -/
import Derived.Test.YtmhdhedjeaaciaaLDd
import Derived.Test.YtmhdhedjeaaciaaLSame
namespace Go.Proofs.Ytmhdhedjeaaciaa
open Go.RowKit
attribute [local go_sem ↓] ld28_eq st28_eq ld26_eq
attribute [local go_sem] zero_EC cells_EV EC_size fold_EC

theorem run_eqD (x y : En) (w : World) : (Op.equalIn 10000 38 (.agg (DC x)) (.agg (DC y))).run Try.prog w = .ok (sameDot x y) w := by
  have u3 := Try.underlying3
  have a3 := Try.isAgg3
  have z3 := Try.sizeOf3
  have hS : Try.prog.underlying 38 = some (.struct (Try.prog.fieldsOf 38)) := by kernel_rfl
  have hp : Try.prog.stoodInHeld 38 = false := by kernel_rfl
  obtain ⟨a, b, _, _⟩ := x
  obtain ⟨c, d, _, _⟩ := y
  show (Op.equalIn 10000 38 (.agg #[.int .i64 a, .int .i64 b]) (.agg #[.int .i64 c, .int .i64 d])).run Try.prog w = .ok (a == c && b == d) w
  rw [show (10000 : Nat) = 9999 + 1 from rfl, run_equalIn_struct w 9999 38 _ _ hS hp]
  simp only [Program.fieldsOf, Try.underlying38]
  go_simp
  by_cases h1 : a = c <;> by_cases h2 : b = d <;> simp [h1, h2]
attribute [local go_sem ↓] run_eq28 run_eqD
theorem eqE_iff (x y : En) : eqE x y = true ↔ x = y := by
  constructor
  · intro h
    obtain ⟨a, b, s, c⟩ := x
    obtain ⟨a', b', s', c'⟩ := y
    simp only [eqE, Bool.and_eq_true, beq_iff_eq] at h
    obtain ⟨⟨⟨rfl, rfl⟩, h3⟩, rfl⟩ := h
    have : s = s' := by
      rw [ByteArray.toList_eq, ByteArray.toList_eq] at h3
      cases s; cases s'; simp at h3; simp [h3]
    rw [this]
  · rintro rfl; exact eqE_self _
/-- a list and an error are handed back: the entries settled -/
def GivesT (w w' : World) (e : Ending) (L : List En) : Prop := ∃ ao n c R er, e = .returned (.tuple #[.slice ao n c, .int .i64 er]) ∧ ESrc w' ao n c R ∧ Below w.heap.size w w' ∧ (∀ ad, ao = some ad → w.heap.size ≤ ad.block) ∧ Settled L R er
end Go.Proofs.Ytmhdhedjeaaciaa
