/- Arrays of sixteen numbers compared by ==. -/
import Derived.Test.YtdilejbdkhkifaaNorm
namespace Go.Proofs.Ytdilejbdkhkifaa
open Go.RowKit

/-- the same numbers -/
def eqF (f g : Nat → Int) : Bool := (List.range 16).all fun r => f r == g r
theorem eqF_iff (f g : Nat → Int) : eqF f g = true ↔ ∀ r, r < 16 → f r = g r := by simp [eqF]
theorem part3 (f : Nat → Int) (i : Nat) (hi : i < 16) (w : World) : (part 3 (VC f) (i * 1)).run Try.prog w = .ok (.int .i64 (f i)) w := by
  have hagg : (isAgg 3).run Try.prog w = .ok false w := by
    unfold isAgg
    rw [Sem.run_bind, run_underlying Try.underlying3 w]
    rfl
  have := VC_at f i hi
  simp [part, Sem.run_bind, hagg, this]
theorem size3' (w : World) : (sizeOf 3).run Try.prog w = .ok 1 w := by
  cases hq : Try.prog.info? 3 with
  | none => have := size3; simp [hq] at this
  | some x =>
    have hs : x.size = 1 := by have := size3; simpa [hq] using this
    simp [sizeOf, typeInfo, hq, hs]
theorem run_eq56 (f g : Nat → Int) (w : World) : (Op.equalIn 10000 56 (.agg (VC f)) (.agg (VC g))).run Try.prog w = .ok (eqF f g) w := by
  obtain ⟨D, hD⟩ : ∃ D, 9999 = D := ⟨9999, rfl⟩
  have hin : ∀ (a b : Int) (w : World), (Op.equalIn D 3 (.int .i64 a) (.int .i64 b)).run Try.prog w = .ok (a == b) w := fun a b w => by
    subst hD; exact run_equalIn_int w 9998 3 .i64 .i64 a b Try.underlying3
  show (Op.equalIn (9999 + 1) 56 (.agg (VC f)) (.agg (VC g))).run Try.prog w = _
  rw [hD]
  clear hD
  simp only [Op.equalIn, Sem.run_bind, run_underlying Try.underlying56, Result.andThen_ok, size3']
  rw [Std.Legacy.Range.forIn_eq_forIn_range']
  have hl : List.range' [:16].start [:16].size [:16].step = List.range 16 := by decide
  rw [hl]
  have hall : ∀ i ∈ List.range 16, i < 16 := by simp
  unfold eqF
  generalize List.range 16 = l at hall ⊢
  clear hl
  induction l generalizing w with
  | nil => simp
  | cons i l ih =>
    have h1 := fun w => part3 f i (hall i (by simp)) w
    have h2 := fun w => part3 g i (hall i (by simp)) w
    have ih' := ih w (fun j hj => hall j (by simp [hj]))
    simp only [List.forIn_cons, Sem.run_bind, h1, h2, hin, Result.andThen_ok, List.all_cons]
    cases f i == g i
    · simp
    · simp only [Bool.not_true, Bool.false_eq_true, if_false, Sem.run_pure, Result.andThen_ok, Bool.true_and]
      exact ih'
end Go.Proofs.Ytdilejbdkhkifaa
