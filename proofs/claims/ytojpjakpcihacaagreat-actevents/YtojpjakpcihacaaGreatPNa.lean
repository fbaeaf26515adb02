/- The cloud of a past in form: each span behind the one ahead; plain. -/
import Derived.Test.YtojpjakpcihacaaGreatPPl
namespace Go.Proofs.YtojpjakpcihacaaGreat
open Go.RowKit

/-- the span c may stand behind the span a -/
structure StepOk (Z : List Int) (a c : Sn) : Prop where
  isr : V.isR c.rep = true
  rep : a.rep ≤ c.rep
  lead : V.atI Z c.rep + 2 ≤ c.lo
  gap : c.rep = a.rep → a.hi + 2 ≤ c.lo
  ord : c.lo ≤ c.hi
  top : c.hi ≤ 1000000000
def chain (Z : List Int) : Sn → List Sn → Prop
  | _, [] => True
  | a, c :: t => StepOk Z a c ∧ chain Z c t
def lastS : Sn → List Sn → Sn
  | a, [] => a
  | _, c :: t => lastS c t
theorem lastS_append (a : Sn) (L M : List Sn) : lastS a (L ++ M) = lastS (lastS a L) M := by
  induction L generalizing a with
  | nil => rfl
  | cons c t ih => exact ih c
theorem lastS_snoc (a c : Sn) (L : List Sn) : lastS a (L ++ [c]) = c := by rw [lastS_append]; rfl
theorem chain_append (Z : List Int) (a : Sn) (L M : List Sn) : chain Z a (L ++ M) ↔ chain Z a L ∧ chain Z (lastS a L) M := by
  induction L generalizing a with
  | nil => simp [chain, lastS]
  | cons c t ih =>
    show StepOk Z a c ∧ chain Z c (t ++ M) ↔ (StepOk Z a c ∧ chain Z c t) ∧ chain Z (lastS c t) M
    rw [ih c, and_assoc]
theorem chain_snoc (Z : List Int) (a c : Sn) (L : List Sn) : chain Z a (L ++ [c]) ↔ chain Z a L ∧ StepOk Z (lastS a L) c := by
  rw [chain_append]
  simp [chain]
end Go.Proofs.YtojpjakpcihacaaGreat
