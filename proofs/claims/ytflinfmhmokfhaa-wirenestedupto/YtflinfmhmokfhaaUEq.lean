/- Gots compared. -/
import Derived.Test.YtflinfmhmokfhaaUGo
import Derived.Laws.StructEq
namespace Go.Proofs.Ytflinfmhmokfhaa
open Go.RowKit

theorem run_eqG (x : Got) (w : World) : (Op.equalIn 10000 29 (.agg (GC x)) (.agg (GC x))).run Try.prog w = .ok true w := by
  have u3 := Try.underlying3
  have a3 := Try.isAgg3
  have z3 := Try.sizeOf3
  have a4 := Try.isAgg4
  have z4 := Try.sizeOf4
  have a9 := Try.isAgg9
  have z9 := Try.sizeOf9
  have hS : Try.prog.underlying 29 = some (.struct (Try.prog.fieldsOf 29)) := by kernel_rfl
  have hp : Try.prog.stoodInHeld 29 = false := by kernel_rfl
  obtain ⟨a, b, s⟩ := x
  show (Op.equalIn 10000 29 (.agg #[.int .i64 a, .bool b, .string s]) (.agg #[.int .i64 a, .bool b, .string s])).run Try.prog w = _
  rw [show (10000 : Nat) = 9999 + 1 from rfl, run_equalIn_struct w 9999 29 _ _ hS hp]
  simp only [Program.fieldsOf, Try.underlying29]
  have h3 : ∀ (p : Int) w, (Op.equalIn 9999 3 (.int .i64 p) (.int .i64 p)).run Try.prog w = .ok true w := fun p w => by
    rw [run_equalIn_int w 9998 3 .i64 .i64 p p Try.underlying3]; simp
  have h4 : ∀ (p : Bool) w, (Op.equalIn 9999 4 (.bool p) (.bool p)).run Try.prog w = .ok true w := fun p w => by
    rw [run_equalIn_bool w 9998 4 p p Try.underlying4]; simp
  have h9 : ∀ (p : ByteArray) w, (Op.equalIn 9999 9 (.string p) (.string p)).run Try.prog w = .ok true w := fun p w => by
    rw [run_equalIn_string w 9998 9 p p Try.underlying9]; simp
  obtain ⟨D, hD⟩ : ∃ D, 9999 = D := ⟨9999, rfl⟩
  rw [hD] at h3 h4 h9 ⊢
  go_simp
theorem run_neG (x : Got) (w : World) : (binOp .neq 29 (.agg (GC x)) (.agg (GC x))).run Try.prog w = .ok (.bool false) w := by
  rw [run_neq_struct, run_eqG]
  rfl
theorem run_egG (x : Got) (o p : Operand) (w : World) : (eqGuard .neq 29 o p (.agg (GC x)) (.agg (GC x))).run Try.prog w = .ok () w := run_eqGuard_agg w .neq 29 o p _ _ (by kernel_rfl)
end Go.Proofs.Ytflinfmhmokfhaa
