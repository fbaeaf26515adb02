/- dlog's between, New, Next, First. -/
import Derived.Test.YtgnclfeicgbjpaaDKit
namespace Go.Proofs.Ytgnclfeicgbjpaa
open Go.RowKit
variable {B : Nat} {w w' : World} {g : Nat} {m nx : Int} {Z : List Int} {ao : Option Addr} {cap : Nat}

def btw (n a b : Int) : Int := min (max n a) b
theorem between_any (n a b : Int) (w : World) : Calls Try.prog 17 #[.int .i64 n, .int .i64 a, .int .i64 b] w fun e w' => e = .returned (.int .i64 (btw n a b)) ∧ w' = w := by
  go_enter Try.func17, Try.ntmps17
  go_wp2
  all_goals (go_ret; exact ⟨ret_int (by unfold btw; omega), rfl⟩)
theorem next_any (w : World) (L : Lg B w g m nx Z ao cap) : Calls Try.prog 12 #[ptr g] w fun e w' => e = .returned (.int .i64 nx) ∧ w' = w := by
  have c1 := L.c1
  go_enter Try.func12, Try.ntmps12
  go_wp2
  go_ret
  exact ⟨rfl, rfl⟩
/-- the numbers stay in bounds -/
structure Bd (m nx : Int) (Z : List Int) : Prop where
  m0 : 0 ≤ m
  m1 : m ≤ 64
  n0 : (Z.length : Int) ≤ nx
  n1 : nx ≤ 9000000000000000000
  l : Z.length ≤ 65
theorem first_any (w : World) (L : Lg B w g m nx Z ao cap) (D : Bd m nx Z) : Calls Try.prog 10 #[ptr g] w fun e w' => e = .returned (.int .i64 (nx - Z.length)) ∧ ∃ n, w' = w.drewN n := by
  have HW : Hid (wrap64 (nx - Z.length) = nx - Z.length) := by have h1 := D.n0; have h2 := D.n1; exact w64 (by omega) (by omega)
  have c1 := L.c1
  have c2 := L.c2
  clear L D
  go_enter Try.func10, Try.ntmps10
  go_wp2_with fail
  go_quiet (fail)
  rw [HW.out]
  go_wp2_with fail
  go_ret
  exact ⟨rfl, _, rfl⟩
theorem Lg.drewN (L : Lg B w g m nx Z ao cap) (n : Nat) : Lg B (w.drewN n) g m nx Z ao cap := L.below (below_drewN w n)
end Go.Proofs.Ytgnclfeicgbjpaa
