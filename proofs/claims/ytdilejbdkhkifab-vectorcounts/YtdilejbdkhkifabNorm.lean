/- Norm, Sum, IsNorm, and the reference's: their contracts. -/
import Derived.Test.YtdilejbdkhkifabList
import Derived.Test.YtdilejbdkhkifabSum
import Derived.Test.YtdilejbdkhkifabEq
namespace Go.Proofs.Ytdilejbdkhkifab
open Go.RowKit
attribute [local go_sem ↓] ld56_eq st56_eq
attribute [local go_sem] zeros_VC cells_VA

theorem Gives.on {w w1 w' : World} {e : Ending} {Z : List Int} (h : Gives w1 w' e Z) (hb : Below w.heap.size w w1) : Gives w w' e Z := by
  obtain ⟨ao, n, c, he, S, b⟩ := h
  exact ⟨ao, n, c, he, S, hb.trans (b.mono hb.size)⟩
theorem below_on2 {a b c : World} (h1 : Below a.heap.size a b) (h2 : Below b.heap.size b c) : Below a.heap.size a c := h1.trans (h2.mono h1.size)
theorem bd_at (Z : List Int) : Bd (at' Z) := fun r _ => at'_bd Z r

theorem norm_any (ao : Option Addr) (n cap : Nat) (Z : List Int) (w : World) (hS : Src w ao n cap Z) :
    Calls Try.prog 14 #[.slice ao n cap] w fun e w' => Gives w w' e (short (at' Z)) := by
  have HS := hide hS
  clear hS
  go_enter Try.func14, Try.ntmps14
  go_wp2_with fail
  refine (meant_any ao n cap Z _ HS.out).mono ?_
  rintro e w1 ⟨rfl, b1⟩
  go_wp2_with fail
  refine (list_any (at' Z) _).mono ?_
  rintro e w2 ⟨ao2, n2, c2, rfl, S2, b2⟩
  have B := hide (below_on2 b1 b2)
  have S := hide S2
  clear b1 b2 S2
  go_wp2_with fail
  go_ret
  exact ⟨_, _, _, rfl, S.out, B.out⟩

theorem vsum_any (ao : Option Addr) (n cap : Nat) (Z : List Int) (w : World) (hS : Src w ao n cap Z) :
    Calls Try.prog 11 #[.slice ao n cap] w fun e w' => e = .returned (.int .i64 (sumN (at' Z) 16)) ∧ Below w.heap.size w w' := by
  have HS := hide hS
  clear hS
  go_enter Try.func11, Try.ntmps11
  go_wp2_with fail
  refine (meant_any ao n cap Z _ HS.out).mono ?_
  rintro e w1 ⟨rfl, b1⟩
  go_wp2_with fail
  refine (sum_any (at' Z) _ (bd_at Z)).mono ?_
  rintro e w2 ⟨rfl, b2⟩
  have B := hide (below_on2 b1 b2)
  clear b1 b2
  go_wp2_with fail
  go_ret
  exact ⟨rfl, B.out⟩

end Go.Proofs.Ytdilejbdkhkifab
