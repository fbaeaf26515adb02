/- PoolAnswers: its contract at what a script opens to. -/
import Derived.Test.YthagachlilnjpaaXPb
import Derived.Test.YthagachlilnjpaaXCv
namespace Go.Proofs.Ythagachlilnjpaa
theorem poolAnswers_at (ao : Option Addr) (m c : Nat) (x : List Opr × (Nat → List Int)) (w0 : World) (S : OSrc w0 ao m c x.1 x.2) : Calls Try.prog 3 #[.slice ao m c] w0 fun r w' => r = .returned (.bool true) ∧ RowKit.Below w0.heap.size w0 w' := poolAnswers_any ao m c x.1 x.2 w0 S
end Go.Proofs.Ythagachlilnjpaa
