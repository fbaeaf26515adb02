/- WireOneForm, of an argument. -/
import Derived.Test.YtgcaijfofcbblaaOFm
import Derived.Test.YtgcaijfofcbblaaVBo
namespace Go.Proofs.Ytgcaijfofcbblaa
theorem wireOneForm_at (ao : Option Addr) (n cp : Nat) (Z : List Int) (a : Int) (w : World) (S : BSO w ao n cp Z) (h1 : -9223372036854775808 ≤ a) (h2 : a ≤ 9223372036854775807) : Calls Try.prog 4 #[.slice ao n cp, .int .i64 a] w fun r w' =>
    r = .returned (.bool true) ∧ RowKit.Below w.heap.size w w' := wireOneForm_any ao n cp Z a w S.src S.cap S.big ⟨h1, h2⟩
end Go.Proofs.Ytgcaijfofcbblaa
