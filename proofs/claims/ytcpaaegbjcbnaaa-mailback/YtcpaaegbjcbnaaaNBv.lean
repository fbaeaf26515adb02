/- MailBack, of an argument. -/
import Derived.Test.YtcpaaegbjcbnaaaNBk
import Derived.Test.YtcpaaegbjcbnaaaNVb
namespace Go.Proofs.Ytcpaaegbjcbnaaa
theorem mailBack_at (ao : Option Addr) (n cp : Nat) (Z : List Int) (w : World) (S : BSO w ao n cp Z) : Calls Try.prog 6 #[.slice ao n cp] w fun r w' =>
    r = .returned (.bool true) ∧ RowKit.Below w.heap.size w w' := mailBack_any ao n cp Z w S.src S.cap S.big
end Go.Proofs.Ytcpaaegbjcbnaaa
