/- MailParts, of arguments. -/
import Derived.Test.YtcpaaegbjcbnaaaNPa
import Derived.Test.YtcpaaegbjcbnaaaNVm
namespace Go.Proofs.Ytcpaaegbjcbnaaa
theorem mailParts_at (a b c d e : Int) (po : Option Addr) (pn pc : Nat) (X : List Pt) (Y : List (List Int)) (q : Int) (w : World) (A : MA w a b c d e po pn pc X Y) :
    Calls Try.prog 8 #[MV ⟨a, b, c, d, e, po, pn, pc⟩, .int .i64 q] w fun r w' => r = .returned (.bool true) ∧ RowKit.Below w.heap.size w w' := mailParts_any a b c d e po pn pc X Y q w A
end Go.Proofs.Ytcpaaegbjcbnaaa
