/- MailThere, of arguments. -/
import Derived.Test.YtcpaaegbjcbnaaaNTh
import Derived.Test.YtcpaaegbjcbnaaaNVm
namespace Go.Proofs.Ytcpaaegbjcbnaaa
theorem mailThere_at (a b c d e : Int) (po : Option Addr) (pn pc : Nat) (X : List Pt) (Y : List (List Int)) (mo : Option Addr) (mn mc : Nat) (M : List Int) (w : World) (A : MA w a b c d e po pn pc X Y) (S : B1 w mo mn mc M) :
    Calls Try.prog 5 #[MV ⟨a, b, c, d, e, po, pn, pc⟩, .slice mo mn mc] w fun r w' => r = .returned (.bool true) ∧ RowKit.Below w.heap.size w w' := mailThere_any a b c d e po pn pc X Y mo mn mc M w A S.s S.big
end Go.Proofs.Ytcpaaegbjcbnaaa
