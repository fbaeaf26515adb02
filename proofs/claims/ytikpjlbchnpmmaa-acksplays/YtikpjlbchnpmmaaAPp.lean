/- AcksPlays: the law's walk. -/
import Derived.Test.YtikpjlbchnpmmaaAPz
import Derived.Test.YtikpjlbchnpmmaaAHd
import Derived.Test.YtikpjlbchnpmmaaAPw
namespace Go.Proofs.Ytikpjlbchnpmmaa
open Go.RowKit
variable {w w' w0 : World} {g : Nat} {qs : Nat → Qp} {N : Nat} {k b : Nat} {o : Sp}

theorem play_any (Q : QI w0 w g qs N) (I : InvA qs) (hk : k < 4) (hN : N + 1 ≤ 8796093022206) (o : Sp) (f : Nat) (hf : k * 4 = f) :
    Calls Try.prog 8 #[.pointer (some ⟨g, f, none⟩), SV o] w fun e w' => Plays w0 g N e w' := by
  by_cases h1 : o.kind = 1
  · exact play_new Q I hk o h1 f hf
  by_cases h2 : o.kind = 2
  · exact play_heard Q I hk hN o h2 f hf
  by_cases h3 : o.kind = 3
  · exact play_of Q I hk o h3 f hf
  by_cases h4 : o.kind = 4
  · exact play_plan Q I hk o h4 f hf
  by_cases h5 : o.kind = 5
  · exact play_least Q I hk o h5 f hf
  by_cases h6 : o.kind = 6
  · exact play_all Q I hk o h6 f hf
  by_cases h7 : o.kind = 7
  · exact play_reset Q I hk o h7 f hf
  exact play_other Q I hk o h1 h2 h3 h4 h5 h6 h7 f
end Go.Proofs.Ytikpjlbchnpmmaa
