/- VectorDots: the law, for every input. -/
import Derived.Test.YtdilejbdkhkifaaDoF
import Derived.Test.YtdilejbdkhkifaaDoT
namespace Go.Proofs.Ytdilejbdkhkifaa
open Go.RowKit
theorem dots_row (ao : Option Addr) (n c : Nat) (X : List Int) (bo : Option Addr) (m d : Nat) (Y : List Int) (r q : Int) (w : World) (hX : Src w ao n c X) (_ : n ≤ maxLen) (hY : Src w bo m d Y) (_ : m ≤ maxLen) (_ : (Lit.int .i64 r).wf = true) (_ : (Lit.int .i64 q).wf = true) :
    Calls Try.prog 8 #[.slice ao n c, .slice bo m d, .agg #[.int .i64 r, .int .i64 q]] w fun e w' => e = .returned (.bool true) ∧ Below w.heap.size w w' := by
  cases hx : hasD X r q with
  | false => exact dots_f ao bo n c m d X Y r q w hX hY _ hx rfl
  | true => exact dots_t ao bo n c m d X Y r q w hX hY _ hx rfl
end Go.Proofs.Ytdilejbdkhkifaa
