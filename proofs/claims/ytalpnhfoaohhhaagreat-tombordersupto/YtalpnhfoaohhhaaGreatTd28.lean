/- LSrt -/
import Derived.Test.YtalpnhfoaohhhaaGreatTd27
import Derived.Deep.CutRange
import Derived.Deep.LoopGhost
namespace Go.Proofs.YtalpnhfoaohhhaaGreat.K
open Go.RowKit
attribute [local go_sem ↓] ld28_eq st28_eq
attribute [local go_sem] zero_EC cells_EV EC_size
attribute [local go_sem] fold_EC
def mk22 (a b : Value) : Sem Value := Instr.makeSlice 22 a b
theorem mk22_eq (a b : Value) : Instr.makeSlice 22 a b = mk22 a b := rfl
attribute [local go_sem ↓] mk22_eq
def InOrder (L R : List En) : Prop := R.Perm L /\ R.Pairwise (fun x y => leE x y = true)
def GivesS (w w' : World) (e : Ending) (L : List En) : Prop := ∃ R, InOrder L R /\ GivesE w w' e R
end Go.Proofs.YtalpnhfoaohhhaaGreat.K
