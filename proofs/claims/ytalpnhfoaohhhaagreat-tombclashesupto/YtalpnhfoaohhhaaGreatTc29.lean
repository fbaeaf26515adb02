/- QRc -/
import Derived.Test.YtalpnhfoaohhhaaGreatTc10
import Derived.Test.YtalpnhfoaohhhaaGreatTc28
import Derived.Test.YtalpnhfoaohhhaaGreatTc18
import Derived.Deep.CutRange
namespace Go.Proofs.YtalpnhfoaohhhaaGreat
open Go.RowKit
attribute [local go_sem ↓] ldP_eq stP_eq ldS_eq stS_eq
attribute [local go_sem] zero_PC cells_PV fold_PC PC_size fold_PC1 zero_SC cells_SV fold_SC SC_size
def CmpV (P Q : Pst) (z : Int) : Prop := ∃ X Y, CanonOf (runsAt P) X ∧ CanonOf (runsAt Q) Y ∧ z = cmpP X Y
end Go.Proofs.YtalpnhfoaohhhaaGreat
