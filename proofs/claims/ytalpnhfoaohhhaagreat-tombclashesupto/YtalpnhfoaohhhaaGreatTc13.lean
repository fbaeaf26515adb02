/- GIn -/
import Derived.Test.YtalpnhfoaohhhaaGreatTc10
import Derived.Test.YtalpnhfoaohhhaaGreatTc11
import Derived.Test.YtalpnhfoaohhhaaGreatTc12
namespace Go.Proofs.YtalpnhfoaohhhaaGreat
open Go.RowKit
attribute [local go_sem ↓] ldP_eq stP_eq
attribute [local go_sem] zero_PC cells_PV fold_PC PC_size
theorem canon_self {P Q : Pst} (h : CanonOf (runsAt P) Q) : P = Q ↔ InForm P := by
 constructor
 ·intro e; subst e; exact canon_iff.1 h
 ·intro k; exact CanonOf.unique (canon_iff.2 k) h (fun _ _ _ => Iff.rfl)
end Go.Proofs.YtalpnhfoaohhhaaGreat
