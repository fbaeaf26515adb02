/- QRy QRv QCp -/
import Derived.Test.YtalpnhfoaohhhaaGreatTc10
import Derived.Test.YtalpnhfoaohhhaaGreatTc14
import Derived.Test.YtalpnhfoaohhhaaGreatTc11
namespace Go.Proofs.YtalpnhfoaohhhaaGreat
open Go.RowKit
attribute [local go_sem ↓] ldP_eq stP_eq ldJ_eq stJ_eq
attribute [local go_sem] zeros_JA cells_JAv zero_PC cells_PV fold_PC PC_size fold_PC1
def szn (N : Nat → List Rn) : Nat → Int
 | 0 => 0
 | k + 1 => szn N k + sz (N k)
end Go.Proofs.YtalpnhfoaohhhaaGreat
namespace Go.Proofs.YtalpnhfoaohhhaaGreat
open Go.RowKit
attribute [local go_sem ↓] ldP_eq stP_eq ldJ_eq stJ_eq
attribute [local go_sem] zeros_JA cells_JAv zero_PC cells_PV fold_PC PC_size fold_PC1
end Go.Proofs.YtalpnhfoaohhhaaGreat
namespace Go.Proofs.YtalpnhfoaohhhaaGreat

end Go.Proofs.YtalpnhfoaohhhaaGreat
