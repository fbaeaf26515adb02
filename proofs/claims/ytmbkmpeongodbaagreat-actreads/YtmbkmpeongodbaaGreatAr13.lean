/- GIn -/
import Derived.Test.YtmbkmpeongodbaaGreatAr10
import Derived.Test.YtmbkmpeongodbaaGreatAr11
import Derived.Test.YtmbkmpeongodbaaGreatAr12
namespace Go.Proofs.YtmbkmpeongodbaaGreat
open Go.RowKit
attribute [local go_sem ↓] ldP_eq stP_eq
attribute [local go_sem] zero_PC cells_PV fold_PC PC_size
end Go.Proofs.YtmbkmpeongodbaaGreat

