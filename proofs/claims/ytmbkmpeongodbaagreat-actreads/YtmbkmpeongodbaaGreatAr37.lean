/- EFa -/
import Derived.Test.YtmbkmpeongodbaaGreatAr24
import Derived.Test.YtmbkmpeongodbaaGreatAr29
import Derived.Test.YtmbkmpeongodbaaGreatAr11
import Derived.Deep.CutRange
namespace Go.Proofs.YtmbkmpeongodbaaGreat
open Go.RowKit
attribute [local go_sem ↓] ldP_eq stP_eq ldRe_eq stRe_eq ldD_eq stD_eq K.ld28_eq K.st28_eq K.run_eq28
attribute [local go_sem] cells_PV PC_size cells_ReV ReC_size K.cells_EV K.EC_size zero_ReC K.zero_EC
end Go.Proofs.YtmbkmpeongodbaaGreat

