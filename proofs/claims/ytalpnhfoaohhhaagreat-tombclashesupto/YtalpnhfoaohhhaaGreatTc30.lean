/- GKr GKs BRr -/
import Derived.Test.YtalpnhfoaohhhaaGreatTc20
import Derived.Test.YtalpnhfoaohhhaaGreatTc13
import Derived.Test.YtalpnhfoaohhhaaGreatTc28
import Derived.Test.YtalpnhfoaohhhaaGreatTc29
import Derived.Test.YtalpnhfoaohhhaaGreatTc15
import Derived.Laws.Cover1
namespace Go.Proofs.YtalpnhfoaohhhaaGreat
open Go.RowKit
attribute [local go_sem ↓] ldP_eq stP_eq ldRe_eq stRe_eq
attribute [local go_sem] cells_PV PC_size cells_ReV ReC_size
end Go.Proofs.YtalpnhfoaohhhaaGreat
namespace Go.Proofs.YtalpnhfoaohhhaaGreat
open Go.RowKit
attribute [local go_sem ↓] ldP_eq stP_eq ldRe_eq stRe_eq
attribute [local go_sem] cells_PV PC_size cells_ReV ReC_size zero_ReC
end Go.Proofs.YtalpnhfoaohhhaaGreat
namespace Go.Proofs.YtalpnhfoaohhhaaGreat
open Go.RowKit
attribute [local go_sem ↓] ldP_eq stP_eq ldRe_eq stRe_eq
attribute [local go_sem] cells_PV PC_size cells_ReV ReC_size zero_ReC
end Go.Proofs.YtalpnhfoaohhhaaGreat
