/- QSo -/
import Derived.Test.YtalpnhfoaohhhaaGreatTc00
import Derived.Test.YtalpnhfoaohhhaaGreatTc01
namespace Go.Proofs.YtalpnhfoaohhhaaGreat
open Go.RowKit
attribute [local go_sem ↓] V.mk22_eq
def GivesI (w w' : World) (e : Ending) (n : Nat) (P : List Int → Prop) : Prop := ∃ ao c L, e = .returned (.slice ao n c) ∧ V.Src w' ao n c L ∧ n ≤ c ∧ c ≤ maxLen ∧ (∀ ad, ao = some ad → w.heap.size ≤ ad.block) ∧ Below w.heap.size w w' ∧ P L
end Go.Proofs.YtalpnhfoaohhhaaGreat
