/- QCo -/
import Derived.Test.YtjffpimfngdggaaGreatFe29
import Derived.Test.YtjffpimfngdggaaGreatFe00
import Derived.Deep.CutRange
namespace Go.Proofs.YtjffpimfngdggaaGreat
open Go.RowKit

def Je (w w':World) (e:Ending) (k:Int) (a b:List Rn):Prop:=∃ ao n c X,e = .returned (.slice ao n c)/\V.Src w' ao n c (tn X)/\(∀ ad,ao=some ad -> w.heap.size <= ad.block)/\Below w.heap.size w w'/\nI k a b X
end Go.Proofs.YtjffpimfngdggaaGreat
