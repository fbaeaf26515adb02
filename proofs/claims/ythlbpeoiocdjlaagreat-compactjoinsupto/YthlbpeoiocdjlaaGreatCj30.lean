/- QCo -/
import Derived.Test.YthlbpeoiocdjlaaGreatCj29
import Derived.Test.YthlbpeoiocdjlaaGreatCj00
import Derived.Deep.CutRange
namespace Go.Proofs.YthlbpeoiocdjlaaGreat
open Go.RowKit

def GivesC (w w':World) (e:Ending) (k:Int) (a b:List Rn):Prop:=∃ ao n c X,e = .returned (.slice ao n c)/\V.Src w' ao n c (tn X)/\(∀ ad,ao=some ad -> w.heap.size <= ad.block)/\Below w.heap.size w w'/\CombOf k a b X
end Go.Proofs.YthlbpeoiocdjlaaGreat
