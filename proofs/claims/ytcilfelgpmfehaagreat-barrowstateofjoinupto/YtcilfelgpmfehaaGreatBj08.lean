/- GIn -/
import Derived.Test.YtcilfelgpmfehaaGreatBj05
import Derived.Test.YtcilfelgpmfehaaGreatBj07
namespace Go.Proofs.YtcilfelgpmfehaaGreat
open Go.RowKit
attribute [local go_sem ↓] zl zk
attribute [local go_sem] zw zf zW zh
theorem zcp {P Q:Pst} (h:ae (aa P) Q):P=Q↔af P:=by
 constructor
 ·intro e;subst e;exact zz.1 h
 ·intro k;exact ae.unique (zz.2 k) h (fun _ _ _=>Iff.rfl)
end Go.Proofs.YtcilfelgpmfehaaGreat
