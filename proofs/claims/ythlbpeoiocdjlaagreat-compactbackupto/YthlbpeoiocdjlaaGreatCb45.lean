import Derived.Test.YthlbpeoiocdjlaaGreatCb40
import Derived.Test.YthlbpeoiocdjlaaGreatCb44
import Derived.Test.YthlbpeoiocdjlaaGreatCb43
namespace Go.Proofs.YthlbpeoiocdjlaaGreat
open Go.RowKit
theorem SwB.offW {N:Nat} {W:World} {g:Nat} {m:FacV} {f:Fc} (h:SwB N W f) (A:SwBox W g m) (c:Array Value):SwB N (W.setRow g c) f:=⟨h.ok.offW A c,h.row,h.rn,h.an,h.cl⟩
theorem HF_chk {w:World} {f:Fc} (h:FcOk w f) (ff:FormF f):K.chk f.es=0:=(chk_okS h.es.1).2 ff.1
attribute [local go_sem ↓] ldFa_eq stFa_eq ldSw_eq stSw_eq
attribute [local go_sem] cells_FaV FaC_size zero_FaZ cells_CzV CzC_size
end Go.Proofs.YthlbpeoiocdjlaaGreat
