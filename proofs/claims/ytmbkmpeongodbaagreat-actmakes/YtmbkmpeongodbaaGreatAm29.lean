/- EHo -/
import Derived.Test.YtmbkmpeongodbaaGreatAm28
namespace Go.Proofs.YtmbkmpeongodbaaGreat
open Go.RowKit
attribute [local go_sem ↓] ldP_eq stP_eq ldD_eq stD_eq K.ld28_eq K.st28_eq K.run_eq28
attribute [local go_sem] cells_PV PC_size K.cells_EV K.EC_size K.zero_EC
def noS (L : List K.En) (s : ByteArray) : List K.En := L.filter (fun e => !K.eqS e.sku s)
def kpB (s : ByteArray) (P : Pst) (e : K.En) : Bool := (decide (s.size = 0) || (e.sku.toList == s.toList)) && inB P e
def ktL (L : List K.En) (s : ByteArray) (P : Pst) : List K.En := L.filter (fun e => !kpB s P e)
end Go.Proofs.YtmbkmpeongodbaaGreat
