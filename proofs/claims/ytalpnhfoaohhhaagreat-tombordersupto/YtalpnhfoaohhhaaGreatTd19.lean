/- PHa LPick LOf OPa -/
import Derived.Test.YtalpnhfoaohhhaaGreatTd03
import Derived.Test.YtalpnhfoaohhhaaGreatTd16
import Derived.Test.YtalpnhfoaohhhaaGreatTd08
import Derived.Test.YtalpnhfoaohhhaaGreatTd18
import Derived.Test.YtalpnhfoaohhhaaGreatTd11
namespace Go.Proofs.YtalpnhfoaohhhaaGreat
open Go.RowKit
attribute [local go_sem ↓] ldP_eq stP_eq ldD_eq stD_eq ldS_eq stS_eq
attribute [local go_sem] zero_PC cells_PV fold_PC PC_size cells_RV RC_size cells_SV SC_size
def inSp (d : Rn) (c : Sn) : Bool := decide (c.rep = d.lo) && (decide (c.lo <= d.hi) && decide (d.hi <= c.hi))
def encSn (s : Sn) : List Value := (SC s).toList
end Go.Proofs.YtalpnhfoaohhhaaGreat
namespace Go.Proofs.YtalpnhfoaohhhaaGreat.K
section
open Go.RowKit
attribute [local go_sem ↓] ld28_eq st28_eq
attribute [local go_sem] zero_EC cells_EV EC_size
attribute [local go_sem] fold_EC
end
section
open Go.RowKit

def eqS (a b : ByteArray) : Bool := a.toList == b.toList
def GivesEE (w w' : World) (x : Ending) (L : List En) (er : Int) : Prop := ∃ ao n c, x = .returned (.tuple #[.slice ao n c, .int .i64 er]) /\ ESrc w' ao n c L /\ Below w.heap.size w w' /\ ∀ ad, ao = some ad -> w.heap.size <= ad.block
def ofE (L : List En) (s : ByteArray) : Int := if chk L = 0 then (if good s.data.toList = true then 0 else 5) else 1
def ofV (L : List En) (s : ByteArray) : List En := if ofE L s = 0 then L.filter (fun e => eqS e.sku s) else []
def owE (L : List En) (r : Int) (s : ByteArray) : Int := if chk L = 0 then (if isR r = true then (if good s.data.toList = true then 0 else 5) else 3) else 1
def owV (L : List En) (r : Int) (s : ByteArray) : List En := if owE L r s = 0 then L.filter (fun e => e.rep == r && eqS e.sku s) else []

end
end Go.Proofs.YtalpnhfoaohhhaaGreat.K
namespace Go.Proofs.YtalpnhfoaohhhaaGreat
open Go.RowKit
attribute [local go_sem ↓] ldP_eq stP_eq ldD_eq stD_eq
attribute [local go_sem] cells_PV PC_size
variable {w w' w2 W W' : World} {g : Nat}

def Ahd (x y : Sn) : Prop := x.rep < y.rep ∨ (x.rep = y.rep /\ x.hi < y.lo)
def inB (P : Pst) (e : K.En) : Bool := decide (0 <= e.rep) && (decide (e.rep < 16) && (decide (1 <= e.num) && (decide (e.num <= 1000000000) && (decide (e.num <= P.vec.getD e.rep.toNat 0) || P.cloud.any (fun c => decide (c.rep = e.rep) && (decide (c.lo <= e.num) && decide (e.num <= c.hi)))))))
def pkB (P : Pst) (ins : Bool) (e : K.En) : Bool := inB P e == ins
def PtA (w w' : World) (x : Ending) (L : List K.En) (P : Pst) (ins : Bool) : Prop := (K.chk L = 0 /\ InForm P /\ K.GivesEE w w' x (L.filter (pkB P ins)) 0) ∨ (¬ (K.chk L = 0 /\ InForm P) /\ K.GivesEE w w' x [] 1)
end Go.Proofs.YtalpnhfoaohhhaaGreat
