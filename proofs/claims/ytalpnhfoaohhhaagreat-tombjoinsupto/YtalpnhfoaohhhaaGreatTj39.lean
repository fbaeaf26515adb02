/- TRb TLs -/
import Derived.Test.YtalpnhfoaohhhaaGreatTj26
import Derived.Deep.CutRange
import Derived.Test.YtalpnhfoaohhhaaGreatTj38
import Derived.Test.YtalpnhfoaohhhaaGreatTj18
namespace Go.Proofs.YtalpnhfoaohhhaaGreat
section
open Go.RowKit
attribute [local go_sem ↓] ldRe_eq stRe_eq
attribute [local go_sem] cells_ReV ReC_size zero_ReC
variable {w w' w2 W W' : World} {g : Nat}

def rcC (s d : Rc) : Int := ck (rck s) (rck d)
def FirstC (L : List Rc) (d : Rc) (n i : Nat) : Prop := i <= n /\ (∀ j, j < i -> rcC (L.getD j rc0) d < 0) /\ (i < n -> 0 <= rcC (L.getD i rc0) d)
def BsC (w w' : World) (e : Ending) (L : List Rc) (d : Rc) (n : Nat) : Prop := ∃ (i : Nat) (b : Bool), e = .returned (.tuple #[.int .i64 (i : Int), .bool b]) /\ FirstC L d n i /\ (b = true ↔ i < n /\ rcC (L.getD i rc0) d = 0) /\ Below w.heap.size w w'
end
section
open Go.RowKit Go.Maps Go.Sort
def notIn (M : List K.En) (e : K.En) : Bool := !M.any (fun y => K.eqE y e)
attribute [local go_sem ↓] ldFa_eq stFa_eq ldD_eq stD_eq K.ld28_eq K.st28_eq ldRe_eq stRe_eq ldP_eq stP_eq bldR_eq
attribute [local go_sem] cells_FaV FaC_size cells_RV RC_size zero_RC fold_RC K.zero_EC K.cells_EV K.EC_size K.fold_EC cells_ReV ReC_size zero_ReC cells_PV PC_size
def notR (M : List Rc) (y : Rp) : Prop := y ∉ plR M
def LrOf (L M F : List Rc) : Prop := Srt ck (plR F) /\ (∀ r ∈ F, RecOk r) /\ ∀ y, y ∈ plR F ↔ y ∈ plR L /\ y ∉ plR M
structure LrI (L M : List Rc) (k : Nat) (D : List Rc) : Prop where
 ok : ∀ r ∈ D, RecOk r
 sub : (plR D).Sublist (plR (L.take k))
 all : ∀ y, y ∈ plR D ↔ y ∈ plR (L.take k) /\ y ∉ plR M
end
end Go.Proofs.YtalpnhfoaohhhaaGreat
