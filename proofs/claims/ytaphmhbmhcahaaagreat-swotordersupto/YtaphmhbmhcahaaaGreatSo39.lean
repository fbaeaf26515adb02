/- GRv SXh BEn BPl BCl BAp BLf -/
import Derived.Test.YtaphmhbmhcahaaaGreatSo38
import Derived.Test.YtaphmhbmhcahaaaGreatSo35
import Derived.Test.YtaphmhbmhcahaaaGreatSo36
import Derived.Test.YtaphmhbmhcahaaaGreatSo37
import Derived.Test.YtaphmhbmhcahaaaGreatSo09
import Derived.Deep.CutRange
import Derived.Test.YtaphmhbmhcahaaaGreatSo34
import Derived.Test.YtaphmhbmhcahaaaGreatSo21
import Derived.Test.YtaphmhbmhcahaaaGreatSo31
import Derived.Test.YtaphmhbmhcahaaaGreatSo26
namespace Go.Proofs.YtaphmhbmhcahaaaGreat
section
open Go.RowKit
attribute [local go_sem ↓] ldP_eq stP_eq ldFa_eq stFa_eq ldD_eq stD_eq
attribute [local go_sem] cells_PV PC_size cells_FaV FaC_size cells_RV RC_size zero_RC fold_RC
end
section
open Go.RowKit
theorem dsB_all (L:List K.En):L.filter (dsB ⟨#[]⟩ (-1))=L:=List.filter_eq_self.2 fun e _=>by unfold dsB;rfl
def HeardOf (f:Fc) (P:Pst):Prop:=InForm P/\∀ r,r < 16 -> ∀ n,mem (runsAt P r) n↔mem (dotsG (f.es.map dotOf) r) n∨mem (runsAt f.p.P r) n
def StOf (f s:Fc):Prop:=s.es=f.es/\HeardOf f s.p.P/\WtOf f.rs s.p.P s.rs
def EvS (f s:Fc) (er:Int):Prop:=(EvOf f er/\er≠0/\s=fz0)∨(EvOf f 0/\er=0/\StOf f s)
attribute [local go_sem ↓] ldP_eq stP_eq ldFa_eq stFa_eq ldSw_eq stSw_eq bldS_eq bsPs_eq
attribute [local go_sem] cells_PV PC_size cells_FaV FaC_size zero_FaZ run_bsPs run_bldS run_bldS0 zero_PC
end
end Go.Proofs.YtaphmhbmhcahaaaGreat
namespace Go.Proofs.YtaphmhbmhcahaaaGreat.K
section
open Go.RowKit
attribute [local go_sem ↓] ld28_eq st28_eq ld26_eq
attribute [local go_sem] zero_EC cells_EV
end
section
open Go.RowKit
attribute [local go_sem ↓] ld28_eq st28_eq ld26_eq run_eqD
def DBox (w:World) (g:Nat) (y:En):Prop:=w.heap[g]? = some (.cells (DC y) 43 (0,0))
def PlA (w w':World) (x:Ending) (B:List En) (y:En):Prop:=∃ z:Int,x = .returned (.int .i64 z)/\Below w.heap.size w w'/\((z = -1/\∀ e∈B,sameDot e y=false)∨∃ k:Nat,k < B.length/\z=(k:Int)/\sameDot (B.getD k en0) y=true)
end
section
open Go.RowKit
attribute [local go_sem ↓] ld28_eq st28_eq ld26_eq run_eq28
theorem eqE_iffK (x y:En):eqE x y=true↔x=y:=by
 obtain ⟨a,b,s,q⟩:=x;obtain ⟨a',b',s',q'⟩:=y;simp only [eqE,Bool.and_eq_true,beq_iff_eq,En.mk.injEq];constructor
 ·rintro ⟨⟨⟨h1,h2⟩,h3⟩,h4⟩;refine ⟨h1,h2,?_,h4⟩;rw [ByteArray.toList_eq,ByteArray.toList_eq] at h3;exact ByteArray.ext (Array.ext' h3)
 ·rintro ⟨h1,h2,h3,h4⟩;exact ⟨⟨⟨h1,h2⟩,by rw [h3]⟩,h4⟩
def CwB (B:List En) (x:En):Prop:=∃ y∈B,sameDot x y=true/\x≠y
def ClA (w w':World) (x:Ending) (A B:List En):Prop:=∃ b:Bool,x = .returned (.bool b)/\(b=true↔Clash (A++B))/\Below w.heap.size w w'
end
end Go.Proofs.YtaphmhbmhcahaaaGreat.K
namespace Go.Proofs.YtaphmhbmhcahaaaGreat
section
open Go.RowKit
attribute [local go_sem ↓] ldP_eq stP_eq ldRe_eq stRe_eq K.ld28_eq K.st28_eq
attribute [local go_sem] cells_PV PC_size cells_ReV ReC_size K.cells_EV K.EC_size K.zero_EC
variable {w w' w2 W W' : World} {g : Nat}
end
section
open Go.RowKit
attribute [local go_sem ↓] ldP_eq stP_eq K.ld28_eq K.st28_eq K.ld26_eq
attribute [local go_sem] cells_PV PC_size K.cells_EV K.EC_size
def stayB (B:List K.En) (P:Pst) (x:K.En):Bool:=B.any (fun y=>K.sameDot y x) || !inB P x
end
end Go.Proofs.YtaphmhbmhcahaaaGreat
