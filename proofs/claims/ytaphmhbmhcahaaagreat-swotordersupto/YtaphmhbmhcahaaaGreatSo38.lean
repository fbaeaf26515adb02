/- GRf GOa GAe QLb QNy -/
import Derived.Test.YtaphmhbmhcahaaaGreatSo17
import Derived.Test.YtaphmhbmhcahaaaGreatSo26
import Derived.Test.YtaphmhbmhcahaaaGreatSo37
import Derived.Test.YtaphmhbmhcahaaaGreatSo09
import Derived.Test.YtaphmhbmhcahaaaGreatSo16
namespace Go.Proofs.YtaphmhbmhcahaaaGreat
section
open Go.RowKit
attribute [local go_sem ↓] ldP_eq stP_eq ldFa_eq stFa_eq ldD_eq stD_eq
attribute [local go_sem] cells_PV PC_size cells_FaV FaC_size cells_RV RC_size zero_RC fold_RC
end
section
open Go.RowKit
attribute [local go_sem ↓] ldP_eq stP_eq ldFa_eq stFa_eq ldD_eq stD_eq
attribute [local go_sem] cells_PV PC_size cells_FaV FaC_size cells_RV RC_size zero_RC fold_RC
end
section
open Go.RowKit
attribute [local go_sem ↓] ldP_eq stP_eq ldFa_eq stFa_eq ldD_eq stD_eq
attribute [local go_sem] cells_PV PC_size cells_FaV FaC_size cells_RV RC_size zero_RC fold_RC
end
section
open Go.RowKit
attribute [local go_sem ↓] ldP_eq stP_eq ldJ_eq stJ_eq
attribute [local go_sem] zeros_JA cells_JAv zero_PC cells_PV fold_PC PC_size fold_PC1
end
section
open Go.RowKit
attribute [local go_sem ↓] ldP_eq stP_eq ldD_eq stD_eq
attribute [local go_sem] zero_PC cells_PV fold_PC PC_size cells_RV RC_size zero_RC fold_RC
theorem build_D (x y:Int):((RC rn0).setIfInBounds 0 (.int .i64 x)).setIfInBounds 1 (.int .i64 y)=RC ⟨x,y⟩:=rfl
attribute [local go_sem] build_D
def NxtOf (P:Pst) (r lim:Int) (d:Rn) (x:Int):Prop:=(V.isR r=false/\d=rn0/\x=3)∨(V.isR r=true/\∃ k,LastOf P r k/\((min lim 1000000000 <= k/\d=rn0/\x=9)∨(k < min lim 1000000000/\d=⟨r,k+1⟩/\x=0)))
def GivN (w w':World) (e:Ending) (P:Pst) (r lim:Int):Prop:=∃ d x,e = .returned (.tuple #[RV d,.int .i64 x])/\NxtOf P r lim d x/\Below w.heap.size w w'
end
end Go.Proofs.YtaphmhbmhcahaaaGreat
