/- HKw -/
import Derived.Test.YtalcmdjiejhkgaaGreatKl36
import Derived.Test.YtalcmdjiejhkgaaGreatKl37
import Derived.Test.YtalcmdjiejhkgaaGreatKl42
import Derived.Test.YtalcmdjiejhkgaaGreatKl25
import Derived.Test.YtalcmdjiejhkgaaGreatKl38
import Derived.Test.YtalcmdjiejhkgaaGreatKl10
namespace Go.Proofs.YtalcmdjiejhkgaaGreat
open Go.RowKit
def slk (v a b : Value) : Sem Value := Instr.slice 22 v (some a) (some b) none
theorem slk_eq (v a b : Value) : Instr.slice 22 v (some a) (some b) none = slk v a b := rfl
attribute [local go_sem ↓] ldP_eq stP_eq ldRe_eq stRe_eq bsPs_eq slk_eq
attribute [local go_sem] cells_PV PC_size cells_KsV KsC_size zero_PC run_bsPs
end Go.Proofs.YtalcmdjiejhkgaaGreat
