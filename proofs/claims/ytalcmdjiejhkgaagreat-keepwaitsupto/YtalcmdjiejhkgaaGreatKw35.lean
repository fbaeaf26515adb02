/- QCd QRm QRu -/
import Derived.Test.YtalcmdjiejhkgaaGreatKw34
import Derived.Test.YtalcmdjiejhkgaaGreatKw00
import Derived.Test.YtalcmdjiejhkgaaGreatKw04
import Derived.Deep.RegionHeldLaw
import Derived.Test.YtalcmdjiejhkgaaGreatKw10
import Derived.Test.YtalcmdjiejhkgaaGreatKw29
namespace Go.Proofs.YtalcmdjiejhkgaaGreat
section
open Go.RowKit
attribute [local go_sem ↓] ldJ_eq stJ_eq
attribute [local go_sem] zeros_JA cells_JAv
def GivesSC (w w' : World) (e : Ending) (k : Int) (N1 N2 : Nat -> List Rn) : Prop := ∃ (T : Nat -> Si) (N : Nat -> List Rn), e = .returned (JAv T) /\ (∀ r, r < 16 -> V.Src w' (T r).ao (T r).n (T r).cap (tn (N r)) /\ (∀ ad, (T r).ao = some ad -> w.heap.size <= ad.block) /\ CombOf k (N1 r) (N2 r) (N r)) /\ Below w.heap.size w w'
structure CbJ (w W : World) (k : Int) (T1 T2 : Nat -> Si) (N1 N2 : Nat -> List Rn) (T : Nat -> Si) (N : Nat -> List Rn) (j : Nat) : Prop where
 a : ISets W w.heap.size 102 T1
 b : ISets W (w.heap.size + 1) 102 T2
 z : ISets W (w.heap.size + 1 + 1) 102 (fun _ => si0)
 s : ISets W (w.heap.size + 1 + 1 + 1) 102 T
 bl : Below w.heap.size w W
 t : ∀ r, r < j -> V.Src W (T r).ao (T r).n (T r).cap (tn (N r)) /\ (∀ ad, (T r).ao = some ad -> w.heap.size + 1 + 1 + 1 < ad.block) /\ CombOf k (N1 r) (N2 r) (N r)
end
section
open Go.RowKit
attribute [local go_sem ↓] ldP_eq stP_eq ldJ_eq stJ_eq
attribute [local go_sem] zeros_JA cells_JAv zero_PC cells_PV fold_PC PC_size fold_PC1
end
section
open Go.RowKit
attribute [local go_sem ↓] ldP_eq stP_eq ldJ_eq stJ_eq
attribute [local go_sem] zeros_JA cells_JAv zero_PC cells_PV fold_PC PC_size fold_PC1
end
end Go.Proofs.YtalcmdjiejhkgaaGreat
