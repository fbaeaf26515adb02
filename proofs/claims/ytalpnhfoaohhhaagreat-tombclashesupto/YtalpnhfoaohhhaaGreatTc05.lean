/- QMe -/
import Derived.Test.YtalpnhfoaohhhaaGreatTc04
import Derived.Deep.RegionHeldLaw
namespace Go.Proofs.YtalpnhfoaohhhaaGreat
open Go.RowKit
attribute [local go_sem ↓] ldS_eq stS_eq ldJ_eq stJ_eq
attribute [local go_sem] zeros_JA cells_JAv zero_SC cells_SV fold_SC SC_size
def GivesSet (w w' : World) (e : Ending) (G : Nat → List Rn) : Prop := ∃ (T : Nat → Si) (N : Nat → List Rn), e = .returned (JAv T) ∧ (∀ r, r < 16 → V.Src w' (T r).ao (T r).n (T r).cap (tn (N r)) ∧ (∀ ad, (T r).ao = some ad → w.heap.size ≤ ad.block) ∧ NormOf (G r) (N r)) ∧ Below w.heap.size w w'
def vp (p : Pst) (j r : Nat) : List Rn := if r < j then [⟨1, p.vec.getD r 0⟩] else []
end Go.Proofs.YtalpnhfoaohhhaaGreat
