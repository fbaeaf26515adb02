/- THe -/
import Derived.Test.YtehcehhfdhiomaaGreatTf39
import Derived.Test.YtehcehhfdhiomaaGreatTf40
import Derived.Test.YtehcehhfdhiomaaGreatTf25
namespace Go.Proofs.YtehcehhfdhiomaaGreat
open Go.RowKit
theorem past_one {f : Fc} {P Q : Pst} (h1 : InForm P) (h2 : InForm Q) (M1 : ∀ r, r < 16 → ∀ n, mem (runsAt P r) n ↔ hrd f r n) (M2 : ∀ r, r < 16 → ∀ n, mem (runsAt Q r) n ↔ hrd f r n) : P = Q :=
 (canon_iff.2 h1 : CanonOf (runsAt P) P).unique (canon_iff.2 h2 : CanonOf (runsAt Q) Q) fun r hr n => (M1 r hr n).trans (M2 r hr n).symm
theorem wt_le2 (X : List Pv) (c : Nat) (h : ∀ p ∈ X, p.P.cloud.length ≤ c) : wt X ≤ X.length * (c + 1) := by
 induction X with
 | nil => exact Nat.zero_le _
 | cons p X ih =>
  have h1 := ih (fun q hq => h q (List.mem_cons_of_mem _ hq))
  have h2 := h p List.mem_cons_self
  simp only [wt, List.length_cons]
  rw [Nat.add_mul]
  omega
def bareF (a : Fc) : Fc := ⟨a.ao, a.an, a.ac, a.es, a.p, none, 0, 0, []⟩
attribute [local go_sem ↓] ldP_eq stP_eq ldFa_eq stFa_eq ldD_eq stD_eq bldD_eq K.ld28_eq K.st28_eq
attribute [local go_sem] cells_PV PC_size cells_FaV FaC_size zero_FaZ cells_RV RC_size zero_RC run_bldD K.zero_EC K.cells_EV K.EC_size
end Go.Proofs.YtehcehhfdhiomaaGreat
