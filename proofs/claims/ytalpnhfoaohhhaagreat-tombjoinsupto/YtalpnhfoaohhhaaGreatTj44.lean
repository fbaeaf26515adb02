/- TRl TRw TEz -/
import Derived.Test.YtalpnhfoaohhhaaGreatTj36
import Derived.Test.YtalpnhfoaohhhaaGreatTj40
import Derived.Test.YtalpnhfoaohhhaaGreatTj41
import Derived.Test.YtalpnhfoaohhhaaGreatTj43
import Derived.Test.YtalpnhfoaohhhaaGreatTj23
import Derived.Test.YtalpnhfoaohhhaaGreatTj34
namespace Go.Proofs.YtalpnhfoaohhhaaGreat
section
open Go.RowKit Go.Maps
structure LaI (wk w1 : World) (g : Nat) (f : Fc) (M : List K.En) (q : Pv) (k : Nat) (a : Option Addr) (c : Nat) (acc : List K.En) (wr : World) : Prop where
 box : FaBox wr g (mkF ⟨a, acc.length, c, acc, q, none, 0, 0, []⟩)
 own : K.OwnE wk.heap.size w1.heap.size wk wr a c acc
 eq : acc = (f.es.take k).filter (notIn M)
 fr : ∀ x, x < w1.heap.size -> x ≠ g -> wr.heap[x]? = w1.heap[x]?
structure LbI (wk w2 : World) (g : Nat) (f : Fc) (R : List Rc) (a : Option Addr) (n c : Nat) (E : List K.En) (q : Pv) (k : Nat) (h : Hs) (D : List Rc) (wr : World) : Prop where
 box : FaBox wr g (mkF ⟨a, n, c, E, q, h.o, h.n, h.c, D⟩)
 own : OwnRc w2.heap.size wk wr h D
 li : LrI f.rs R k D
 num : h.n <= k
 fr : ∀ x, x < w2.heap.size -> x ≠ g -> wr.heap[x]? = w2.heap[x]?
theorem run_bldFp (p : Pv) (w : World) : (bldF #[(1, .agg (PC p))]).run Tryz.prog w = .ok (.agg (FaC (mkF ⟨none, 0, 0, [], p, none, 0, 0, []⟩))) w := by kernel_rfl
def bsEc (a : Array (Nat × Value)) : Sem Value := Instr.buildSlice 22 1 a
theorem bsEc_eq (a : Array (Nat × Value)) : Instr.buildSlice 22 1 a = bsEc a := rfl
theorem run_bsEc (e : K.En) (w : World) : (bsEc #[(0, K.EV e)]).run Tryz.prog w = .ok (.slice (some ⟨w.heap.size, 0, none⟩) 1 1) (w.alloc (.cells (K.EC e) 36)) := by kernel_rfl
attribute [local go_sem ↓] ldP_eq stP_eq ldFa_eq stFa_eq bldF_eq run_bldFp K.ld28_eq K.st28_eq ldRe_eq stRe_eq bsRc_eq run_bsRc bsEc_eq run_bsEc
attribute [local go_sem] cells_PV PC_size cells_FaV FaC_size zero_FaZ run_bldF0 K.zero_EC K.cells_EV K.EC_size K.fold_EC cells_ReV ReC_size
end
section
open Go.RowKit
attribute [local go_sem ↓] ldP_eq stP_eq ldFa_eq stFa_eq bldF_eq
attribute [local go_sem] cells_PV PC_size cells_FaV FaC_size zero_FaZ run_bldF0
end
section
open Go.RowKit
attribute [local go_sem ↓] ldP_eq stP_eq ldFa_eq stFa_eq
attribute [local go_sem] cells_PV PC_size cells_FaV FaC_size
end
end Go.Proofs.YtalpnhfoaohhhaaGreat
