/- TLi -/
import Derived.Test.YtehcehhfdhiomaaGreatTf41
import Derived.Test.YtehcehhfdhiomaaGreatTf26
namespace Go.Proofs.YtehcehhfdhiomaaGreat
open Go.RowKit
attribute [local go_sem ↓] ldP_eq stP_eq ldFa_eq stFa_eq ldD_eq stD_eq K.ld28_eq K.st28_eq
attribute [local go_sem] cells_PV PC_size cells_FaV FaC_size zero_FaZ cells_RV RC_size zero_RC fold_RC K.zero_EC K.cells_EV K.EC_size K.fold_EC
def rmB (f : Fc) (e : K.En) : Bool := inB f.p.P e || !freeB f.rs e
theorem count_free (R : List Rc) (e : K.En) : (0 < R.countP (fun r => covB r e)) ↔ freeB R e = false := by
 unfold freeB
 rw [Bool.not_eq_false', List.any_eq_true, List.countP_pos_iff]
/-! ### what is live in a join -/
def covP (y : Rp) (e : K.En) : Bool := (decide (y.1.size = 0) || (y.1.toList == e.sku.toList)) && inB y.2 e
theorem live_own {w1 : World} {a : Fc} (hA : FcU w1 a) : (∀ s, wt (ofS a.rs s) ≤ 8796093022207) ∧ a.rn * (a.an + 1) ≤ 8796093022207 := by
 have ha := hA.rn
 have hr : a.rs.length = a.rn := hA.ok.rs.len
 constructor
 ·intro s
  have h1 := wt_le2 (ofS a.rs s) 1048576 (fun p hp => by
   unfold ofS at hp
   obtain ⟨r, hr, rfl⟩ := List.mem_map.1 hp
   exact hA.sm.2 r (List.mem_filter.1 hr).1)
  have h2 : (ofS a.rs s).length ≤ a.rs.length := by unfold ofS; rw [List.length_map]; exact List.length_filter_le _ _
  have h3 : (ofS a.rs s).length * (1048576 + 1) ≤ 419430 * (1048576 + 1) := Nat.mul_le_mul_right _ (by omega)
  omega
 ·have h2 := hA.an
  have h4 : a.rn * (a.an + 1) ≤ 419430 * 2097153 := Nat.mul_le_mul (by omega) (by omega)
  omega
def bsRR (a : Array (Nat × Value)) : Sem Value := Instr.buildSlice 44 2 a
theorem bsRR_eq (a : Array (Nat × Value)) : Instr.buildSlice 44 2 a = bsRR a := rfl
theorem run_bsRR (a b : Option Addr) (n c m d : Nat) (w : World) : (bsRR #[(0, .slice a n c), (1, .slice b m d)]).run Tryz.prog w = .ok (.slice (some ⟨w.heap.size, 0, none⟩) 2 2) (w.alloc (.cells #[.slice a n c, .slice b m d] 22)) := by kernel_rfl
attribute [local go_sem ↓] bsRR_eq
attribute [local go_sem] run_bsRR
end Go.Proofs.YtehcehhfdhiomaaGreat
