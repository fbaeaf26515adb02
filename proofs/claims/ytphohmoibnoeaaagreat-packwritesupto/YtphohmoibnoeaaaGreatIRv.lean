/- The reference's vecAt (barrowref09). -/
import Derived.Test.YtphohmoibnoeaaaGreatPb30
import Derived.Test.YtphohmoibnoeaaaGreatPb14
namespace Go.Proofs.YtphohmoibnoeaaaGreat
open Go.RowKit
attribute [local go_sem ↓] ldP_eq stP_eq
attribute [local go_sem] zero_PC cells_PV PC_size
variable {w w' w2 W W' : World} {g gv gr : Nat} {Z : List Int}

set_option maxRecDepth 100000 in
theorem vecAt9_any (p : Pv) (r : Nat) (w : World) (hS : PSrc w p) (_ : r < 1000) : Calls Tryz.prog 65 #[PV p, .int .i64 (r : Int)] w fun e w' => e = .returned (.int .i64 (trl p.P.vec r)) ∧ Below w.heap.size w w' := by
 have b1 := below_new w (.cells (PC p) 25)
 have HX := hide (pbox_new w p)
 have HB := hide b1
 have HS := hide (hS.below b1)
 clear hS b1
 obtain ⟨wk, hwk⟩ : ∃ wk, w.alloc (.cells (PC p) 25) = wk := ⟨_, rfl⟩
 obtain ⟨G, hG⟩ : ∃ G, w.heap.size = G := ⟨_, rfl⟩
 rw [hwk] at HX HB HS
 rw [hG] at HX
 have c0 := HX.out.at.c0
 have hbig := HS.out.big
 have hlen := HS.out.vec.1
 by_cases hlt : r < p.vn
 ·have hlti : ((r : Nat) : Int) < (p.vn : Int) := by omega
  obtain ⟨ad, had, hc⟩ := vsrc_at HS.out.vec r hlt
  have HV : Hid (p.P.vec.getD r 0 = trl p.P.vec r) := rfl
  obtain ⟨v, hv⟩ : ∃ v, p.P.vec.getD r 0 = v := ⟨_, rfl⟩
  have HV2 := hide hv
  rw [hv] at hc
  rw [had] at c0
  clear hv hlen
  go_enter Tryz.func65, Tryz.ntmps65
  go_wp2_with fail
  clear hwk hG
  go_ret
  exact ⟨by rw [← HV.out, HV2.out]; rfl, HB.out⟩
 ·have hlti : ¬ ((r : Nat) : Int) < (p.vn : Int) := by omega
  have HV : Hid (trl p.P.vec r = 0) := by
   show _ = _
   unfold trl
   rw [List.getD_eq_getElem?_getD, List.getElem?_eq_none (by omega)]
   rfl
  clear hlen
  go_enter Tryz.func65, Tryz.ntmps65
  go_wp2_with fail
  clear hwk
  go_ret
  exact ⟨by rw [HV.out]; rfl, by have h := HB.out; rw [hG] at h; exact h⟩
end Go.Proofs.YtphohmoibnoeaaaGreat
