/- Meet, Minus, Order of pasts: their contracts. -/
import Derived.Test.YtiogmeaianogmaaPPx
import Derived.Deep.RegionHeld3
namespace Go.Proofs.Ytiogmeaianogmaa
open Go.RowKit
attribute [local go_sem ↓] ldP_eq stP_eq ldA_eq stA_eq
attribute [local go_sem] zeros_SA cells_SAv zero_PC cells_PV fold_PC PC_size fold_PC1

attribute [local go_sem] zeros_sl
set_option maxRecDepth 100000 in
theorem pastMeet_any (a b : Pv) (w : World) (hA : PSrc w a) (hB : PSrc w b) :
    Calls Try.prog 11 #[PV a, PV b] w fun e w' => GivesP w w' e (fun P => ∃ C : Nat → List Rn, (∀ r, r < 16 → MeetOf (runsAt a.P r) (runsAt b.P r) (C r)) ∧ CanonOf C P) := by
  have b1 := below_new w (.cells (PC a) 25)
  have b2 := below_new (w.alloc (.cells (PC a) 25)) (.cells (PC b) 25)
  have b3 := below_new ((w.alloc (.cells (PC a) 25)).alloc (.cells (PC b) 25)) (.cells (PC pv0) 25)
  have p2 := pbox_new (w.alloc (.cells (PC a) 25)) b
  have p3 := pbox_new ((w.alloc (.cells (PC a) 25)).alloc (.cells (PC b) 25)) pv0
  simp only [World.size_alloc] at p2 p3
  have l1 := run_ldP (((pbox_new w a).below b2).below b3).at
  have l2 := run_ldP (p2.below b3).at
  have HP3 := hide p3
  have HBK := hide (b1.trans ((b2.trans (b3.mono b2.size)).mono b1.size))
  have HA := hide (hA.below HBK.out)
  have HB := hide (hB.below HBK.out)
  clear hA hB b1 b2 b3 p2 p3
  go_enter Try.func11, Try.ntmps11
  go_wp2_with fail
  refine (pairMeet_any a b _ HA.out HB.out).mono ?_
  rintro e w4 ⟨p, rfl, S4, n4, b4, c4⟩
  obtain ⟨s1, e1, e2, e3, e4⟩ := past_end (w := w) (HP3.out.below b4) S4 (n4.mono (by simp)) (HBK.out.trans (b4.mono HBK.out.size)) (by omega)
  have HE1 := hide e1
  have HE2 : Hid (GivesP w (w4.setRow (w.heap.size + 1 + 1) (PC p)) (.returned (PV p)) (fun P => ∃ C : Nat → List Rn, (∀ r, r < 16 → MeetOf (runsAt a.P r) (runsAt b.P r) (C r)) ∧ CanonOf C P)) := ⟨p, rfl, e2, e3, e4, c4⟩
  clear S4 n4 b4 c4 e1 e2 e3 e4
  go_wp2_with fail
  exact bodyPost_ret (v := PV p) (resP Try.results11 rfl HE1.out) rfl HE2.out
set_option maxRecDepth 100000 in
theorem pastMinus_any (a b : Pv) (w : World) (hA : PSrc w a) (hB : PSrc w b) :
    Calls Try.prog 13 #[PV a, PV b] w fun e w' => GivesP w w' e (fun P => ∃ C : Nat → List Rn, (∀ r, r < 16 → MinusOf (runsAt a.P r) (runsAt b.P r) (C r)) ∧ CanonOf C P) := by
  have b1 := below_new w (.cells (PC a) 25)
  have b2 := below_new (w.alloc (.cells (PC a) 25)) (.cells (PC b) 25)
  have b3 := below_new ((w.alloc (.cells (PC a) 25)).alloc (.cells (PC b) 25)) (.cells (PC pv0) 25)
  have p2 := pbox_new (w.alloc (.cells (PC a) 25)) b
  have p3 := pbox_new ((w.alloc (.cells (PC a) 25)).alloc (.cells (PC b) 25)) pv0
  simp only [World.size_alloc] at p2 p3
  have l1 := run_ldP (((pbox_new w a).below b2).below b3).at
  have l2 := run_ldP (p2.below b3).at
  have HP3 := hide p3
  have HBK := hide (b1.trans ((b2.trans (b3.mono b2.size)).mono b1.size))
  have HA := hide (hA.below HBK.out)
  have HB := hide (hB.below HBK.out)
  clear hA hB b1 b2 b3 p2 p3
  go_enter Try.func13, Try.ntmps13
  go_wp2_with fail
  refine (pairMinus_any a b _ HA.out HB.out).mono ?_
  rintro e w4 ⟨p, rfl, S4, n4, b4, c4⟩
  obtain ⟨s1, e1, e2, e3, e4⟩ := past_end (w := w) (HP3.out.below b4) S4 (n4.mono (by simp)) (HBK.out.trans (b4.mono HBK.out.size)) (by omega)
  have HE1 := hide e1
  have HE2 : Hid (GivesP w (w4.setRow (w.heap.size + 1 + 1) (PC p)) (.returned (PV p)) (fun P => ∃ C : Nat → List Rn, (∀ r, r < 16 → MinusOf (runsAt a.P r) (runsAt b.P r) (C r)) ∧ CanonOf C P)) := ⟨p, rfl, e2, e3, e4, c4⟩
  clear S4 n4 b4 c4 e1 e2 e3 e4
  go_wp2_with fail
  exact bodyPost_ret (v := PV p) (resP Try.results13 rfl HE1.out) rfl HE2.out
end Go.Proofs.Ytiogmeaianogmaa
