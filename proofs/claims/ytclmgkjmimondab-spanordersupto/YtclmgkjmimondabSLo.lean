/- Within, Order of the program and of the reference; SpanOrders: the law's walk. -/
import Derived.Test.YtclmgkjmimondabROm
import Derived.Test.YtclmgkjmimondabSKx
namespace Go.Proofs.Ytclmgkjmimondab
open Go.RowKit
attribute [local go_sem ↓] ldR_eq stR_eq
attribute [local go_sem] zero_RC cells_RV RC_size fold_RC build_RC

/-- is all of A in B? -/
def Wth (A B : List Rn) (b : Bool) : Prop := b = true ↔ ∀ n, mem A n → mem B n
theorem minus_nil {A B R : List Rn} (h : MinusOf A B R) : R.length = 0 ↔ ∀ n, mem A n → mem B n := by
  constructor
  · intro e n ha
    have : R = [] := List.eq_nil_of_length_eq_zero e
    subst this
    exact Classical.byContradiction fun hb => mem_nil n ((h.2 n).2 ⟨ha, hb⟩)
  · intro e
    have : R = [] := form_empty (Int.le_refl _) h.1 (fun n hn => by have := (h.2 n).1 hn; exact this.2 (e n this.1))
    rw [this]; rfl
theorem within_any (ao bo : Option Addr) (n cap m cap' : Nat) (A B : List Rn) (w : World) (hS : RSrc w ao n cap A) (hR : RSrc w bo m cap' B) :
    Calls Try.prog 5 #[.slice ao n cap, .slice bo m cap'] w fun e w' => ∃ b, e = .returned (.bool b) ∧ Wth A B b ∧ Below w.heap.size w w' := by
  have HS := hide hS
  have HR := hide hR
  clear hS hR
  go_enter Try.func5, Try.ntmps5
  go_wp2_with fail
  refine (minus_any ao bo n cap m cap' A B _ HS.out HR.out).mono ?_
  rintro e w1 ⟨a1, n1, c1, R, rfl, S1, b1, p1⟩
  have HN := hide (minus_nil p1)
  rw [S1.len] at HN
  have HB1 := hide b1
  clear S1 b1 p1
  go_wp2_with fail
  go_ret
  refine ⟨_, rfl, ?_, HB1.out⟩
  unfold Wth
  rw [← HN.out]
  simp
theorem refWithin_any (ao bo : Option Addr) (n cap m cap' : Nat) (A B : List Rn) (w : World) (hS : RSrc w ao n cap A) (hR : RSrc w bo m cap' B) (hn : n ≤ 1048576) (hm : m ≤ 1048576) :
    Calls Try.prog 6 #[.slice ao n cap, .slice bo m cap'] w fun e w' => ∃ b, e = .returned (.bool b) ∧ Wth A B b ∧ Below w.heap.size w w' := by
  have HS := hide hS
  have HR := hide hR
  clear hS hR
  go_enter Try.func6, Try.ntmps6
  go_wp2_with fail
  refine (refMinus_any ao bo n cap m cap' A B _ HS.out HR.out (by omega)).mono ?_
  rintro e w1 ⟨a1, n1, c1, R, rfl, S1, b1, p1⟩
  have HN := hide (minus_nil p1)
  rw [S1.len] at HN
  have HB1 := hide b1
  clear S1 b1 p1
  go_wp2_with fail
  go_ret
  refine ⟨_, rfl, ?_, HB1.out⟩
  unfold Wth
  rw [← HN.out]
  simp
/-- how A stands to B -/
def OrdIs (A B : List Rn) (k : Int) : Prop := ∃ x y, Wth A B x ∧ Wth B A y ∧ k = (if x then (if y then 0 else 1) else if y then 2 else 3)
theorem OrdIs.unique {A B : List Rn} {k l : Int} (h : OrdIs A B k) (h' : OrdIs A B l) : k = l := by
  obtain ⟨x, y, h1, h2, e⟩ := h
  obtain ⟨x', y', h1', h2', e'⟩ := h'
  have ex : x = x' := Bool.eq_iff_iff.2 (Iff.trans h1 h1'.symm)
  have ey : y = y' := Bool.eq_iff_iff.2 (Iff.trans h2 h2'.symm)
  rw [e, e', ex, ey]
theorem ord_lit : OrdIs [⟨1, 3⟩] [⟨2, 4⟩] 3 := by
  refine ⟨false, false, ⟨(fun h => by cases h), fun h => ?_⟩, ⟨(fun h => by cases h), fun h => ?_⟩, rfl⟩
  · have := (mem_one _ _).1 (h 1 ((mem_one _ _).2 ⟨by omega, by omega, by decide, by decide⟩))
    simp only at this
    omega
  · have := (mem_one _ _).1 (h 4 ((mem_one _ _).2 ⟨by omega, by omega, by decide, by decide⟩))
    simp only at this
    omega
set_option maxHeartbeats 1000000 in
theorem order2_any (ao bo : Option Addr) (n cap m cap' : Nat) (A B : List Rn) (w : World) (hS : RSrc w ao n cap A) (hR : RSrc w bo m cap' B) :
    Calls Try.prog 4 #[.slice ao n cap, .slice bo m cap'] w fun e w' => ∃ k, e = .returned (.int .i64 k) ∧ OrdIs A B k ∧ Below w.heap.size w w' := by
  have HS := hide hS
  have HR := hide hR
  clear hS hR
  go_enter Try.func4, Try.ntmps4
  go_wp2_with fail
  refine (within_any ao bo n cap m cap' A B _ HS.out HR.out).mono ?_
  rintro e w1 ⟨x, rfl, hx, b1⟩
  have HX := hide hx
  have HB1 := hide b1
  clear hx b1
  go_wp2_with fail
  refine (within_any bo ao m cap' n cap B A _ (HR.out.below HB1.out) (HS.out.below HB1.out)).mono ?_
  rintro e w2 ⟨y, rfl, hy, b2⟩
  have HY := hide hy
  have HB2 := hide (HB1.out.trans (b2.mono HB1.out.size))
  clear hy b2
  cases x with
  | true =>
    cases y with
    | true =>
      have HF : Hid (OrdIs A B 0) := ⟨true, true, HX.out, HY.out, rfl⟩
      go_wp2_with fail
      go_ret
      exact ⟨0, rfl, HF.out, HB2.out⟩
    | false =>
      have HF : Hid (OrdIs A B 1) := ⟨true, false, HX.out, HY.out, rfl⟩
      go_wp2_with fail
      go_ret
      exact ⟨1, rfl, HF.out, HB2.out⟩
  | false =>
    cases y with
    | true =>
      have HF : Hid (OrdIs A B 2) := ⟨false, true, HX.out, HY.out, rfl⟩
      go_wp2_with fail
      go_ret
      exact ⟨2, rfl, HF.out, HB2.out⟩
    | false =>
      have HF : Hid (OrdIs A B 3) := ⟨false, false, HX.out, HY.out, rfl⟩
      go_wp2_with fail
      go_ret
      exact ⟨3, rfl, HF.out, HB2.out⟩
set_option maxHeartbeats 1000000 in
theorem refOrder_any (ao bo : Option Addr) (n cap m cap' : Nat) (A B : List Rn) (w : World) (hS : RSrc w ao n cap A) (hR : RSrc w bo m cap' B) (hn : n ≤ 1048576) (hm : m ≤ 1048576) :
    Calls Try.prog 7 #[.slice ao n cap, .slice bo m cap'] w fun e w' => ∃ k, e = .returned (.int .i64 k) ∧ OrdIs A B k ∧ Below w.heap.size w w' := by
  have HS := hide hS
  have HR := hide hR
  clear hS hR
  go_enter Try.func7, Try.ntmps7
  go_wp2_with fail
  refine (refWithin_any ao bo n cap m cap' A B _ HS.out HR.out hn hm).mono ?_
  rintro e w1 ⟨x, rfl, hx, b1⟩
  have HX := hide hx
  have HB1 := hide b1
  clear hx b1
  go_wp2_with fail
  refine (refWithin_any bo ao m cap' n cap B A _ (HR.out.below HB1.out) (HS.out.below HB1.out) hm hn).mono ?_
  rintro e w2 ⟨y, rfl, hy, b2⟩
  have HY := hide hy
  have HB2 := hide (HB1.out.trans (b2.mono HB1.out.size))
  clear hy b2
  cases x with
  | true =>
    cases y with
    | true =>
      have HF : Hid (OrdIs A B 0) := ⟨true, true, HX.out, HY.out, rfl⟩
      go_wp2_with fail
      go_ret
      exact ⟨0, rfl, HF.out, HB2.out⟩
    | false =>
      have HF : Hid (OrdIs A B 1) := ⟨true, false, HX.out, HY.out, rfl⟩
      go_wp2_with fail
      go_ret
      exact ⟨1, rfl, HF.out, HB2.out⟩
  | false =>
    cases y with
    | true =>
      have HF : Hid (OrdIs A B 2) := ⟨false, true, HX.out, HY.out, rfl⟩
      go_wp2_with fail
      go_ret
      exact ⟨2, rfl, HF.out, HB2.out⟩
    | false =>
      have HF : Hid (OrdIs A B 3) := ⟨false, false, HX.out, HY.out, rfl⟩
      go_wp2_with fail
      go_ret
      exact ⟨3, rfl, HF.out, HB2.out⟩
set_option maxRecDepth 100000 in
set_option maxHeartbeats 4000000 in
theorem orders_any (ao bo : Option Addr) (n cap m cap' : Nat) (A B : List Rn) (w : World) (hS : RSrc w ao n cap A) (hR : RSrc w bo m cap' B) (hn : n ≤ 1048576) (hm : m ≤ 1048576) :
    Calls Try.prog 3 #[.slice ao n cap, .slice bo m cap'] w fun e w' => e = .returned (.bool true) ∧ Below w.heap.size w w' := by
  have HS := hide hS
  have HR := hide hR
  clear hS hR
  go_enter Try.func3, Try.ntmps3
  have HB0 : Hid (Below w.heap.size w w) := Below.refl _ _
  go_wp2_with fail
  have SL1 := (lit_rsrc w [⟨1, 3⟩] (RC ⟨1, 3⟩) rfl 25 1 rfl (by omega)).below (below_new _ (.cells (RC ⟨2, 4⟩) 25))
  have SL2 := lit_rsrc (w.alloc (.cells (RC ⟨1, 3⟩) 25)) [⟨2, 4⟩] (RC ⟨2, 4⟩) rfl 25 1 rfl (by omega)
  have b0 : Below w.heap.size w ((w.alloc (.cells (RC ⟨1, 3⟩) 25)).alloc (.cells (RC ⟨2, 4⟩) 25)) := (below_new _ _).trans ((below_new _ _).mono (below_new _ _).size)
  simp only [World.size_alloc] at SL2
  refine (order2_any _ _ 1 1 1 1 [⟨1, 3⟩] [⟨2, 4⟩] _ SL1 SL2).mono ?_
  rintro e w1 ⟨q1, rfl, hq1, b1⟩
  obtain rfl : q1 = 3 := hq1.unique ord_lit
  have HB1 := hide (b0.trans (b1.mono b0.size))
  clear b0 b1 SL1 SL2 hq1 HB0
  go_wp2_with fail
  refine (within_any none none 0 0 0 0 [] [] _ (RSrc.empty _) (RSrc.empty _)).mono ?_
  rintro e w2 ⟨q2, rfl, hq2, b2⟩
  have HB2 := hide (HB1.out.trans (b2.mono HB1.out.size))
  obtain rfl : q2 = true := hq2.2 (fun n h => h)
  clear b2 HB1 hq2
  go_wp2_with fail
  refine (refWithin_any ao bo n cap m cap' A B _ (HS.out.below HB2.out) (HR.out.below HB2.out) hn hm).mono ?_
  rintro e w3 ⟨q3, rfl, hq3, b3⟩
  have HB3 := hide (HB2.out.trans (b3.mono HB2.out.size))
  have HQ3 := hide hq3
  clear b3 HB2 hq3
  go_wp2_with fail
  refine (refOrder_any ao bo n cap m cap' A B _ (HS.out.below HB3.out) (HR.out.below HB3.out) hn hm).mono ?_
  rintro e w4 ⟨q4, rfl, hq4, b4⟩
  have HB4 := hide (HB3.out.trans (b4.mono HB3.out.size))
  have HQ4 := hide hq4
  clear b4 HB3 hq4
  go_wp2_with fail
  refine (within_any ao bo n cap m cap' A B _ (HS.out.below HB4.out) (HR.out.below HB4.out)).mono ?_
  rintro e w5 ⟨q5, rfl, hq5, b5⟩
  have HB5 := hide (HB4.out.trans (b5.mono HB4.out.size))
  obtain rfl : q5 = q3 := Bool.eq_iff_iff.2 (Iff.trans hq5 HQ3.out.symm)
  have hqq : (q5 == q5) = true := by simp
  clear b5 HB4 hq5
  go_wp2_with fail
  refine (order2_any ao bo n cap m cap' A B _ (HS.out.below HB5.out) (HR.out.below HB5.out)).mono ?_
  rintro e w6 ⟨q6, rfl, hq6, b6⟩
  have HB6 := hide (HB5.out.trans (b6.mono HB5.out.size))
  obtain rfl : q6 = q4 := hq6.unique HQ4.out
  have hoo : (q6 == q6) = true := by simp
  clear b6 HB5 hq6
  go_wp2_with fail
  go_ret
  exact ⟨rfl, HB6.out⟩
end Go.Proofs.Ytclmgkjmimondab
