/- Has: its contract. -/
import Derived.Test.YthehbnfkobkciaaRMr
import Derived.Test.YthehbnfkobkciaaShc
namespace Go.Proofs.Ythehbnfkobkciaa
open Go.RowKit
attribute [local go_sem ↓] ldR_eq stR_eq
attribute [local go_sem] zero_RC cells_RV RC_size fold_RC

theorem isNumber_any (x : Int) (w : World) : Calls Try.prog 20 #[.int .i64 x] w fun e w' => e = .returned (.bool (decide (1 ≤ x) && decide (x ≤ 1000000000))) ∧ w' = w := by
  by_cases h1 : 1 ≤ x
  · have HF : Hid ((decide (1 ≤ x) && decide (x ≤ 1000000000)) = decide (x ≤ 1000000000)) := by show _ = _; simp [h1]
    rw [HF.out]
    go_enter Try.func20, Try.ntmps20
    go_wp2_with fail
    go_ret
    exact ⟨rfl, rfl⟩
  · have HF : Hid ((decide (1 ≤ x) && decide (x ≤ 1000000000)) = false) := by show _ = _; rw [decide_eq_false h1]; rfl
    rw [HF.out]
    go_enter Try.func20, Try.ntmps20
    go_wp2_with fail
    go_ret
    exact ⟨rfl, rfl⟩
theorem idx_nil (ao : Option Addr) (c : Nat) (v : Value) (w : World) : Calls Try.prog 28 #[.slice ao 0 c, v] w fun e w' => e = .returned (.int .i64 (-1)) ∧ w' = w := by
  go_enter Try.func28, Try.ntmps28
  go_wp2_with fail
  go_loopw [5, 8] (fun _ i wr => i = .int .i64 0 ∧ wr = w) (fun _ _ _ => 0)
  case atStart => exact ⟨rfl, rfl⟩
  case round =>
    obtain ⟨rfl, rfl⟩ := hrel
    go_wp2_with fail
    go_ret
    exact ⟨rfl, rfl⟩
theorem con_nil (ao : Option Addr) (c : Nat) (v : Value) (w : World) : Calls Try.prog 21 #[.slice ao 0 c, v] w fun e w' => e = .returned (.bool false) ∧ w' = w := by
  go_enter Try.func21, Try.ntmps21
  go_wp2_with (go_at_call 28; refine (idx_nil _ _ _ _).mono ?_; rintro e w' ⟨rfl, rfl⟩)
  go_ret
  exact ⟨rfl, rfl⟩
def inRun (x : Int) (r : Rn) : Bool := decide (r.lo ≤ x) && decide (x ≤ r.hi)
theorem lit_any (p : Addr) (r : Rn) (x : Int) (w : World) (hp : p.block < w.heap.size) (hx : w.cell? p = some (.int .i64 x)) : Calls Try.prog 22 #[RV r, .pointer (some p)] w fun e w' => e = .returned (.bool (inRun x r)) ∧ Below w.heap.size w w' := by
  have HB := hide (below_new w (.cells (RC r) 28))
  have X1 := box_new w 28 r
  have c0 := X1.at.c0
  have c1 : (w.alloc (.cells (RC r) 28)).cell? ⟨w.heap.size, 1, none⟩ = some (.int .i64 r.hi) := X1.at.c1
  have c2 : (w.alloc (.cells (RC r) 28)).cell? p = some (.int .i64 x) := (HB.out.cell hp).trans hx
  clear X1 hx hp
  by_cases h1 : r.lo ≤ x
  · have HF : Hid (inRun x r = decide (x ≤ r.hi)) := by show _ = _; simp [inRun, h1]
    go_enter Try.func22, Try.ntmps22
    go_wp2_with fail
    go_ret
    exact ⟨ret_bool HF.out.symm, HB.out⟩
  · have HF : Hid (inRun x r = false) := by show _ = _; simp [inRun, h1]
    go_enter Try.func22, Try.ntmps22
    go_wp2_with fail
    go_ret
    exact ⟨ret_bool HF.out.symm, HB.out⟩
theorem con_any (ao : Option Addr) (n cap : Nat) (A : List Rn) (p : Addr) (x : Int) (w : World) (hS : RSrc w ao n cap A) (hx : w.cell? p = some (.int .i64 x)) :
    Calls Try.prog 21 #[.slice ao n cap, .func (.func 22) #[] #[.pointer (some p)]] w fun e w' => e = .returned (.bool (A.any (inRun x))) ∧ Below w.heap.size w w' := by
  by_cases hn : n = 0
  · subst hn
    have e := List.eq_nil_of_length_eq_zero hS.len
    subst e
    refine (con_nil ao cap _ w).mono ?_
    rintro e w' ⟨rfl, rfl⟩
    exact ⟨rfl, Below.refl _ _⟩
  · obtain ⟨ad, rfl, A0⟩ := hS.at 0 (by omega)
    obtain ⟨b, o, rfl⟩ := hS.spot (by omega)
    have eg : ∀ args w, (callFunc 22 args).run Try.prog w = .ok (.enter 22 args) w := enters_of Try.func22 (by kernel_rfl) rfl
    have h0 := World.block_lt_of_cell? _ _ A0.c0
    rw [block_add] at h0
    have hp := World.block_lt_of_cell? _ _ hx
    have h := AnyQ.slices_ContainsFunc Try.conR 2 Try.isAgg28 Try.sizeOf28 encR (fun _ => rfl) (inRun x) 22 #[.pointer (some p)] eg b o n cap A w
      (fun W r hb => (lit_any p r x W (Nat.lt_of_lt_of_le hp hb.size) ((hb.cell hp).trans hx)).mono fun e w' ⟨he, hb'⟩ => ⟨he, hb.trans (hb'.mono hb.size)⟩)
      (by rw [hS.len]; exact Nat.le_refl _) (by have := hS.big; omega) h0
      (fun j hj i v hv => by
        obtain ⟨q0, q1⟩ := hS.nums j (by rw [← hS.len]; exact hj)
        have e : A[j]! = A.getD j rn0 := by rw [getElem!_pos A j hj]; simp [List.getD, hj]
        rw [e] at hv
        match i, hv with
        | 0, hv => rw [← hv]; exact q0
        | 1, hv => rw [← hv]; exact q1
        | i + 2, hv => simp [encR, RC] at hv)
    rw [List.take_of_length_le (by rw [hS.len]; exact Nat.le_refl _)] at h
    exact h
theorem any_mem (A : List Rn) (x : Int) (h1 : 1 ≤ x) (h2 : x ≤ 1000000000) : A.any (inRun x) = true ↔ mem A x := by
  rw [List.any_eq_true]
  constructor
  · rintro ⟨r, hr, e⟩
    simp [inRun] at e
    exact ⟨h1, h2, r, hr, e⟩
  · rintro ⟨_, _, r, hr, e⟩
    exact ⟨r, hr, by simp [inRun, e]⟩
theorem has_any (ao : Option Addr) (n cap : Nat) (A : List Rn) (x : Int) (w : World) (hS : RSrc w ao n cap A) :
    Calls Try.prog 10 #[.slice ao n cap, .int .i64 x] w fun e w' => ∃ b, e = .returned (.bool b) ∧ (b = true ↔ mem A x) ∧ Below w.heap.size w w' := by
  have HS := hide hS
  clear hS
  have HB0 := hide (below_new w (.cells #[.int .i64 x] 3))
  have c0 : (w.alloc (.cells #[.int .i64 x] 3)).cell? ⟨w.heap.size, 0, none⟩ = some (.int .i64 x) := by rw [World.cell?_alloc_new]; rfl
  go_enter Try.func10, Try.ntmps10
  go_wp2_with fail
  refine (isNumber_any x _).mono ?_
  rintro e w1 ⟨rfl, rfl⟩
  by_cases hx : 1 ≤ x ∧ x ≤ 1000000000
  · rw [show (decide (1 ≤ x) && decide (x ≤ 1000000000)) = true by simp [hx]]
    go_wp2_with fail
    refine (con_any ao n cap A _ x _ (HS.out.below HB0.out) c0).mono ?_
    rintro e w2 ⟨rfl, b2⟩
    have HB2 := hide (HB0.out.trans (b2.mono HB0.out.size))
    have HM := hide (any_mem A x hx.1 hx.2)
    clear b2
    go_wp2_with fail
    go_ret
    exact ⟨_, rfl, HM.out, HB2.out⟩
  · rw [show (decide (1 ≤ x) && decide (x ≤ 1000000000)) = false by simp; intro h; exact Int.not_le.1 (fun h' => hx ⟨h, h'⟩)]
    go_wp2_with fail
    go_ret
    exact ⟨_, rfl, ⟨fun h => by simp at h, fun h => absurd ⟨h.1, h.2.1⟩ hx⟩, HB0.out⟩
end Go.Proofs.Ythehbnfkobkciaa
