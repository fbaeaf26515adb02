/- counts.compare, Compare: their contracts. -/
import Derived.Test.YtdilejbdkhkifaaCmp
import Derived.Test.YtdilejbdkhkifaaOrd
namespace Go.Proofs.Ytdilejbdkhkifaa
open Go.RowKit
attribute [local go_sem ↓] ld56_eq st56_eq ld55_eq st55_eq
attribute [local go_sem] zeros_VC cells_VA

theorem cmp_below (x y : Int) (w : World) : Calls Try.prog 48 #[.int .i64 x, .int .i64 y] w fun e w' => e = .returned (.int .i64 (cmpI x y)) ∧ Below w.heap.size w w' := by
  refine (cmp_any x y w).mono ?_
  rintro e w' ⟨rfl, rfl⟩
  exact ⟨rfl, Below.refl _ _⟩
/-- Compare's answer -/
def compF (f g : Nat → Int) : Int := if cmpI (sumN f 16) (sumN g 16) = 0 then lexF f g 16 0 else cmpI (sumN f 16) (sumN g 16)

set_option maxHeartbeats 1600000 in
theorem compare_any (f g : Nat → Int) (w : World) (hf : Bd f) (hg : Bd g) :
    Calls Try.prog 47 #[VA f, VA g] w fun e w' => e = .returned (.int .i64 (compF f g)) ∧ Below w.heap.size w w' := by
  have HF := hide hf
  have HG := hide hg
  clear hf hg
  have A := hide ((arr_new w 56 f).alloc (.cells (VC g) 56))
  have B := hide (arr_new2 w (.cells (VC f) 56) 56 g)
  have W := hide (((Below.refl w.heap.size w).alloc (Nat.le_refl _) (.cells (VC f) 56)).alloc (by simp) (.cells (VC g) 56))
  go_enter Try.func47, Try.ntmps47
  go_wp2_with fail
  obtain ⟨w0, Hw0⟩ : ∃ w0, (w.alloc (.cells (VC f) 56)).alloc (.cells (VC g) 56) = w0 := ⟨_, rfl⟩
  rw [Hw0] at A B W ⊢
  clear Hw0
  have la : ∀ d os, (ld56 (.pointer (some ⟨w.heap.size, 0, none⟩))).run Try.prog (Sort.grow (redrawn w0 d) os) = .ok (VA f) (Sort.grow (redrawn w0 d) os) := fun d os => run_ld56 (A.out.below (below_regrown w0 d os))
  have lb : ∀ d os, (ld56 (.pointer (some ⟨w.heap.size + 1, 0, none⟩))).run Try.prog (Sort.grow (redrawn w0 d) os) = .ok (VA g) (Sort.grow (redrawn w0 d) os) := fun d os => run_ld56 (B.out.below (below_regrown w0 d os))
  obtain ⟨x, Hx⟩ : ∃ x, Hid (sumN f 16 = x) := ⟨_, rfl⟩
  obtain ⟨y, Hy⟩ : ∃ y, Hid (sumN g 16 = y) := ⟨_, rfl⟩
  obtain ⟨q, Hq⟩ : ∃ q, Hid (cmpI x y = q) := ⟨_, rfl⟩
  have HC : Hid (compF f g = if q = 0 then lexF f g 16 0 else q) := by show _ = _; unfold compF; rw [Hx.out, Hy.out, Hq.out]
  have cX : ∀ d os, Calls Try.prog 39 #[VA f] (Sort.grow (redrawn w0 d) os) fun e w'' => e = .returned (.int .i64 x) ∧ ∃ p : Regrown, w'' = Sort.grow (redrawn w0 p.d) p.os := fun d os => by
    have := sum_any f (Sort.grow (redrawn w0 d) os) HF.out
    rw [Hx.out] at this
    exact Calls.regrown_of this
  have cY : ∀ d os, Calls Try.prog 39 #[VA g] (Sort.grow (redrawn w0 d) os) fun e w'' => e = .returned (.int .i64 y) ∧ ∃ p : Regrown, w'' = Sort.grow (redrawn w0 p.d) p.os := fun d os => by
    have := sum_any g (Sort.grow (redrawn w0 d) os) HG.out
    rw [Hy.out] at this
    exact Calls.regrown_of this
  have cQ : ∀ d os, Calls Try.prog 48 #[.int .i64 x, .int .i64 y] (Sort.grow (redrawn w0 d) os) fun e w'' => e = .returned (.int .i64 q) ∧ ∃ p : Regrown, w'' = Sort.grow (redrawn w0 p.d) p.os := fun d os => by
    have := cmp_below x y (Sort.grow (redrawn w0 d) os)
    rw [Hq.out] at this
    exact Calls.regrown_of this
  refine wp_region_quiet_below (by kernel_rfl) (by kernel_rfl) ?_
  repeat (quiet_step (first | (go_at_call_of 39 f; exact cX _ _) | (go_at_call_of 39 g; exact cY _ _) | (go_at_call 48; exact cQ _ _)))
  refine wpQuiet_nil ?_
  intro _ hw'
  obtain ⟨⟨dq, osq⟩, hw''⟩ := hw'
  subst hw''
  have W1 := hide (W.out.trans ((below_regrown w0 dq osq).mono W.out.size))
  have A1 := hide (A.out.below (below_regrown w0 dq osq))
  have B1 := hide (B.out.below (below_regrown w0 dq osq))
  obtain ⟨w1, Hw1⟩ : ∃ w1, Sort.grow (redrawn w0 dq) osq = w1 := ⟨_, rfl⟩
  rw [Hw1] at W1 A1 B1 ⊢
  clear Hw1 la lb cX cY cQ A B W
  by_cases h0 : q = 0
  · have h0' : (q != 0) = false := by simp [h0]
    have HN : Hid (compF f g = lexF f g 16 0) := by show _ = _; rw [HC.out, if_pos h0]
    clear h0
    have A1d : Hid (Arr w1.drew w.heap.size 56 f) := A1.out
    have B1d : Hid (Arr w1.drew (w.heap.size + 1) 56 g) := B1.out
    have W1d : Hid (Below w.heap.size w w1.drew) := below_drew W1.out
    go_wp2_with fail
    go_region_with (go_at_call 49; refine (slicesCompare_any _ _ f g _ A1d.out B1d.out).mono ?_; rintro e w' ⟨rfl, rfl⟩)
    all_goals (go_wp2_with fail)
    all_goals go_ret
    all_goals exact ⟨ret_int HN.out.symm, W1d.out⟩
  · have h0' : (q != 0) = true := by simp [h0]
    have HN : Hid (compF f g = q) := by show _ = _; rw [HC.out, if_neg h0]
    clear h0
    go_wp2_with fail
    go_ret
    exact ⟨ret_int HN.out.symm, W1.out⟩

set_option maxHeartbeats 800000 in
theorem vcompare_any (ao bo : Option Addr) (n c m d : Nat) (X Y : List Int) (w : World) (hX : Src w ao n c X) (hY : Src w bo m d Y) :
    Calls Try.prog 32 #[.slice ao n c, .slice bo m d] w fun e w' => e = .returned (.int .i64 (compF (at' X) (at' Y))) ∧ Below w.heap.size w w' := by
  have HX := hide hX
  have HY := hide hY
  clear hX hY
  go_enter Try.func32, Try.ntmps32
  go_wp2_with fail
  refine (meant_any ao n c X _ HX.out).mono ?_
  rintro e w1 ⟨rfl, b1⟩
  have Y1 := hide (HY.out.below b1)
  go_wp2_with fail
  refine (meant_any bo m d Y _ Y1.out).mono ?_
  rintro e w2 ⟨rfl, b2⟩
  have B2 := hide (below_on2 b1 b2)
  clear b1 b2
  go_wp2_with fail
  refine (compare_any _ _ _ (bd_at X) (bd_at Y)).mono ?_
  rintro e w3 ⟨rfl, b3⟩
  have B3 := hide (B2.out.trans (b3.mono B2.out.size))
  clear b3
  go_wp2_with fail
  go_ret
  exact ⟨rfl, B3.out⟩
end Go.Proofs.Ytdilejbdkhkifaa
