/- Arrays compared by ==; counts.order, Order: their contracts. -/
import Derived.Test.YtmmgbcmcjakdoaaWAw
namespace Go.Proofs.Ytmmgbcmcjakdoaa
open Go.RowKit V

/-- the same numbers -/
def eqF (f g : Nat → Int) : Bool := (List.range 16).all fun r => f r == g r
theorem eqF_iff (f g : Nat → Int) : eqF f g = true ↔ ∀ r, r < 16 → f r = g r := by simp [eqF]
theorem part3 (f : Nat → Int) (i : Nat) (hi : i < 16) (w : World) : (part 3 (VC f) (i * 1)).run Try.prog w = .ok (.int .i64 (f i)) w := by
  have hagg : (isAgg 3).run Try.prog w = .ok false w := by
    unfold isAgg
    rw [Sem.run_bind, run_underlying Try.underlying3 w]
    rfl
  have := VC_at f i hi
  simp [part, Sem.run_bind, hagg, this]
theorem size3' (w : World) : (sizeOf 3).run Try.prog w = .ok 1 w := by
  cases hq : Try.prog.info? 3 with
  | none => have := size3; simp [hq] at this
  | some x =>
    have hs : x.size = 1 := by have := size3; simpa [hq] using this
    simp [sizeOf, typeInfo, hq, hs]
theorem run_eq56 (f g : Nat → Int) (w : World) : (Op.equalIn 10000 42 (.agg (VC f)) (.agg (VC g))).run Try.prog w = .ok (eqF f g) w := by
  obtain ⟨D, hD⟩ : ∃ D, 9999 = D := ⟨9999, rfl⟩
  have hin : ∀ (a b : Int) (w : World), (Op.equalIn D 3 (.int .i64 a) (.int .i64 b)).run Try.prog w = .ok (a == b) w := fun a b w => by
    subst hD; exact run_equalIn_int w 9998 3 .i64 .i64 a b Try.underlying3
  show (Op.equalIn (9999 + 1) 42 (.agg (VC f)) (.agg (VC g))).run Try.prog w = _
  rw [hD]
  clear hD
  simp only [Op.equalIn, Sem.run_bind, run_underlying Try.underlying42, Result.andThen_ok, size3']
  rw [Std.Legacy.Range.forIn_eq_forIn_range']
  have hl : List.range' [:16].start [:16].size [:16].step = List.range 16 := by decide
  rw [hl]
  have hall : ∀ i ∈ List.range 16, i < 16 := by simp
  unfold eqF
  generalize List.range 16 = l at hall ⊢
  clear hl
  induction l generalizing w with
  | nil => simp
  | cons i l ih =>
    have h1 := fun w => part3 f i (hall i (by simp)) w
    have h2 := fun w => part3 g i (hall i (by simp)) w
    have ih' := ih w (fun j hj => hall j (by simp [hj]))
    simp only [List.forIn_cons, Sem.run_bind, h1, h2, hin, Result.andThen_ok, List.all_cons]
    cases f i == g i
    · simp
    · simp only [Bool.not_true, Bool.false_eq_true, if_false, Sem.run_pure, Result.andThen_ok, Bool.true_and]
      exact ih'
attribute [local go_sem ↓] ld56_eq st56_eq run_eq56
attribute [local go_sem] zeros_VC cells_VA
/-- nowhere more -/
def leF (f g : Nat → Int) : Bool := (List.range 16).all fun r => decide (f r ≤ g r)
theorem leF_iff (f g : Nat → Int) : leF f g = true ↔ ∀ r, r < 16 → f r ≤ g r := by simp [leF]
/-- Order's answer -/
def ordF (f g : Nat → Int) : Int := if eqF f g = true then 0 else if leF f g = true then 1 else if leF g f = true then 2 else 3
theorem over_right (f g : Nat → Int) : eqF (fmax f g) g = leF f g := by
  rw [Bool.eq_iff_iff, eqF_iff, leF_iff]
  constructor
  · intro h r hr; have := h r hr; unfold fmax at this; split at this <;> omega
  · intro h r hr; have := h r hr; unfold fmax; split <;> omega
theorem over_left (f g : Nat → Int) : eqF (fmax f g) f = leF g f := by
  rw [Bool.eq_iff_iff, eqF_iff, leF_iff]
  constructor
  · intro h r hr; have := h r hr; unfold fmax at this; split at this <;> omega
  · intro h r hr; have := h r hr; unfold fmax; split <;> omega

set_option maxHeartbeats 1600000 in
theorem order_any (f g : Nat → Int) (w : World) :
    Calls Try.prog 29 #[VA f, VA g] w fun e w' => e = .returned (.int .i64 (ordF f g)) ∧ Below w.heap.size w w' := by
  have A := hide ((arr_new w 42 f).alloc (.cells (VC g) 42))
  have B := hide (arr_new2 w (.cells (VC f) 42) 42 g)
  have W := hide (((Below.refl w.heap.size w).alloc (Nat.le_refl _) (.cells (VC f) 42)).alloc (by simp) (.cells (VC g) 42))
  have l1 := run_ld56 A.out
  have l2 := run_ld56 B.out
  go_enter Try.func29, Try.ntmps29
  obtain ⟨x, Hx⟩ : ∃ x, Hid (eqF f g = x) := ⟨_, rfl⟩
  cases x with
  | true =>
    have hx := Hx.out
    have HO : Hid (ordF f g = 0) := by show _ = _; unfold ordF; rw [Hx.out]; rfl
    go_wp2_with fail
    go_ret
    exact ⟨ret_int HO.out.symm, W.out⟩
  | false =>
    have hx := Hx.out
    go_wp2_with fail
    obtain ⟨w0, Hw0⟩ : ∃ w0, (w.alloc (.cells (VC f) 42)).alloc (.cells (VC g) 42) = w0 := ⟨_, rfl⟩
    rw [Hw0] at A B W ⊢
    rw [Hw0] at l1 l2
    clear Hw0
    have la : ∀ d os, (ld56 (.pointer (some ⟨w.heap.size, 0, none⟩))).run Try.prog (Sort.grow (redrawn w0 d) os) = .ok (VA f) (Sort.grow (redrawn w0 d) os) := fun d os => run_ld56 (A.out.below (below_regrown w0 d os))
    have lb : ∀ d os, (ld56 (.pointer (some ⟨w.heap.size + 1, 0, none⟩))).run Try.prog (Sort.grow (redrawn w0 d) os) = .ok (VA g) (Sort.grow (redrawn w0 d) os) := fun d os => run_ld56 (B.out.below (below_regrown w0 d os))
    have cO : ∀ d os, Calls Try.prog 30 #[VA f, VA g] (Sort.grow (redrawn w0 d) os) fun e w'' => e = .returned (VA (fmax f g)) ∧ ∃ p : Regrown, w'' = Sort.grow (redrawn w0 p.d) p.os := fun d os => Calls.regrown_of (over_any f g _)
    have E1 := over_right f g
    have E2 := over_left f g
    refine wp_region_quiet_below (by kernel_rfl) (by kernel_rfl) ?_
    repeat (quiet_step ((go_at_call 30; exact cO _ _)))
    refine wpQuiet_nil ?_
    intro _ hw'
    obtain ⟨⟨dq, osq⟩, hw''⟩ := hw'
    subst hw''
    have W1 := hide (W.out.trans ((below_regrown w0 dq osq).mono W.out.size))
    have A1 := hide (A.out.below (below_regrown w0 dq osq))
    have B1 := hide (B.out.below (below_regrown w0 dq osq))
    obtain ⟨w1, Hw1⟩ : ∃ w1, Sort.grow (redrawn w0 dq) osq = w1 := ⟨_, rfl⟩
    rw [Hw1] at W1 A1 B1 ⊢
    clear Hw1 la lb cO l1 l2 A B W
    obtain ⟨y, Hy⟩ : ∃ y, Hid (leF f g = y) := ⟨_, rfl⟩
    rw [Hy.out]
    cases y with
    | true =>
      have HO : Hid (ordF f g = 1) := by show _ = _; unfold ordF; rw [Hx.out, Hy.out]; rfl
      go_wp2_with fail
      go_ret
      exact ⟨ret_int HO.out.symm, W1.out⟩
    | false =>
      go_wp2_with fail
      have la : ∀ d os, (ld56 (.pointer (some ⟨w.heap.size, 0, none⟩))).run Try.prog (Sort.grow (redrawn w1 d) os) = .ok (VA f) (Sort.grow (redrawn w1 d) os) := fun d os => run_ld56 (A1.out.below (below_regrown w1 d os))
      have lb : ∀ d os, (ld56 (.pointer (some ⟨w.heap.size + 1, 0, none⟩))).run Try.prog (Sort.grow (redrawn w1 d) os) = .ok (VA g) (Sort.grow (redrawn w1 d) os) := fun d os => run_ld56 (B1.out.below (below_regrown w1 d os))
      have cO : ∀ d os, Calls Try.prog 30 #[VA f, VA g] (Sort.grow (redrawn w1 d) os) fun e w'' => e = .returned (VA (fmax f g)) ∧ ∃ p : Regrown, w'' = Sort.grow (redrawn w1 p.d) p.os := fun d os => Calls.regrown_of (over_any f g _)
      refine wp_region_quiet_below (by kernel_rfl) (by kernel_rfl) ?_
      repeat (quiet_step ((go_at_call 30; exact cO _ _)))
      refine wpQuiet_nil ?_
      intro _ hw'
      obtain ⟨⟨dq2, osq2⟩, hw''⟩ := hw'
      subst hw''
      have W2 := hide (W1.out.trans ((below_regrown w1 dq2 osq2).mono W1.out.size))
      obtain ⟨w2, Hw2⟩ : ∃ w2, Sort.grow (redrawn w1 dq2) osq2 = w2 := ⟨_, rfl⟩
      rw [Hw2] at W2 ⊢
      clear Hw2 la lb cO
      obtain ⟨z, Hz⟩ : ∃ z, Hid (leF g f = z) := ⟨_, rfl⟩
      rw [Hz.out]
      cases z with
      | true =>
        have HO : Hid (ordF f g = 2) := by show _ = _; unfold ordF; rw [Hx.out, Hy.out, Hz.out]; rfl
        go_wp2_with fail
        go_ret
        exact ⟨ret_int HO.out.symm, W2.out⟩
      | false =>
        have HO : Hid (ordF f g = 3) := by show _ = _; unfold ordF; rw [Hx.out, Hy.out, Hz.out]; rfl
        go_wp2_with fail
        go_ret
        exact ⟨ret_int HO.out.symm, W2.out⟩

set_option maxHeartbeats 800000 in
theorem vorder_any (ao bo : Option Addr) (n c m d : Nat) (X Y : List Int) (w : World) (hX : Src w ao n c X) (hY : Src w bo m d Y) :
    Calls Try.prog 16 #[.slice ao n c, .slice bo m d] w fun e w' => e = .returned (.int .i64 (ordF (at' X) (at' Y))) ∧ Below w.heap.size w w' := by
  have HX := hide hX
  have HY := hide hY
  clear hX hY
  go_enter Try.func16, Try.ntmps16
  go_wp2_with fail
  refine (meant_any ao n c X _ HX.out).mono ?_
  rintro e w1 ⟨rfl, b1⟩
  have Y1 := hide (HY.out.below b1)
  go_wp2_with fail
  refine (meant_any bo m d Y _ Y1.out).mono ?_
  rintro e w2 ⟨rfl, b2⟩
  have B2 := hide (below_on2 b1 b2)
  clear b1 b2
  go_wp2_with fail
  refine (order_any _ _ _).mono ?_
  rintro e w3 ⟨rfl, b3⟩
  have B3 := hide (B2.out.trans (b3.mono B2.out.size))
  clear b3
  go_wp2_with fail
  go_ret
  exact ⟨rfl, B3.out⟩
end Go.Proofs.Ytmmgbcmcjakdoaa
