/- counts: sum and compare; vector's Compare. -/
import Derived.Test.YtmmgbcmcjakdoaaWCq
import Derived.Sort.Grow
namespace Go.Proofs.Ytmmgbcmcjakdoaa
open Go.RowKit Go.Sort V
attribute [local go_sem ↓] ld56_eq st56_eq
attribute [local go_sem] zeros_VC cells_VA

def sumN (f : Nat → Int) : Nat → Int
  | 0 => 0
  | k + 1 => sumN f k + f k
theorem sumN_bd {f : Nat → Int} (h : ∀ r, r < 16 → 0 ≤ f r ∧ f r ≤ 1000000000) : ∀ k, k ≤ 16 → 0 ≤ sumN f k ∧ sumN f k ≤ k * 1000000000
  | 0, _ => by simp [sumN]
  | k + 1, hk => by
    have := sumN_bd h k (by omega)
    have := h k (by omega)
    simp only [sumN]
    omega
def Bnd (f : Nat → Int) : Prop := ∀ r, r < 16 → 0 ≤ f r ∧ f r ≤ 1000000000
theorem bnd_at (Z : List Int) : Bnd (at' Z) := fun r _ => at'_bd Z r
set_option maxRecDepth 100000 in
theorem sum_any (f : Nat → Int) (w : World) (hf : Bnd f) : Calls Try.prog 39 #[VA f] w fun e w' => e = .returned (.int .i64 (sumN f 16)) ∧ w' = w.alloc (.cells (VC f) 42) := by
  have HA := hide (arr_new w 42 f)
  have HF := hide hf
  go_enter Try.func39, Try.ntmps39
  go_wp2_with fail
  obtain ⟨w1, hw1⟩ : ∃ w1, w.alloc (.cells (VC f) 42) = w1 := ⟨_, rfl⟩
  have HW1 := hide hw1
  rw [hw1] at HA ⊢
  clear hw1
  go_loopw [3, 4, 5] (fun s _ i wr => ∃ k : Nat, k ≤ 16 ∧ s = .int .i64 (sumN f k) ∧ i = .int .i64 k ∧ wr = w1) (fun _ _ i _ => 16 - (intOf i).toNat)
  case atStart => exact ⟨0, by omega, rfl, rfl, rfl⟩
  case round =>
    obtain ⟨k, hk, rfl, rfl, hw⟩ := hrel
    subst hw
    by_cases hlt : k < 16
    · have hc := HA.out.cell k hlt
      have h1 := sumN_bd HF.out k hk
      have h2 := HF.out k hlt
      have h3 := HF.out
      have hw : wrap64 (sumN f k + f k) = sumN f (k + 1) := by unfold wrap64; simp only [sumN]; omega
      obtain ⟨s, hs⟩ : ∃ s, sumN f k = s := ⟨_, rfl⟩
      obtain ⟨z, hz⟩ : ∃ z, f k = z := ⟨_, rfl⟩
      obtain ⟨t, ht⟩ : ∃ t, sumN f (k + 1) = t := ⟨_, rfl⟩
      rw [hs, hz, ht] at hw
      rw [hz] at hc
      rw [hs]
      have HT := hide ht
      clear h1 h2 h3 hs hz ht
      go_wp2_with fail
      go_roundw
      case rel => exact ⟨k + 1, by omega, by rw [HT.out, hw], by go_num, by first | trivial | rfl⟩
      case measure => simp [intOf]; omega
    · obtain rfl : k = 16 := by omega
      go_wp2_with fail
      go_ret
      exact ⟨rfl, HW1.out.symm⟩
/-- draws and new blocks alone -/
def Grew (w w' : World) : Prop := ∃ q os, w' = grow (w.drewN q) os
theorem grow_drewN (w : World) (os : Array Obj) (q : Nat) : (grow w os).drewN q = grow (w.drewN q) os := rfl
theorem Grew.refl (w : World) : Grew w w := ⟨0, #[], by rw [grow_empty]; rfl⟩
theorem Grew.trans {a b c : World} (h : Grew a b) (k : Grew b c) : Grew a c := by
  obtain ⟨q, os, rfl⟩ := h
  obtain ⟨q', os', rfl⟩ := k
  exact ⟨q + q', os ++ os', by rw [grow_drewN, grow_grow, World.drewN_drewN]⟩
theorem Grew.below {w w' : World} (h : Grew w w') : Below w.heap.size w w' := by
  obtain ⟨q, os, rfl⟩ := h
  exact ⟨rfl, rfl, rfl, by simp [grow, World.drewN], fun k hk => by simp [grow, World.drewN, Array.getElem?_append, hk]⟩
theorem grew_new (w : World) (o : Obj) : Grew w (w.alloc o) := ⟨0, #[o], alloc_eq_grow w o⟩
theorem grew_drew (w : World) : Grew w w.drew := ⟨1, #[], by rw [grow_empty]; rfl⟩
theorem region_grew {P : Program} {id : Nat} {Q : Exit → Act → World → Prop} {a : Act} {w : World} {l : List Oper} (hm : P.follows .mixedOrders = true) (hB : Region.lexB .any l.toArray = true)
    (h : wpQuiet P l.toArray (fun w' => ∃ p : Regrown, w' = grow (w.drewN p.d) p.os) (fun a' => ∀ w', (∃ p : Regrown, w' = grow (w.drewN p.d) p.os) → Q .normal a' w') l a) : (Code.region id l.toArray true).wp P Q a w :=
  wp_region_quiet (C := fun w' => ∃ p : Regrown, w' = grow (w.drewN p.d) p.os) hm hB ⟨⟨1, #[]⟩, by rw [grow_empty]; rfl⟩ (by simpa using h)
theorem grew_p {w w' : World} {d : Nat} {os : Array Obj} (h : Grew (grow (w.drewN d) os) w') : ∃ p : Regrown, w' = grow (w.drewN p.d) p.os := by
  obtain ⟨q, os', rfl⟩ := h
  exact ⟨⟨d + q, os ++ os'⟩, by rw [grow_drewN, grow_grow, World.drewN_drewN]⟩
theorem grew_at (w : World) (d : Nat) (os : Array Obj) : Grew w (grow (w.drewN d) os) := ⟨d, os, rfl⟩
/-- the sixteen numbers -/
def lst (f : Nat → Int) : List Int := (List.range 16).map f
/-- the order of counts -/
def cmpV (f g : Nat → Int) : Int := if cmpI (sumN f 16) (sumN g 16) = 0 then lex cmpI (lst f) (lst g) else cmpI (sumN f 16) (sumN g 16)
theorem lst_len (f : Nat → Int) : (lst f).length = 16 := by simp [lst]
theorem lst_at (f : Nat → Int) (t : Nat) (h : t < 16) : (lst f).getD t 0 = f t := by simp [lst, List.getD, h]
theorem arr_src {w : World} {g : Nat} {T : TypeId} {f : Nat → Int} (h : Arr w g T f) : Src w (some ⟨g, 0, none⟩) 16 16 (lst f) := by
  refine ⟨lst_len f, (fun e => by cases e), fun ad e t ht => ?_⟩
  obtain rfl := Option.some.inj e
  rw [Addr.add_lit, Nat.zero_add, h.cell t ht, lst_at f t ht]
set_option maxHeartbeats 1600000 in
theorem compare_any (f g : Nat → Int) (w : World) (hf : Bnd f) (hg : Bnd g) :
    Calls Try.prog 27 #[VA f, VA g] w fun e w' => e = .returned (.int .i64 (cmpV f g)) ∧ Grew w w' := by
  have HF := hide hf
  have HG := hide hg
  clear hf hg
  have A := hide ((arr_new w 42 f).alloc (.cells (VC g) 42))
  have B := hide (arr_new2 w (.cells (VC f) 42) 42 g)
  have W := hide ((grew_new w (.cells (VC f) 42)).trans (grew_new _ (.cells (VC g) 42)))
  go_enter Try.func27, Try.ntmps27
  go_wp2_with fail
  obtain ⟨w0, Hw0⟩ : ∃ w0, (w.alloc (.cells (VC f) 42)).alloc (.cells (VC g) 42) = w0 := ⟨_, rfl⟩
  rw [Hw0] at A B W ⊢
  clear Hw0
  have la : ∀ d os, (ld56 (.pointer (some ⟨w.heap.size, 0, none⟩))).run Try.prog (grow (w0.drewN d) os) = .ok (VA f) (grow (w0.drewN d) os) := fun d os => run_ld56 (A.out.below ((grew_at w0 d os).below))
  have lb : ∀ d os, (ld56 (.pointer (some ⟨w.heap.size + 1, 0, none⟩))).run Try.prog (grow (w0.drewN d) os) = .ok (VA g) (grow (w0.drewN d) os) := fun d os => run_ld56 (B.out.below ((grew_at w0 d os).below))
  obtain ⟨x, Hx⟩ : ∃ x, Hid (sumN f 16 = x) := ⟨_, rfl⟩
  obtain ⟨y, Hy⟩ : ∃ y, Hid (sumN g 16 = y) := ⟨_, rfl⟩
  obtain ⟨q, Hq⟩ : ∃ q, Hid (cmpI x y = q) := ⟨_, rfl⟩
  have HC : Hid (cmpV f g = if q = 0 then lex cmpI (lst f) (lst g) else q) := by show _ = _; unfold cmpV; rw [Hx.out, Hy.out, Hq.out]
  have cX : ∀ d os, Calls Try.prog 39 #[VA f] (grow (w0.drewN d) os) fun e w'' => e = .returned (.int .i64 x) ∧ ∃ p : Regrown, w'' = grow (w0.drewN p.d) p.os := fun d os => by
    refine (sum_any f (grow (w0.drewN d) os) HF.out).mono ?_
    rintro e w' ⟨rfl, rfl⟩
    exact ⟨by rw [Hx.out], grew_p (grew_new _ _)⟩
  have cY : ∀ d os, Calls Try.prog 39 #[VA g] (grow (w0.drewN d) os) fun e w'' => e = .returned (.int .i64 y) ∧ ∃ p : Regrown, w'' = grow (w0.drewN p.d) p.os := fun d os => by
    refine (sum_any g (grow (w0.drewN d) os) HG.out).mono ?_
    rintro e w' ⟨rfl, rfl⟩
    exact ⟨by rw [Hy.out], grew_p (grew_new _ _)⟩
  have cQ : ∀ d os, Calls Try.prog 38 #[.int .i64 x, .int .i64 y] (grow (w0.drewN d) os) fun e w'' => e = .returned (.int .i64 q) ∧ ∃ p : Regrown, w'' = grow (w0.drewN p.d) p.os := fun d os => by
    refine (cmp_any x y (grow (w0.drewN d) os)).mono ?_
    rintro e w' ⟨rfl, rfl⟩
    exact ⟨by rw [Hq.out], grew_p (Grew.refl _)⟩
  refine region_grew (by kernel_rfl) (by kernel_rfl) ?_
  repeat (quiet_step (first | (go_at_call_of 39 f; exact cX _ _) | (go_at_call_of 39 g; exact cY _ _) | (go_at_call 38; exact cQ _ _)))
  refine wpQuiet_nil ?_
  intro _ hw'
  obtain ⟨⟨dq, osq⟩, hw''⟩ := hw'
  subst hw''
  have W1 := hide (W.out.trans (grew_at w0 dq osq))
  have A1 := hide (A.out.below ((grew_at w0 dq osq).below))
  have B1 := hide (B.out.below ((grew_at w0 dq osq).below))
  obtain ⟨w1, Hw1⟩ : ∃ w1, grow (w0.drewN dq) osq = w1 := ⟨_, rfl⟩
  rw [Hw1] at W1 A1 B1 ⊢
  clear Hw1 la lb cX cY cQ A B W
  by_cases h0 : q = 0
  · have h0' : (q != 0) = false := by simp [h0]
    have HN : Hid (cmpV f g = lex cmpI (lst f) (lst g)) := by show _ = _; rw [HC.out, if_pos h0]
    clear h0
    have A1d : Hid (Arr w1.drew w.heap.size 42 f) := A1.out
    have B1d : Hid (Arr w1.drew (w.heap.size + 1) 42 g) := B1.out
    have W1d : Hid (Grew w w1.drew) := W1.out.trans (grew_drew w1)
    go_wp2_with fail
    go_region_with (go_at_call 40; refine (slCompare_any _ _ _ _ _ _ (lst f) (lst g) _ (arr_src A1d.out) (arr_src B1d.out) (by omega) (by omega)).mono ?_; rintro e w' ⟨rfl, rfl⟩)
    all_goals (go_wp2_with fail)
    all_goals go_ret
    all_goals exact ⟨ret_int HN.out.symm, W1d.out⟩
  · have h0' : (q != 0) = true := by simp [h0]
    have HN : Hid (cmpV f g = q) := by show _ = _; rw [HC.out, if_neg h0]
    clear h0
    go_wp2_with fail
    go_ret
    exact ⟨ret_int HN.out.symm, W1.out⟩

set_option maxHeartbeats 800000 in
theorem vcompare_any (ao bo : Option Addr) (n c m d : Nat) (X Y : List Int) (w : World) (hX : Src w ao n c X) (hY : Src w bo m d Y) :
    Calls Try.prog 13 #[.slice ao n c, .slice bo m d] w fun e w' => e = .returned (.int .i64 (cmpV (at' X) (at' Y))) ∧ Below w.heap.size w w' := by
  have HX := hide hX
  have HY := hide hY
  clear hX hY
  go_enter Try.func13, Try.ntmps13
  go_wp2_with fail
  refine (meant_any ao n c X _ HX.out).mono ?_
  rintro e w1 ⟨rfl, b1⟩
  have Y1 := hide (HY.out.below b1)
  go_wp2_with fail
  refine (meant_any bo m d Y _ Y1.out).mono ?_
  rintro e w2 ⟨rfl, b2⟩
  have B2 := hide (below_on2 b1 b2)
  clear b1 b2
  go_wp2_with fail
  refine (compare_any _ _ _ (bnd_at X) (bnd_at Y)).mono ?_
  rintro e w3 ⟨rfl, g3⟩
  have b3 := g3.below
  have B3 := hide (B2.out.trans (b3.mono B2.out.size))
  clear b3 g3
  go_wp2_with fail
  go_ret
  exact ⟨rfl, B3.out⟩
end Go.Proofs.Ytmmgbcmcjakdoaa
