/- VectorTotal: the law's walk. -/
import Derived.Test.YtdilejbdkhkifabTPl
import Derived.Test.YtdilejbdkhkifabFiLaw
namespace Go.Proofs.Ytdilejbdkhkifab
open Go.RowKit

/-- what stands all the way through: old memory, the three lists -/
structure Th3 (w W : World) (ao bo co : Option Addr) (n c m d k e : Nat) (X Y Z : List Int) : Prop where
  below : Below w.heap.size w W
  x : Src W ao n c X
  y : Src W bo m d Y
  z : Src W co k e Z
theorem Th3.on {w W W' : World} {ao bo co : Option Addr} {n c m d k e : Nat} {X Y Z : List Int} (h : Th3 w W ao bo co n c m d k e X Y Z) (hb : Below W.heap.size W W') : Th3 w W' ao bo co n c m d k e X Y Z :=
  ⟨h.below.trans (hb.mono h.below.size), h.x.below hb, h.y.below hb, h.z.below hb⟩
theorem below_new (w : World) (o : Obj) : Below w.heap.size w (w.alloc o) := (Below.refl _ _).alloc (Nat.le_refl _) _
theorem small_of {w : World} {ao : Option Addr} {n c : Nat} {Z : List Int} (S : Src w ao n c Z) (h : Z.length ≤ 16) : n ≤ maxLen := by have := S.1; unfold maxLen; omega
theorem short_small (f : Nat → Int) : (short f).length ≤ 16 := by rw [short_length]; exact top_le f
theorem lit_compare (w : World) (g g' : Nat) (hg : w.heap.size = g) (hg' : w.heap.size + 1 = g') : Calls Try.prog 13 #[.slice (some ⟨g, 0, none⟩) 2 2, .slice (some ⟨g', 0, none⟩) 1 1] ((w.alloc (.cells #[.int .i64 1, .int .i64 2] 3)).alloc (.cells #[.int .i64 3] 3)) fun e w' => e = .returned (.int .i64 (-1)) ∧ Below w.heap.size w w' := by
  subst hg hg'
  have X1 := (lit_src w [1, 2] #[.int .i64 1, .int .i64 2] rfl 3 2 rfl).below (below_new (w.alloc (.cells #[.int .i64 1, .int .i64 2] 3)) (.cells #[.int .i64 3] 3))
  have Y1 := lit_src (w.alloc (.cells #[.int .i64 1, .int .i64 2] 3)) [3] #[.int .i64 3] rfl 3 1 rfl
  rw [World.size_alloc] at Y1
  have h1 := vcompare_any _ _ _ _ _ _ [1, 2] [3] _ X1 Y1
  rw [show compF (at' [1, 2]) (at' [3]) = -1 from by decide +kernel] at h1
  exact h1.mono (fun e w' ⟨he, hb⟩ => ⟨he, below_on2 (below_on2 (below_new _ _) (below_new _ _)) hb⟩)

set_option maxRecDepth 100000 in
set_option maxHeartbeats 800000 in
theorem total_lt (ao : Option Addr) (n c : Nat) (X : List Int) (bo : Option Addr) (m d : Nat) (Y : List Int) (co : Option Addr) (k l : Nat) (Z : List Int) (w : World) (hX : Src w ao n c X) (hY : Src w bo m d Y) (hZ : Src w co k l Z) (hx : compF (at' X) (at' Y) = (-1)) :
    Calls Try.prog 4 #[.slice ao n c, .slice bo m d, .slice co k l] w fun e w' => e = .returned (.bool true) ∧ Below w.heap.size w w' := by
  have T0 := hide (Th3.mk (Below.refl _ _) hX hY hZ)
  have Hx := hide hx
  have HN : Hid (compF (at' Y) (at' X) = 1) := by show _ = _; rw [compF_neg (at' X) (at' Y), hx]; rfl
  have HS : Hid (decide (short (at' X) = short (at' Y)) = false) := by show _ = _; rw [decide_eq_false_iff_not, same_iff, ← compF_zero, hx]; decide
  obtain ⟨o, Ho⟩ : ∃ o, Hid (ordF (at' X) (at' Y) = o) := ⟨_, rfl⟩
  have ho0 : (o == 0) = false := by rw [beq_eq_false_iff_ne, ← Ho.out]; intro h; rw [ordF_zero, ← compF_zero, hx] at h; exact absurd h (by decide)
  obtain ⟨y, Hy⟩ : ∃ y, Hid (compF (at' Y) (at' Z) = y) := ⟨_, rfl⟩
  obtain ⟨z, Hz⟩ : ∃ z, Hid (compF (at' X) (at' Z) = z) := ⟨_, rfl⟩
  have TR : y ≤ 0 → z ≤ 0 := fun h => by rw [← Hz.out]; exact compF_trans _ (at' Y) _ (by rw [hx]; decide) (by rw [Hy.out]; exact h)
  clear hX hY hZ hx
  go_enter Try.func4, Try.ntmps4
  go_wp2_with fail
  refine (lit_compare w _ _ rfl rfl).mono ?_
  rintro e w1 ⟨rfl, b⟩
  have T1 := hide (T0.out.on b)
  clear T0 b
  go_wp2_with fail
  refine (vcompare_any _ _ _ _ _ _ X Y _ T1.out.x T1.out.y).mono ?_
  rintro e w2 ⟨rfl, b⟩
  have T2 := hide (T1.out.on b)
  clear T1 b
  rw [Hx.out]
  go_wp2_with fail
  refine (vcompare_any _ _ _ _ _ _ Y X _ T2.out.y T2.out.x).mono ?_
  rintro e w3 ⟨rfl, b⟩
  have T3 := hide (T2.out.on b)
  clear T2 b
  rw [HN.out]
  go_wp2_with fail
  refine (norm_any _ _ _ X _ T3.out.x).mono ?_
  rintro e w4 ⟨a4, n4, c4, rfl, S, b⟩
  have T4 := hide (T3.out.on b)
  have S4 := hide S
  clear T3 b S
  go_wp2_with fail
  refine (norm_any _ _ _ Y _ T4.out.y).mono ?_
  rintro e w5 ⟨a5, n5, c5, rfl, S, b⟩
  have T5 := hide (T4.out.on b)
  have S5 := hide S
  have R5 := hide (S4.out.below b)
  clear T4 b S S4
  go_wp2_with fail
  refine (equal_any a4 a5 n4 n5 c4 c5 _ _ _ R5.out S5.out (small_of R5.out (short_small _))).mono ?_
  rintro e w6 ⟨rfl, b⟩
  have T6 := hide (T5.out.on b)
  clear T5 b S5 R5
  rw [HS.out]
  go_wp2_with fail
  refine (vorder_any _ _ _ _ _ _ X Y _ T6.out.x T6.out.y).mono ?_
  rintro e w7 ⟨rfl, b⟩
  have T7 := hide (T6.out.on b)
  clear T6 b
  rw [Ho.out]
  go_wp2_with fail
  refine (vcompare_any _ _ _ _ _ _ Y Z _ T7.out.y T7.out.z).mono ?_
  rintro e w8 ⟨rfl, b⟩
  have T8 := hide (T7.out.on b)
  clear T7 b
  rw [Hy.out]
  by_cases hy : y ≤ 0
  · have hz := TR hy
    clear TR
    go_wp2_with fail
    refine (vcompare_any _ _ _ _ _ _ X Z _ T8.out.x T8.out.z).mono ?_
    rintro e w9 ⟨rfl, b⟩
    have T9 := hide (T8.out.on b)
    clear T8 b
    rw [Hz.out]
    go_wp2_with fail
    refine (vorder_any _ _ _ _ _ _ X Y _ T9.out.x T9.out.y).mono ?_
    rintro e wf ⟨rfl, b⟩
    have TF := hide (T9.out.on b)
    clear b
    rw [Ho.out]
    by_cases h1 : o = 1
    · have ho1 : (o != 1) = false := by simp [h1]
      clear h1
      go_wp2_with fail
      go_ret
      exact ⟨by simp, TF.out.below⟩
    · have ho1 : (o != 1) = true := by simp [h1]
      clear h1
      go_wp2_with fail
      go_ret
      exact ⟨by simp, TF.out.below⟩
  · clear TR
    go_wp2_with fail
    refine (vorder_any _ _ _ _ _ _ X Y _ T8.out.x T8.out.y).mono ?_
    rintro e wf ⟨rfl, b⟩
    have TF := hide (T8.out.on b)
    clear b
    rw [Ho.out]
    by_cases h1 : o = 1
    · have ho1 : (o != 1) = false := by simp [h1]
      clear h1
      go_wp2_with fail
      go_ret
      exact ⟨by simp, TF.out.below⟩
    · have ho1 : (o != 1) = true := by simp [h1]
      clear h1
      go_wp2_with fail
      go_ret
      exact ⟨by simp, TF.out.below⟩

set_option maxRecDepth 100000 in
set_option maxHeartbeats 800000 in
theorem total_eq (ao : Option Addr) (n c : Nat) (X : List Int) (bo : Option Addr) (m d : Nat) (Y : List Int) (co : Option Addr) (k l : Nat) (Z : List Int) (w : World) (hX : Src w ao n c X) (hY : Src w bo m d Y) (hZ : Src w co k l Z) (hx : compF (at' X) (at' Y) = 0) :
    Calls Try.prog 4 #[.slice ao n c, .slice bo m d, .slice co k l] w fun e w' => e = .returned (.bool true) ∧ Below w.heap.size w w' := by
  have T0 := hide (Th3.mk (Below.refl _ _) hX hY hZ)
  have Hx := hide hx
  have HN : Hid (compF (at' Y) (at' X) = 0) := by show _ = _; rw [compF_neg (at' X) (at' Y), hx]; rfl
  have HS : Hid (decide (short (at' X) = short (at' Y)) = true) := by show _ = _; rw [decide_eq_true_iff, same_iff]; exact (compF_zero _ _).1 hx
  have HO : Hid (ordF (at' X) (at' Y) = 0) := (ordF_zero _ _).2 ((compF_zero _ _).1 hx)
  obtain ⟨o, Ho⟩ : ∃ o, Hid (ordF (at' X) (at' Y) = o) := ⟨_, rfl⟩
  have ho0 : (o == 0) = true := by rw [← Ho.out, HO.out]; rfl
  have ho1 : (o != 1) = true := by rw [← Ho.out, HO.out]; rfl
  obtain ⟨y, Hy⟩ : ∃ y, Hid (compF (at' Y) (at' Z) = y) := ⟨_, rfl⟩
  obtain ⟨z, Hz⟩ : ∃ z, Hid (compF (at' X) (at' Z) = z) := ⟨_, rfl⟩
  have TR : y ≤ 0 → z ≤ 0 := fun h => by rw [← Hz.out]; exact compF_trans _ (at' Y) _ (by rw [hx]; decide) (by rw [Hy.out]; exact h)
  clear hX hY hZ hx
  go_enter Try.func4, Try.ntmps4
  go_wp2_with fail
  refine (lit_compare w _ _ rfl rfl).mono ?_
  rintro e w1 ⟨rfl, b⟩
  have T1 := hide (T0.out.on b)
  clear T0 b
  go_wp2_with fail
  refine (vcompare_any _ _ _ _ _ _ X Y _ T1.out.x T1.out.y).mono ?_
  rintro e w2 ⟨rfl, b⟩
  have T2 := hide (T1.out.on b)
  clear T1 b
  rw [Hx.out]
  go_wp2_with fail
  refine (vcompare_any _ _ _ _ _ _ Y X _ T2.out.y T2.out.x).mono ?_
  rintro e w3 ⟨rfl, b⟩
  have T3 := hide (T2.out.on b)
  clear T2 b
  rw [HN.out]
  go_wp2_with fail
  refine (norm_any _ _ _ X _ T3.out.x).mono ?_
  rintro e w4 ⟨a4, n4, c4, rfl, S, b⟩
  have T4 := hide (T3.out.on b)
  have S4 := hide S
  clear T3 b S
  go_wp2_with fail
  refine (norm_any _ _ _ Y _ T4.out.y).mono ?_
  rintro e w5 ⟨a5, n5, c5, rfl, S, b⟩
  have T5 := hide (T4.out.on b)
  have S5 := hide S
  have R5 := hide (S4.out.below b)
  clear T4 b S S4
  go_wp2_with fail
  refine (equal_any a4 a5 n4 n5 c4 c5 _ _ _ R5.out S5.out (small_of R5.out (short_small _))).mono ?_
  rintro e w6 ⟨rfl, b⟩
  have T6 := hide (T5.out.on b)
  clear T5 b S5 R5
  rw [HS.out]
  go_wp2_with fail
  refine (vorder_any _ _ _ _ _ _ X Y _ T6.out.x T6.out.y).mono ?_
  rintro e w7 ⟨rfl, b⟩
  have T7 := hide (T6.out.on b)
  clear T6 b
  rw [Ho.out]
  go_wp2_with fail
  refine (vcompare_any _ _ _ _ _ _ Y Z _ T7.out.y T7.out.z).mono ?_
  rintro e w8 ⟨rfl, b⟩
  have T8 := hide (T7.out.on b)
  clear T7 b
  rw [Hy.out]
  by_cases hy : y ≤ 0
  · have hz := TR hy
    clear TR
    go_wp2_with fail
    refine (vcompare_any _ _ _ _ _ _ X Z _ T8.out.x T8.out.z).mono ?_
    rintro e w9 ⟨rfl, b⟩
    have T9 := hide (T8.out.on b)
    clear T8 b
    rw [Hz.out]
    go_wp2_with fail
    refine (vorder_any _ _ _ _ _ _ X Y _ T9.out.x T9.out.y).mono ?_
    rintro e wf ⟨rfl, b⟩
    have TF := hide (T9.out.on b)
    clear b
    rw [Ho.out]
    go_wp2_with fail
    go_ret
    exact ⟨by simp, TF.out.below⟩
  · clear TR
    go_wp2_with fail
    refine (vorder_any _ _ _ _ _ _ X Y _ T8.out.x T8.out.y).mono ?_
    rintro e wf ⟨rfl, b⟩
    have TF := hide (T8.out.on b)
    clear b
    rw [Ho.out]
    go_wp2_with fail
    go_ret
    exact ⟨by simp, TF.out.below⟩

set_option maxRecDepth 100000 in
set_option maxHeartbeats 800000 in
theorem total_gt (ao : Option Addr) (n c : Nat) (X : List Int) (bo : Option Addr) (m d : Nat) (Y : List Int) (co : Option Addr) (k l : Nat) (Z : List Int) (w : World) (hX : Src w ao n c X) (hY : Src w bo m d Y) (hZ : Src w co k l Z) (hx : compF (at' X) (at' Y) = 1) :
    Calls Try.prog 4 #[.slice ao n c, .slice bo m d, .slice co k l] w fun e w' => e = .returned (.bool true) ∧ Below w.heap.size w w' := by
  have T0 := hide (Th3.mk (Below.refl _ _) hX hY hZ)
  have Hx := hide hx
  have HN : Hid (compF (at' Y) (at' X) = (-1)) := by show _ = _; rw [compF_neg (at' X) (at' Y), hx]
  have HS : Hid (decide (short (at' X) = short (at' Y)) = false) := by show _ = _; rw [decide_eq_false_iff_not, same_iff, ← compF_zero, hx]; decide
  obtain ⟨o, Ho⟩ : ∃ o, Hid (ordF (at' X) (at' Y) = o) := ⟨_, rfl⟩
  have ho0 : (o == 0) = false := by rw [beq_eq_false_iff_ne, ← Ho.out]; intro h; rw [ordF_zero, ← compF_zero, hx] at h; exact absurd h (by decide)
  have ho1 : (o != 1) = true := by rw [bne_iff_ne, ← Ho.out]; intro h; have := compF_before _ _ h; rw [hx] at this; exact absurd this (by decide)
  clear hX hY hZ hx
  go_enter Try.func4, Try.ntmps4
  go_wp2_with fail
  refine (lit_compare w _ _ rfl rfl).mono ?_
  rintro e w1 ⟨rfl, b⟩
  have T1 := hide (T0.out.on b)
  clear T0 b
  go_wp2_with fail
  refine (vcompare_any _ _ _ _ _ _ X Y _ T1.out.x T1.out.y).mono ?_
  rintro e w2 ⟨rfl, b⟩
  have T2 := hide (T1.out.on b)
  clear T1 b
  rw [Hx.out]
  go_wp2_with fail
  refine (vcompare_any _ _ _ _ _ _ Y X _ T2.out.y T2.out.x).mono ?_
  rintro e w3 ⟨rfl, b⟩
  have T3 := hide (T2.out.on b)
  clear T2 b
  rw [HN.out]
  go_wp2_with fail
  refine (norm_any _ _ _ X _ T3.out.x).mono ?_
  rintro e w4 ⟨a4, n4, c4, rfl, S, b⟩
  have T4 := hide (T3.out.on b)
  have S4 := hide S
  clear T3 b S
  go_wp2_with fail
  refine (norm_any _ _ _ Y _ T4.out.y).mono ?_
  rintro e w5 ⟨a5, n5, c5, rfl, S, b⟩
  have T5 := hide (T4.out.on b)
  have S5 := hide S
  have R5 := hide (S4.out.below b)
  clear T4 b S S4
  go_wp2_with fail
  refine (equal_any a4 a5 n4 n5 c4 c5 _ _ _ R5.out S5.out (small_of R5.out (short_small _))).mono ?_
  rintro e w6 ⟨rfl, b⟩
  have T6 := hide (T5.out.on b)
  clear T5 b S5 R5
  rw [HS.out]
  go_wp2_with fail
  refine (vorder_any _ _ _ _ _ _ X Y _ T6.out.x T6.out.y).mono ?_
  rintro e w7 ⟨rfl, b⟩
  have T7 := hide (T6.out.on b)
  clear T6 b
  rw [Ho.out]
  go_wp2_with fail
  refine (vorder_any _ _ _ _ _ _ X Y _ T7.out.x T7.out.y).mono ?_
  rintro e wf ⟨rfl, b⟩
  have TF := hide (T7.out.on b)
  clear b
  rw [Ho.out]
  go_wp2_with fail
  go_ret
  exact ⟨by simp, TF.out.below⟩

theorem total_row (ao : Option Addr) (n c : Nat) (X : List Int) (bo : Option Addr) (m d : Nat) (Y : List Int) (co : Option Addr) (k l : Nat) (Z : List Int) (w : World) (hX : Src w ao n c X) (_ : n ≤ maxLen) (hY : Src w bo m d Y) (_ : m ≤ maxLen) (hZ : Src w co k l Z) (_ : k ≤ maxLen) :
    Calls Try.prog 4 #[.slice ao n c, .slice bo m d, .slice co k l] w fun e w' => e = .returned (.bool true) ∧ Below w.heap.size w w' := by
  have bd := compF_bd (at' X) (at' Y)
  by_cases h1 : compF (at' X) (at' Y) = -1
  · exact total_lt ao n c X bo m d Y co k l Z w hX hY hZ h1
  · by_cases h2 : compF (at' X) (at' Y) = 0
    · exact total_eq ao n c X bo m d Y co k l Z w hX hY hZ h2
    · exact total_gt ao n c X bo m d Y co k l Z w hX hY hZ (by omega)
end Go.Proofs.Ytdilejbdkhkifab
