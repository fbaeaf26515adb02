/- VectorForms: the law's walk. -/
import Derived.Test.YtdilejbdkhkifaaAwake
namespace Go.Proofs.Ytdilejbdkhkifaa
open Go.RowKit

/-- what stands all the way through: old memory, the list -/
structure Th (w W : World) (ao : Option Addr) (n cap : Nat) (Z : List Int) : Prop where
  below : Below w.heap.size w W
  src : Src W ao n cap Z
theorem Th.on {w W W' : World} {ao : Option Addr} {n cap : Nat} {Z : List Int} (h : Th w W ao n cap Z) (hb : Below W.heap.size W W') : Th w W' ao n cap Z :=
  ⟨h.below.trans (hb.mono h.below.size), h.src.below hb⟩
theorem below_new (w : World) (o : Obj) : Below w.heap.size w (w.alloc o) := (Below.refl _ _).alloc (Nat.le_refl _) _
theorem lit_isNorm (w : World) (g : Nat) (hg : w.heap.size = g) (x y : Int) (b : Bool) (h : decide ([x, y] = short (at' [x, y])) = b) : Calls Try.prog 10 #[.slice (some ⟨g, 0, none⟩) 2 2] (w.alloc (.cells #[.int .i64 x, .int .i64 y] 3)) fun e w' => e = .returned (.bool b) ∧ Below w.heap.size w w' := by
  subst hg
  have h1 := isNorm_any (some ⟨w.heap.size, 0, none⟩) 2 2 [x, y] (w.alloc (.cells #[.int .i64 x, .int .i64 y] 3)) (lit_src w [x, y] _ rfl 3 2 rfl)
  rw [h] at h1
  exact h1.mono (fun e w' ⟨he, hb⟩ => ⟨he, below_on2 (below_new _ _) hb⟩)
theorem lit_sum (w : World) (g : Nat) (hg : w.heap.size = g) : Calls Try.prog 11 #[.slice (some ⟨g, 0, none⟩) 3 3] (w.alloc (.cells #[.int .i64 3, .int .i64 (-1), .int .i64 4] 3)) fun e w' => e = .returned (.int .i64 7) ∧ Below w.heap.size w w' := by
  subst hg
  have h1 := vsum_any (some ⟨w.heap.size, 0, none⟩) 3 3 [3, -1, 4] (w.alloc (.cells #[.int .i64 3, .int .i64 (-1), .int .i64 4] 3)) (lit_src w [3, -1, 4] _ rfl 3 3 rfl)
  rw [show sumN (at' [3, -1, 4]) 16 = 7 from by decide +kernel] at h1
  exact h1.mono (fun e w' ⟨he, hb⟩ => ⟨he, below_on2 (below_new _ _) hb⟩)

set_option maxRecDepth 100000 in
set_option maxHeartbeats 400000 in
theorem forms_row (ao : Option Addr) (n cap : Nat) (Z : List Int) (w : World) (hS : Src w ao n cap Z) (hn : n ≤ maxLen) :
    Calls Try.prog 3 #[.slice ao n cap] w fun e w' => e = .returned (.bool true) ∧ Below w.heap.size w w' := by
  have T0 := hide (Th.mk (Below.refl _ _) hS)
  have HN := hide hn
  clear hS hn
  go_enter Try.func3, Try.ntmps3
  go_wp2_with fail
  refine (awake_any _).mono ?_
  rintro e w1 ⟨rfl, b⟩
  have T1 := hide (T0.out.on b)
  clear T0 b
  go_wp2_with fail
  refine (lit_isNorm w1 _ rfl 0 3 true (by decide +kernel)).mono ?_
  rintro e w2 ⟨rfl, b⟩
  have T2 := hide (T1.out.on b)
  clear T1 b
  go_wp2_with fail
  refine (lit_isNorm w2 _ rfl 3 0 false (by decide +kernel)).mono ?_
  rintro e w3 ⟨rfl, b⟩
  have T3 := hide (T2.out.on b)
  clear T2 b
  go_wp2_with fail
  refine (lit_sum w3 _ rfl).mono ?_
  rintro e w4 ⟨rfl, b⟩
  have T4 := hide (T3.out.on b)
  clear T3 b
  go_wp2_with fail
  refine (refNorm_any ao n cap Z _ T4.out.src).mono ?_
  rintro e w5 ⟨a5, n5, c5, rfl, S, b⟩
  have T5 := hide (T4.out.on b)
  have S5 := hide S
  clear T4 b S
  go_wp2_with fail
  refine (refIsNorm_any ao n cap Z _ T5.out.src HN.out).mono ?_
  rintro e w6 ⟨rfl, b⟩
  have T6 := hide (T5.out.on b)
  have S6 := hide (S5.out.below b)
  clear T5 S5 b
  go_wp2_with fail
  refine (refSum_any ao n cap Z _ T6.out.src).mono ?_
  rintro e w7 ⟨rfl, b⟩
  have T7 := hide (T6.out.on b)
  have S7 := hide (S6.out.below b)
  clear T6 S6 b
  obtain ⟨q, Hq⟩ : ∃ q, Hid (sumN (at' Z) 16 = q) := ⟨_, rfl⟩
  obtain ⟨x, Hx⟩ : ∃ x, Hid (decide (Z = short (at' Z)) = x) := ⟨_, rfl⟩
  rw [Hq.out, Hx.out]
  go_wp2_with fail
  refine (norm_any ao n cap Z _ T7.out.src).mono ?_
  rintro e w8 ⟨a8, n8, c8, rfl, S, b⟩
  have T8 := hide (T7.out.on b)
  have S8 := hide (S7.out.below b)
  have R8 := hide S
  clear T7 S7 b S
  go_wp2_with fail
  refine (equal_any a8 a5 n8 n5 c8 c5 _ _ _ R8.out S8.out (by have h := R8.out.1; have h2 := top_le (at' Z); rw [short_length] at h; unfold maxLen; omega)).mono ?_
  rintro e w9 ⟨rfl, b⟩
  have T9 := hide (T8.out.on b)
  clear T8 S8 R8 b
  rw [show decide (short (at' Z) = short (at' Z)) = true from by simp]
  go_wp2_with fail
  refine (isNorm_any ao n cap Z _ T9.out.src).mono ?_
  rintro e w10 ⟨rfl, b⟩
  have T10 := hide (T9.out.on b)
  clear T9 b
  rw [Hx.out]
  have hxx : (x == x) = true := by simp
  go_wp2_with fail
  refine (vsum_any ao n cap Z _ T10.out.src).mono ?_
  rintro e w11 ⟨rfl, b⟩
  have T11 := hide (T10.out.on b)
  clear T10 b
  rw [Hq.out]
  go_wp2_with fail
  go_ret
  exact ⟨ret_bool (by simp), T11.out.below⟩
end Go.Proofs.Ytdilejbdkhkifaa
