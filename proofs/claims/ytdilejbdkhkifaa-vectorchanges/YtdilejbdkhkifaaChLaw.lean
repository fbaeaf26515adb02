/- VectorChanges: the law's walk. -/
import Derived.Test.YtdilejbdkhkifaaRBump
import Derived.Test.YtdilejbdkhkifaaFoLaw
namespace Go.Proofs.Ytdilejbdkhkifaa
open Go.RowKit
attribute [local go_sem ↓] st29_eq

theorem lit_bump (w : World) (g : Nat) (hg : w.heap.size = g) : Calls Try.prog 21 #[.slice (some ⟨g, 0, none⟩) 1 1, .int .i64 2, .int .i64 10] (w.alloc (.cells #[.int .i64 3] 3)) fun e w' => Gives3 w w' e [3, 0, 1] 2 1 0 := by
  subst hg
  have h1 := bump_any (some ⟨w.heap.size, 0, none⟩) 1 1 [3] 2 10 (w.alloc (.cells #[.int .i64 3] 3)) (lit_src w [3] _ rfl 3 1 rfl)
  rw [show bumpZ [3] 2 10 = [3, 0, 1] from by decide +kernel, show bumpR [3] 2 10 = 2 from by decide +kernel, show bumpN [3] 2 10 = 1 from by decide +kernel, show bumpE [3] 2 10 = 0 from by decide +kernel] at h1
  exact h1.mono (fun e w' ⟨ao, n, c, he, S, hb, hn⟩ => ⟨ao, n, c, he, S, below_on2 (below_new _ _) hb, fun ad h => by have := hn ad h; simp at this; omega⟩)

theorem freshD (w1 : World) (R M : Int) : ∃ w2 : World, (st29 (.pointer (some ⟨w1.heap.size, 0, none⟩)) (.agg #[.int .i64 R, .int .i64 M])).run Try.prog (w1.alloc (.cells #[.int .i64 0, .int .i64 0] 29)) = .ok () w2 ∧ DotAt w2 w1.heap.size R M ∧ Below w1.heap.size w1 w2 ∧ w1.heap.size < w2.heap.size :=
  ⟨_, run_st29 (dot_new w1 0 0) R M, (dot_new w1 0 0).setRow R M, below_setRow (below_new _ _) (Nat.le_refl _), ((dot_new w1 0 0).setRow R M).lt⟩
theorem DotAt.setRowOther {w : World} {g g' : Nat} {R M : Int} {cs : Array Value} (D : DotAt w g R M) (h : g ≠ g') : DotAt (w.setRow g' cs) g R M := (setRow_other w g' g _ h).trans D
theorem small_of {w : World} {ao : Option Addr} {n c : Nat} {Z : List Int} (S : Src w ao n c Z) (h : Z.length ≤ 16) : n ≤ maxLen := by have := S.1; unfold maxLen; omega
theorem short_small (f : Nat → Int) : (short f).length ≤ 16 := by rw [short_length]; exact top_le f
theorem bumpZ_small (Z : List Int) (r l : Int) : (bumpZ Z r l).length ≤ 16 := by unfold bumpZ; split; exact short_small _; simp
theorem putZ_small (Z : List Int) (r l : Int) : (putZ Z r l).length ≤ 16 := by unfold putZ; split; exact short_small _; simp

set_option maxRecDepth 100000 in
set_option maxHeartbeats 800000 in
theorem changes_row (ao : Option Addr) (n cap : Nat) (Z : List Int) (r z : Int) (w : World) (hS : Src w ao n cap Z) (_ : n ≤ maxLen) (_ : (Lit.int .i64 r).wf = true) (_ : (Lit.int .i64 z).wf = true) :
    Calls Try.prog 5 #[.slice ao n cap, .int .i64 r, .int .i64 z] w fun e w' => e = .returned (.bool true) ∧ Below w.heap.size w w' := by
  have T0 := hide (Th.mk (Below.refl _ _) hS)
  have HS := hide hS
  clear hS
  go_enter Try.func5, Try.ntmps5
  go_wp2_with fail
  refine (lit_bump w _ rfl).mono ?_
  rintro e w1 ⟨a1, n1, c1, rfl, S, b, _⟩
  have Q1 := hide b.size
  obtain ⟨w2, s2, d2, b2, _⟩ := freshD w1 2 1
  have T2 := hide ((T0.out.on b).on b2)
  have S2 := hide (S.below b2)
  have D2 := hide d2
  have e0 := d2.c0
  have e1 := d2.c1
  clear T0 b S b2 d2
  go_wp2_with fail
  refine (equal_any a1 _ n1 3 c1 3 [3, 0, 1] [3, 0, 1] _ (S2.out.below (below_new _ _)) (lit_src w2 [3, 0, 1] #[.int .i64 3, .int .i64 0, .int .i64 1] rfl 3 3 rfl) (small_of S2.out (by simp))).mono ?_
  rintro e w3 ⟨rfl, b⟩
  have b := below_on2 (below_new _ _) b
  have T3 := hide (T2.out.on b)
  have D3 := hide (D2.out.below b)
  clear T2 S2 D2 b s2 e0 e1
  rw [show decide (([3, 0, 1] : List Int) = [3, 0, 1]) = true from by decide]
  go_wp2_with fail
  refine (refBump_any ao n cap Z r z _ T3.out.src).mono ?_
  rintro e w4 ⟨a4, n4, c4, rfl, S, b, F⟩
  have F4 := hide F
  clear F
  obtain ⟨R, HR⟩ : ∃ R, Hid (bumpR Z r z = R) := ⟨_, rfl⟩
  obtain ⟨M, HM⟩ : ∃ M, Hid (bumpN Z r z = M) := ⟨_, rfl⟩
  obtain ⟨E, HE⟩ : ∃ E, Hid (bumpE Z r z = E) := ⟨_, rfl⟩
  rw [HR.out, HM.out, HE.out]
  have Q4 := hide b.size
  have Q3 := hide D3.out.lt
  obtain ⟨w5, s5, d5, b5, q5⟩ := freshD w4 R M
  have b45 := below_on2 b b5
  have T5 := hide (T3.out.on b45)
  have D5 := hide (D3.out.below b45)
  have X5 := hide d5
  have S5 := hide (S.below b5)
  clear T3 D3 b S b5 b45 d5
  go_wp2_with fail
  refine (refPut_any ao n cap Z r z _ T5.out.src).mono ?_
  rintro e w6 ⟨a6, n6, c6, rfl, S, b, F⟩
  have F6 := hide F
  have Q6 := hide b.size
  clear F
  obtain ⟨P, HP⟩ : ∃ P, Hid (putE r z = P) := ⟨_, rfl⟩
  rw [HP.out]
  have T6 := hide (T5.out.on b)
  have D6 := hide (D5.out.below b)
  have X6 := hide (X5.out.below b)
  have S6 := hide (S5.out.below b)
  have P6 := hide S
  clear T5 D5 X5 S5 b S s5
  go_wp2_with fail
  refine (bump_any ao n cap Z r z _ T6.out.src).mono ?_
  rintro e w7 ⟨a7, n7, c7, rfl, S, b, F⟩
  have F7 := hide F
  clear F
  rw [HR.out, HM.out, HE.out]
  have T7 := hide (T6.out.on b)
  have D7 := hide (D6.out.below b)
  have X7 := hide (X6.out.below b)
  have S7 := hide (S6.out.below b)
  have P7 := hide (P6.out.below b)
  have L7 := hide S
  have s7 := run_st29 D7.out R M
  have g4 : w1.heap.size < w4.heap.size := Nat.lt_of_lt_of_le Q3.out Q4.out
  have g6 : w1.heap.size < w5.heap.size := by omega
  have g7 : w1.heap.size < w6.heap.size := by have := Q6.out; omega
  have B8 := hide (below_setRow (g := w1.heap.size) (cs := #[.int .i64 R, .int .i64 M]) T7.out.below Q1.out)
  have D8 := hide (D7.out.setRow R M)
  have X8 := hide (X7.out.setRowOther (g' := w1.heap.size) (cs := #[.int .i64 R, .int .i64 M]) (by omega))
  have S8 := hide (S7.out.setRow (g := w1.heap.size) (cs := #[.int .i64 R, .int .i64 M]) (fun ad h => by have h1 := F4.out ad h; have := Q3.out; omega))
  have P8 := hide (P7.out.setRow (g := w1.heap.size) (cs := #[.int .i64 R, .int .i64 M]) (fun ad h => by have h1 := F6.out ad h; omega))
  have L8 := hide (L7.out.setRow (g := w1.heap.size) (cs := #[.int .i64 R, .int .i64 M]) (fun ad h => by have h1 := F7.out ad h; omega))
  obtain ⟨w8, Hw8⟩ : ∃ w8, w7.setRow w1.heap.size #[.int .i64 R, .int .i64 M] = w8 := ⟨_, rfl⟩
  rw [Hw8] at s7 B8 D8 X8 S8 P8 L8
  clear Hw8 T6 D6 X6 S6 P6 T7 D7 X7 S7 P7 L7 b S F4 F6 F7 Q1 Q3 Q4 Q6 g4 g6 g7 q5
  have e0 := D8.out.c0
  have e1 := D8.out.c1
  have x0 := X8.out.c0
  have x1 := X8.out.c1
  have T8 := hide (Th.mk B8.out (HS.out.below B8.out))
  clear B8 D8 X8
  go_wp2_with fail
  refine (equal_any a7 a4 n7 n4 c7 c4 _ _ _ L8.out S8.out (small_of L8.out (bumpZ_small _ _ _))).mono ?_
  rintro e w9 ⟨rfl, b⟩
  have T9 := hide (T8.out.on b)
  have P9 := hide (P8.out.below b)
  clear T8 P8 S8 L8 b e0 e1 x0 x1 s7
  rw [show decide (bumpZ Z r z = bumpZ Z r z) = true from by simp]
  go_wp2_with fail
  refine (put_any ao n cap Z r z _ T9.out.src).mono ?_
  rintro e w10 ⟨a10, n10, c10, rfl, S, b, _⟩
  rw [HP.out]
  have T10 := hide (T9.out.on b)
  have P10 := hide (P9.out.below b)
  have L10 := hide S
  clear T9 P9 S b
  go_wp2_with fail
  refine (equal_any a10 a6 n10 n6 c10 c6 _ _ _ L10.out P10.out (small_of L10.out (putZ_small _ _ _))).mono ?_
  rintro e w11 ⟨rfl, b⟩
  have T11 := hide (T10.out.on b)
  clear T10 P10 L10 b
  go_wp2_with fail
  go_ret
  exact ⟨ret_bool (by simp), T11.out.below⟩
end Go.Proofs.Ytdilejbdkhkifaa
