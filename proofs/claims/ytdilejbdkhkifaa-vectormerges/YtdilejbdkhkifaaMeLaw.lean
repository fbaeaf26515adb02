/- VectorMerges: the law's walk. -/
import Derived.Test.YtdilejbdkhkifaaViR
import Derived.Test.YtdilejbdkhkifaaOrLaw
namespace Go.Proofs.Ytdilejbdkhkifaa
open Go.RowKit

structure ThM (w W : World) (ao : Option Addr) (m c : Nat) (A : Nat → Option Addr) (N C : Nat → Nat) (Z : Nat → List Int) : Prop where
  below : Below w.heap.size w W
  r : Rows W ao m c A N C Z
theorem ThM.on {w W W' : World} {ao : Option Addr} {m c : Nat} {A : Nat → Option Addr} {N C : Nat → Nat} {Z : Nat → List Int} (h : ThM w W ao m c A N C Z) (hb : Below W.heap.size W W') : ThM w W' ao m c A N C Z :=
  ⟨h.below.trans (hb.mono h.below.size), h.r.below hb⟩
theorem rows_nil (w : World) : Rows w Option.none 0 0 (fun _ => Option.none) (fun _ => 0) (fun _ => 0) (fun _ => []) :=
  ⟨fun _ => ⟨rfl, rfl⟩, fun ad h => (by cases h), fun t h => by omega⟩
theorem merge_none (w : World) : Calls Try.prog 26 #[.slice Option.none 0 0] w fun e w' => ∃ ao c, e = .returned (.slice ao 0 c) ∧ Below w.heap.size w w' := by
  refine (merge_any _ 0 0 _ _ _ _ w (rows_nil w) (Nat.zero_le _)).mono ?_
  rintro e w' ⟨ao, n, c, rfl, S, b⟩
  have : n = 0 := by rw [← S.1]; show (short (fun _ => 0)).length = 0; rw [short_zeros]; rfl
  subst this
  exact ⟨ao, c, rfl, b⟩
theorem meet_none (w : World) : Calls Try.prog 25 #[.slice Option.none 0 0] w fun e w' => ∃ ao c, e = .returned (.slice ao 0 c) ∧ Below w.heap.size w w' := by
  refine (meetAll_any _ 0 0 _ _ _ _ w (rows_nil w) (Nat.le_refl _) (Nat.zero_le _)).mono ?_
  rintro e w' ⟨ao, n, c, rfl, S, b⟩
  have : n = 0 := by rw [← S.1]; show (short (fun _ => 0)).length = 0; rw [short_zeros]; rfl
  subst this
  exact ⟨ao, c, rfl, b⟩
theorem ex_meet : short (fmin (at' [1, 5]) (at' [2, 3, 4])) = [1, 3] := by decide +kernel
theorem lit_meet (w : World) (g g2 g3 : Nat) (h1 : w.heap.size = g) (h2 : w.heap.size + 1 = g2) (h3 : w.heap.size + 1 + 1 = g3) :
    Calls Try.prog 25 #[.slice (some ⟨g3, 0, none⟩) 2 2] (((w.alloc (.cells #[.int .i64 1, .int .i64 5] 3)).alloc (.cells #[.int .i64 2, .int .i64 3, .int .i64 4] 3)).alloc (.cells #[.slice (some ⟨g, 0, none⟩) 2 2, .slice (some ⟨g2, 0, none⟩) 3 3] 22)) fun e w' => Gives w w' e [1, 3] := by
  subst h1 h2 h3
  obtain ⟨x, y⟩ := lit_two w [1, 5] [2, 3, 4] #[.int .i64 1, .int .i64 5] #[.int .i64 2, .int .i64 3, .int .i64 4] rfl rfl 2 3 rfl rfl
  have h := meet2_any _ _ _ _ _ _ [1, 5] [2, 3, 4] ((w.alloc (.cells #[.int .i64 1, .int .i64 5] 3)).alloc (.cells #[.int .i64 2, .int .i64 3, .int .i64 4] 3)) (w.heap.size + 1 + 1) (by simp) x y
  rw [ex_meet] at h
  exact h.mono (fun e w' hh => hh.on (below_new2 _ _ _))

set_option maxRecDepth 100000 in
set_option maxHeartbeats 1600000 in
theorem merges_row (ao : Option Addr) (m c : Nat) (A : Nat → Option Addr) (N C : Nat → Nat) (Z : Nat → List Int) (w : World) (hR : Rows w ao m c A N C Z) (hmc : m ≤ c) (hc : c ≤ maxLen) (hm : m ≤ 5864062014800) (hN : ∀ t, t < m → N t ≤ 17592186044416) :
    Calls Try.prog 6 #[.slice ao m c] w fun e w' => e = .returned (.bool true) ∧ Below w.heap.size w w' := by
  have T0 := hide (ThM.mk (Below.refl _ _) hR)
  have H1 := hide hmc
  have H2 := hide hc
  have H3 := hide hm
  have H4 := hide hN
  have H5 : Hid (m ≤ maxLen) := Nat.le_trans hmc hc
  have H6 : Hid (∀ t, t < m → N t ≤ maxLen) := fun t ht => by have := hN t ht; unfold maxLen; omega
  clear hR hmc hc hm hN
  go_enter Try.func6, Try.ntmps6
  go_wp2_with fail
  refine (awake_any _).mono ?_
  rintro e w1 ⟨rfl, b⟩
  have T1 := hide (T0.out.on b)
  clear T0 b
  go_wp2_with fail
  refine (lit_meet w1 _ _ _ rfl rfl rfl).mono ?_
  rintro e w2 ⟨a2, n2, c2, rfl, S, b⟩
  have T2 := hide (T1.out.on b)
  have S2 := hide S
  clear T1 b S
  go_wp2_with fail
  refine (equal_any a2 _ n2 2 c2 2 [1, 3] [1, 3] _ (S2.out.below (below_new _ _)) (lit_src w2 [1, 3] #[.int .i64 1, .int .i64 3] rfl 3 2 rfl) (by have h := S2.out.1; unfold maxLen; simp at h; omega)).mono ?_
  rintro e w3 ⟨rfl, b⟩
  have T3 := hide (T2.out.on (below_on2 (below_new _ _) b))
  clear T2 S2 b
  rw [show decide (([1, 3] : List Int) = [1, 3]) = true from by decide]
  go_wp2_with fail
  refine (merge_none _).mono ?_
  rintro e w4 ⟨a4, c4, rfl, b⟩
  have T4 := hide (T3.out.on b)
  clear T3 b
  go_wp2_with fail
  refine (meet_none _).mono ?_
  rintro e w5 ⟨a5, c5, rfl, b⟩
  have T5 := hide (T4.out.on b)
  clear T4 b
  go_wp2_with fail
  refine (refMerge_any _ _ _ _ _ _ _ _ T5.out.r H5.out).mono ?_
  rintro e w6 ⟨a6, n6, c6, rfl, S, b⟩
  have T6 := hide (T5.out.on b)
  have U6 := hide S
  clear T5 b S
  go_wp2_with fail
  refine (refMeet_any _ _ _ _ _ _ _ _ T6.out.r H5.out).mono ?_
  rintro e w7 ⟨a7, n7, c7, rfl, S, b⟩
  have T7 := hide (T6.out.on b)
  have U7 := hide (U6.out.below b)
  have D7 := hide S
  clear T6 U6 b S
  go_wp2_with fail
  refine (copies_any _ _ _ _ _ _ _ _ T7.out.r H3.out H4.out).mono ?_
  rintro e w8 ⟨lo, lc, G, C', rfl, RC⟩
  have T8 := hide (T7.out.on RC.below)
  have U8 := hide (U7.out.below RC.below)
  have D8 := hide (D7.out.below RC.below)
  have R8 := hide RC.rows
  clear T7 U7 D7 RC
  go_wp2_with fail
  refine (merge_any _ _ _ _ _ _ _ _ T8.out.r H5.out).mono ?_
  rintro e w9 ⟨a9, n9, c9, rfl, S, b⟩
  have T9 := hide (T8.out.on b)
  have U9 := hide (U8.out.below b)
  have D9 := hide (D8.out.below b)
  have R9 := hide (R8.out.below b)
  have M9 := hide S
  clear T8 U8 D8 R8 b S
  go_wp2_with fail
  refine (equal_any a9 a6 n9 n6 c9 c6 _ _ _ M9.out U9.out (by have h := M9.out.1; have h2 := top_le (mergeF Z m); rw [short_length] at h; unfold maxLen; omega)).mono ?_
  rintro e w10 ⟨rfl, b⟩
  have T10 := hide (T9.out.on b)
  have D10 := hide (D9.out.below b)
  have R10 := hide (R9.out.below b)
  clear T9 U9 D9 R9 M9 b
  rw [show decide (short (mergeF Z m) = short (mergeF Z m)) = true from by simp]
  go_wp2_with fail
  refine (meetAll_any _ _ _ _ _ _ _ _ T10.out.r H1.out H2.out).mono ?_
  rintro e w11 ⟨a11, n11, c11, rfl, S, b⟩
  have T11 := hide (T10.out.on b)
  have D11 := hide (D10.out.below b)
  have R11 := hide (R10.out.below b)
  have M11 := hide S
  clear T10 D10 R10 b S
  go_wp2_with fail
  refine (equal_any a11 a7 n11 n7 c11 c7 _ _ _ M11.out D11.out (by have h := M11.out.1; have h2 := top_le (meetR Z m); rw [short_length] at h; unfold maxLen; omega)).mono ?_
  rintro e w12 ⟨rfl, b⟩
  have T12 := hide (T11.out.on b)
  have R12 := hide (R11.out.below b)
  clear T11 D11 R11 M11 b
  rw [show decide (short (meetR Z m) = short (meetR Z m)) = true from by simp]
  go_wp2_with fail
  refine (equalAll_any _ _ _ _ _ _ _ _ _ _ _ _ T12.out.r R12.out H3.out H6.out).mono ?_
  rintro e w13 ⟨rfl, b⟩
  have T13 := hide (T12.out.on b)
  clear T12 R12 b
  go_wp2_with fail
  go_ret
  exact ⟨by simp, T13.out.below⟩
end Go.Proofs.Ytdilejbdkhkifaa
