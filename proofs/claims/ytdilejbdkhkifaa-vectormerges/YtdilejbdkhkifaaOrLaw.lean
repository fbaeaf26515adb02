/- VectorOrders: the law's walk. -/
import Derived.Test.YtdilejbdkhkifaaROrd
import Derived.Test.YtdilejbdkhkifaaRCmp
import Derived.Test.YtdilejbdkhkifaaRBeh
import Derived.Test.YtdilejbdkhkifaaEqS
import Derived.Test.YtdilejbdkhkifaaFoLaw
namespace Go.Proofs.Ytdilejbdkhkifaa
open Go.RowKit

structure Th2 (w W : World) (ao bo : Option Addr) (n c m d : Nat) (X Y : List Int) : Prop where
  below : Below w.heap.size w W
  x : Src W ao n c X
  y : Src W bo m d Y
theorem Th2.on {w W W' : World} {ao bo : Option Addr} {n c m d : Nat} {X Y : List Int} (h : Th2 w W ao bo n c m d X Y) (hb : Below W.heap.size W W') : Th2 w W' ao bo n c m d X Y :=
  ⟨h.below.trans (hb.mono h.below.size), h.x.below hb, h.y.below hb⟩
/-- two lists laid one behind the other -/
theorem lit_two (w : World) (X Y : List Int) (C D : Array Value) (hC : C = (X.map (Value.int .i64)).toArray) (hD : D = (Y.map (Value.int .i64)).toArray) (n m : Nat) (hn : X.length = n) (hm : Y.length = m) :
    Src ((w.alloc (.cells C 3)).alloc (.cells D 3)) (some ⟨w.heap.size, 0, none⟩) n n X ∧ Src ((w.alloc (.cells C 3)).alloc (.cells D 3)) (some ⟨w.heap.size + 1, 0, none⟩) m m Y := by
  refine ⟨(lit_src w X C hC 3 n hn).below (below_new _ _), ?_⟩
  have h := lit_src (w.alloc (.cells C 3)) Y D hD 3 m hm
  rwa [World.size_alloc] at h
theorem below_new2 (w : World) (o p : Obj) : Below w.heap.size w ((w.alloc o).alloc p) := below_on2 (below_new _ _) (below_new _ _)
theorem lit_order (w : World) (g g' : Nat) (hg : w.heap.size = g) (hg' : w.heap.size + 1 = g') : Calls Try.prog 31 #[.slice (some ⟨g, 0, none⟩) 1 1, .slice (some ⟨g', 0, none⟩) 3 3] ((w.alloc (.cells #[.int .i64 1] 3)).alloc (.cells #[.int .i64 1, .int .i64 0, .int .i64 2] 3)) fun e w' => e = .returned (.int .i64 1) ∧ Below w.heap.size w w' := by
  subst hg hg'
  obtain ⟨h1, h2⟩ := lit_two w [1] [1, 0, 2] #[.int .i64 1] #[.int .i64 1, .int .i64 0, .int .i64 2] rfl rfl 1 3 rfl rfl
  have h := vorder_any _ _ _ _ _ _ [1] [1, 0, 2] _ h1 h2
  rw [show ordF (at' [1]) (at' [1, 0, 2]) = 1 from by decide +kernel] at h
  exact h.mono (fun e w' ⟨he, hb⟩ => ⟨he, below_on2 (below_new2 _ _ _) hb⟩)
theorem lit_compare (w : World) (g g' : Nat) (hg : w.heap.size = g) (hg' : w.heap.size + 1 = g') : Calls Try.prog 32 #[.slice (some ⟨g, 0, none⟩) 1 1, .slice (some ⟨g', 0, none⟩) 2 2] ((w.alloc (.cells #[.int .i64 3] 3)).alloc (.cells #[.int .i64 1, .int .i64 2] 3)) fun e w' => e = .returned (.int .i64 1) ∧ Below w.heap.size w w' := by
  subst hg hg'
  obtain ⟨h1, h2⟩ := lit_two w [3] [1, 2] #[.int .i64 3] #[.int .i64 1, .int .i64 2] rfl rfl 1 2 rfl rfl
  have h := vcompare_any _ _ _ _ _ _ [3] [1, 2] _ h1 h2
  rw [show compF (at' [3]) (at' [1, 2]) = 1 from by decide +kernel] at h
  exact h.mono (fun e w' ⟨he, hb⟩ => ⟨he, below_on2 (below_new2 _ _ _) hb⟩)
theorem lit_behind (w : World) (g g' : Nat) (hg : w.heap.size = g) (hg' : w.heap.size + 1 = g') : Calls Try.prog 33 #[.slice (some ⟨g, 0, none⟩) 2 2, .slice (some ⟨g', 0, none⟩) 3 3] ((w.alloc (.cells #[.int .i64 1, .int .i64 5] 3)).alloc (.cells #[.int .i64 2, .int .i64 3, .int .i64 4] 3)) fun e w' => ∃ ao c, e = .returned (.slice ao 2 c) ∧ Below w.heap.size w w' := by
  subst hg hg'
  obtain ⟨h1, h2⟩ := lit_two w [1, 5] [2, 3, 4] #[.int .i64 1, .int .i64 5] #[.int .i64 2, .int .i64 3, .int .i64 4] rfl rfl 2 3 rfl rfl
  have h := behind_any _ _ _ _ _ _ [1, 5] [2, 3, 4] _ h1 h2
  refine h.mono ?_
  rintro e w' ⟨ao, n, c, rfl, S, hb⟩
  have hl : n = 2 := by rw [← S.1]; decide +kernel
  subst hl
  exact ⟨ao, c, rfl, below_on2 (below_new2 _ _ _) hb⟩

set_option maxRecDepth 100000 in
set_option maxHeartbeats 1600000 in
theorem orders_row (ao : Option Addr) (n c : Nat) (X : List Int) (bo : Option Addr) (m d : Nat) (Y : List Int) (w : World) (hX : Src w ao n c X) (_ : n ≤ maxLen) (hY : Src w bo m d Y) (_ : m ≤ maxLen) :
    Calls Try.prog 7 #[.slice ao n c, .slice bo m d] w fun e w' => e = .returned (.bool true) ∧ Below w.heap.size w w' := by
  have T0 := hide (Th2.mk (Below.refl _ _) hX hY)
  clear hX hY
  obtain ⟨o, Ho⟩ : ∃ o, Hid (ordF (at' X) (at' Y) = o) := ⟨_, rfl⟩
  obtain ⟨q, Hq⟩ : ∃ q, Hid (compF (at' X) (at' Y) = q) := ⟨_, rfl⟩
  go_enter Try.func7, Try.ntmps7
  go_wp2_with fail
  refine (lit_order w _ _ rfl rfl).mono ?_
  rintro e w1 ⟨rfl, b⟩
  have T1 := hide (T0.out.on b)
  clear T0 b
  go_wp2_with fail
  refine (lit_compare w1 _ _ rfl rfl).mono ?_
  rintro e w2 ⟨rfl, b⟩
  have T2 := hide (T1.out.on b)
  clear T1 b
  go_wp2_with fail
  refine (lit_behind w2 _ _ rfl rfl).mono ?_
  rintro e w3 ⟨a3, c3, rfl, b⟩
  have T3 := hide (T2.out.on b)
  clear T2 b
  go_wp2_with fail
  refine (refOrder_any _ _ _ _ _ _ X Y _ T3.out.x T3.out.y).mono ?_
  rintro e w4 ⟨rfl, b⟩
  have T4 := hide (T3.out.on b)
  clear T3 b
  rw [Ho.out]
  go_wp2_with fail
  refine (refCompare_any _ _ _ _ _ _ X Y _ T4.out.x T4.out.y).mono ?_
  rintro e w5 ⟨rfl, b⟩
  have T5 := hide (T4.out.on b)
  clear T4 b
  rw [Hq.out]
  go_wp2_with fail
  refine (refBehind_any _ _ _ _ _ _ X Y _ T5.out.x T5.out.y).mono ?_
  rintro e w6 ⟨a6, n6, c6, rfl, S, b⟩
  have T6 := hide (T5.out.on b)
  have S6 := hide S
  clear T5 b S
  go_wp2_with fail
  refine (vorder_any _ _ _ _ _ _ X Y _ T6.out.x T6.out.y).mono ?_
  rintro e w7 ⟨rfl, b⟩
  have T7 := hide (T6.out.on b)
  have S7 := hide (S6.out.below b)
  clear T6 S6 b
  rw [Ho.out]
  have ho : (o == o) = true := by simp
  go_wp2_with fail
  refine (vcompare_any _ _ _ _ _ _ X Y _ T7.out.x T7.out.y).mono ?_
  rintro e w8 ⟨rfl, b⟩
  have T8 := hide (T7.out.on b)
  have S8 := hide (S7.out.below b)
  clear T7 S7 b
  rw [Hq.out]
  have hq : (q == q) = true := by simp
  go_wp2_with fail
  refine (behind_any _ _ _ _ _ _ X Y _ T8.out.x T8.out.y).mono ?_
  rintro e w9 ⟨a9, n9, c9, rfl, S, b⟩
  have T9 := hide (T8.out.on b)
  have S9 := hide (S8.out.below b)
  have R9 := hide S
  clear T8 S8 b S
  go_wp2_with fail
  refine (equalSpans_any a9 a6 n9 n6 c9 c6 _ _ R9.out S9.out (by have h := R9.out.1; have h2 := behL_length (at' X) (at' Y) 16; omega)).mono ?_
  rintro e w10 ⟨rfl, b⟩
  have T10 := hide (T9.out.on b)
  clear b
  go_wp2_with fail
  go_ret
  exact ⟨by simp, T10.out.below⟩
end Go.Proofs.Ytdilejbdkhkifaa
