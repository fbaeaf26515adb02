/- isNum, isText, quantity, plays at the kinds 8, 9, 10: their contracts. -/
import Derived.Test.YtnlklhjmhienkaaGreatDoorQQty
import Derived.Test.YtnlklhjmhienkaaGreatDoorOnly
namespace Go.Proofs.YtnlklhjmhienkaaGreatDoor.Q
open Go.RowKit

theorem isNum_any (n e m f : Int) (w : World) (h1 : n = m) (h2 : e = f) : Calls Tryz.prog 22 #[.int .i64 n, .int .i64 e, .int .i64 m, .int .i64 f] w fun x w' => x = .returned (.bool true) ∧ w' = w := by
  subst h1 h2
  go_enter Tryz.func22, Tryz.ntmps22
  go_wp2
  go_ret
  exact ⟨ret_bool (by simp), rfl⟩
theorem isText_any (s t : ByteArray) (e f : Int) (w : World) (h1 : s = t) (h2 : e = f) : Calls Tryz.prog 27 #[.string s, .int .i64 e, .string t, .int .i64 f] w fun x w' => x = .returned (.bool true) ∧ w' = w := by
  subst h1 h2
  go_enter Tryz.func27, Tryz.ntmps27
  go_wp2
  go_ret
  exact ⟨ret_bool (by simp), rfl⟩
/-- what the box of a step keeps -/
structure BoxQ (w W : World) (a : ByteArray) (n : Int) (v : Value) : Prop where
  below : Below w.heap.size w W
  c1 : W.cell? ⟨w.heap.size, 1, none⟩ = some (.string a)
  c3 : W.cell? ⟨w.heap.size, 3, none⟩ = some (.int .i64 n)
  c4 : W.cell? ⟨w.heap.size, 4, none⟩ = some v
theorem BoxQ.on {w W W' : World} {a : ByteArray} {n : Int} {v : Value} (h : BoxQ w W a n v) (hb : Below W.heap.size W W') : BoxQ w W' a n v :=
  ⟨h.below.trans (hb.mono h.below.size), (hb.cell (World.block_lt_of_cell? _ _ h.c1)).trans h.c1, (hb.cell (World.block_lt_of_cell? _ _ h.c3)).trans h.c3, (hb.cell (World.block_lt_of_cell? _ _ h.c4)).trans h.c4⟩
theorem BoxQ.start (w : World) (k : Int) (a b : ByteArray) (n : Int) (v : Value) : BoxQ w (w.alloc (.cells #[.int .i64 k, .string a, .string b, .int .i64 n, v] 27)) a n v :=
  ⟨(Below.refl _ _).alloc (Nat.le_refl _) _, by simp, by simp, by simp⟩
/-- what is known of a step's list -/
def Lst (w : World) (lp : Option Addr) (ll : Nat) (Z : List Int) : Prop := Z.length = ll ∧ (lp = none → ll = 0) ∧ ∀ q, lp = some q → ∀ t, t < ll → w.cell? (q.add t) = some (.int .i64 (Z.getD t 0))
theorem Lst.on {w w' : World} {lp : Option Addr} {ll : Nat} {Z : List Int} (h : Lst w lp ll Z) (hb : Below w.heap.size w w') : Lst w' lp ll Z :=
  ⟨h.1, h.2.1, fun q hq t ht => by have := h.2.2 q hq t ht; rw [hb.cell (World.block_lt_of_cell? _ _ this)]; exact this⟩
set_option maxRecDepth 100000 in
set_option maxHeartbeats 1600000 in
theorem quantity8 (a b : ByteArray) (n : Int) (lp : Option Addr) (ll lc : Nat) (w : World) (ha : a.size ≤ maxLen) :
    Calls Tryz.prog 14 #[.agg #[.int .i64 8, .string a, .string b, .int .i64 n, .slice lp ll lc]] w fun e w' => e = .returned (.bool true) ∧ Below w.heap.size w w' := by
  have T0 := hide (BoxQ.start w 8 a b n (.slice lp ll lc))
  have HA := hide ha
  clear ha
  obtain ⟨x, Hx⟩ : ∃ x, Hid (pqN a = x) := ⟨_, rfl⟩
  obtain ⟨y, Hy⟩ : ∃ y, Hid (pqE a = y) := ⟨_, rfl⟩
  go_enter Tryz.func14, Tryz.ntmps14
  go_wp2_with fail
  obtain ⟨w0, Hw0⟩ : ∃ w0, w.alloc (.cells #[.int .i64 8, .string a, .string b, .int .i64 n, .slice lp ll lc] 27) = w0 := ⟨_, rfl⟩
  rw [Hw0] at T0 ⊢
  clear Hw0
  refine (parse_any a _ HA.out).mono ?_
  rintro e w1 ⟨rfl, b1⟩
  have T1 := hide (T0.out.on b1)
  have k1 := T1.out.c1
  clear b1 T0
  rw [Hx.out, Hy.out]
  go_wp2_with (first | (go_at_call 41; refine (refParse_any a _ HA.out).mono ?_; rintro e w3 ⟨rfl, h3⟩; subst w3; rw [Hx.out, Hy.out]) | (go_at_call 22; refine (isNum_any _ _ _ _ _ rfl rfl).mono ?_; rintro e w3 ⟨rfl, h3⟩; subst w3))
  go_ret
  exact ⟨rfl, T1.out.below⟩
set_option maxRecDepth 100000 in
set_option maxHeartbeats 1600000 in
theorem quantity9 (a b : ByteArray) (n : Int) (lp : Option Addr) (ll lc : Nat) (w : World) (ht : Tab w) :
    Calls Tryz.prog 14 #[.agg #[.int .i64 9, .string a, .string b, .int .i64 n, .slice lp ll lc]] w fun e w' => e = .returned (.bool true) ∧ Below w.heap.size w w' := by
  have T0 := hide (BoxQ.start w 9 a b n (.slice lp ll lc))
  have HT := hide ht
  clear ht
  obtain ⟨x, Hx⟩ : ∃ x, Hid (prS n = x) := ⟨_, rfl⟩
  obtain ⟨y, Hy⟩ : ∃ y, Hid (prE n = y) := ⟨_, rfl⟩
  go_enter Tryz.func14, Tryz.ntmps14
  go_wp2_with fail
  obtain ⟨w0, Hw0⟩ : ∃ w0, w.alloc (.cells #[.int .i64 9, .string a, .string b, .int .i64 n, .slice lp ll lc] 27) = w0 := ⟨_, rfl⟩
  rw [Hw0] at T0 ⊢
  clear Hw0
  refine (print_any n _ (HT.out.on T0.out.below)).mono ?_
  rintro e w1 ⟨rfl, b1⟩
  have T1 := hide (T0.out.on b1)
  have k1 := T1.out.c3
  clear b1 T0
  rw [Hx.out, Hy.out]
  go_wp2_with fail
  refine (refPrint_any n _).mono ?_
  rintro e w2 ⟨rfl, b2⟩
  rw [Hx.out, Hy.out]
  have T2 := hide (T1.out.on b2)
  clear b2 T1 k1
  go_wp2_with (go_at_call 27; refine (isText_any _ _ _ _ _ rfl rfl).mono ?_; rintro e w3 ⟨rfl, h3⟩; subst w3)
  go_ret
  exact ⟨rfl, T2.out.below⟩
set_option maxRecDepth 100000 in
set_option maxHeartbeats 1600000 in
theorem quantity10 (a b : ByteArray) (n : Int) (lp : Option Addr) (ll lc : Nat) (w : World) (Z : List Int) (hL : Lst w lp ll Z) (hll : ll ≤ 1048576) :
    Calls Tryz.prog 14 #[.agg #[.int .i64 10, .string a, .string b, .int .i64 n, .slice lp ll lc]] w fun e w' => e = .returned (.bool true) ∧ Below w.heap.size w w' := by
  have T0 := hide (BoxQ.start w 10 a b n (.slice lp ll lc))
  have HLL : Hid (ll ≤ 4194304) := by show _ ≤ _; omega
  have HL := hide hL
  clear hL hll
  obtain ⟨x, Hx⟩ : ∃ x, Hid (totN Z = x) := ⟨_, rfl⟩
  obtain ⟨y, Hy⟩ : ∃ y, Hid (totE Z = y) := ⟨_, rfl⟩
  go_enter Tryz.func14, Tryz.ntmps14
  go_wp2_with fail
  obtain ⟨w0, Hw0⟩ : ∃ w0, w.alloc (.cells #[.int .i64 10, .string a, .string b, .int .i64 n, .slice lp ll lc] 27) = w0 := ⟨_, rfl⟩
  rw [Hw0] at T0 ⊢
  clear Hw0
  have HL0 := hide (HL.out.on T0.out.below)
  refine (refTotal_any lp ll lc Z _ HL0.out.1 HLL.out HL0.out.2.1 HL0.out.2.2).mono ?_
  rintro e w1 ⟨rfl, h1⟩
  subst w1
  have k1 := T0.out.c4
  rw [Hx.out, Hy.out]
  go_wp2_with (first | (go_at_call 45; refine (total_any lp ll lc Z _ HL0.out.1 HLL.out HL0.out.2.1 HL0.out.2.2).mono ?_; rintro e w3 ⟨rfl, h3⟩; subst w3; rw [Hx.out, Hy.out]) | (go_at_call 22; refine (isNum_any _ _ _ _ _ rfl rfl).mono ?_; rintro e w3 ⟨rfl, h3⟩; subst w3))
  go_ret
  exact ⟨rfl, T0.out.below⟩
set_option maxRecDepth 100000 in
set_option maxHeartbeats 3000000 in
theorem plays8 (a b : ByteArray) (n : Int) (lp : Option Addr) (ll lc : Nat) (w : World) (ha : a.size ≤ maxLen) :
    Calls Tryz.prog 5 #[.agg #[.int .i64 8, .string a, .string b, .int .i64 n, .slice lp ll lc]] w fun e w' => e = .returned (.bool true) ∧ Below w.heap.size w w' := by
  have T0 := hide (BoxQ.start w 8 a b n (.slice lp ll lc))
  have HA := hide ha
  clear ha
  go_enter Tryz.func5, Tryz.ntmps5
  go_wp2_with fail
  obtain ⟨w0, Hw0⟩ : ∃ w0, w.alloc (.cells #[.int .i64 8, .string a, .string b, .int .i64 n, .slice lp ll lc] 27) = w0 := ⟨_, rfl⟩
  rw [Hw0] at T0 ⊢
  clear Hw0
  refine (quantity8 a b n lp ll lc _ HA.out).mono ?_
  rintro e w1 ⟨rfl, b1⟩
  have T1 := hide (T0.out.on b1)
  clear b1 T0
  go_wp2_with fail
  go_ret
  exact ⟨rfl, T1.out.below⟩
set_option maxRecDepth 100000 in
set_option maxHeartbeats 3000000 in
theorem plays9 (a b : ByteArray) (n : Int) (lp : Option Addr) (ll lc : Nat) (w : World) (ha : Tab w) :
    Calls Tryz.prog 5 #[.agg #[.int .i64 9, .string a, .string b, .int .i64 n, .slice lp ll lc]] w fun e w' => e = .returned (.bool true) ∧ Below w.heap.size w w' := by
  have T0 := hide (BoxQ.start w 9 a b n (.slice lp ll lc))
  have HA := hide ha
  clear ha
  go_enter Tryz.func5, Tryz.ntmps5
  go_wp2_with fail
  obtain ⟨w0, Hw0⟩ : ∃ w0, w.alloc (.cells #[.int .i64 9, .string a, .string b, .int .i64 n, .slice lp ll lc] 27) = w0 := ⟨_, rfl⟩
  rw [Hw0] at T0 ⊢
  clear Hw0
  refine (quantity9 a b n lp ll lc _ (HA.out.on T0.out.below)).mono ?_
  rintro e w1 ⟨rfl, b1⟩
  have T1 := hide (T0.out.on b1)
  clear b1 T0
  go_wp2_with fail
  go_ret
  exact ⟨rfl, T1.out.below⟩
set_option maxRecDepth 100000 in
set_option maxHeartbeats 3000000 in
theorem plays10 (a b : ByteArray) (n : Int) (lp : Option Addr) (ll lc : Nat) (w : World) (Z : List Int) (ha : Lst w lp ll Z) (hll : ll ≤ 1048576) :
    Calls Tryz.prog 5 #[.agg #[.int .i64 10, .string a, .string b, .int .i64 n, .slice lp ll lc]] w fun e w' => e = .returned (.bool true) ∧ Below w.heap.size w w' := by
  have T0 := hide (BoxQ.start w 10 a b n (.slice lp ll lc))
  have HA := hide ha
  have HLL := hide hll
  clear hll
  clear ha
  go_enter Tryz.func5, Tryz.ntmps5
  go_wp2_with fail
  obtain ⟨w0, Hw0⟩ : ∃ w0, w.alloc (.cells #[.int .i64 10, .string a, .string b, .int .i64 n, .slice lp ll lc] 27) = w0 := ⟨_, rfl⟩
  rw [Hw0] at T0 ⊢
  clear Hw0
  refine (quantity10 a b n lp ll lc _ Z (HA.out.on T0.out.below) HLL.out).mono ?_
  rintro e w1 ⟨rfl, b1⟩
  have T1 := hide (T0.out.on b1)
  clear b1 T0
  go_wp2_with fail
  go_ret
  exact ⟨rfl, T1.out.below⟩
end Go.Proofs.YtnlklhjmhienkaaGreatDoor.Q
