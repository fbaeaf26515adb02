/- isNum, isText, article, plays at the kinds 3, 4, 5: their contracts. -/
import Derived.Test.YtnlklhjmhienkaaGreatDoorAWiR
import Derived.Test.YtnlklhjmhienkaaGreatDoorOnly
namespace Go.Proofs.YtnlklhjmhienkaaGreatDoor.A
open Go.RowKit

theorem isNum_any (n e m f : Int) (w : World) (h1 : n = m) (h2 : e = f) : Calls Tryz.prog 22 #[.int .i64 n, .int .i64 e, .int .i64 m, .int .i64 f] w fun x w' => x = .returned (.bool true) ∧ w' = w := by
  subst h1 h2
  go_enter Tryz.func22, Tryz.ntmps22
  go_wp2
  go_ret
  exact ⟨ret_bool (by simp), rfl⟩
theorem isText_any (s t : ByteArray) (e f : Int) (w : World) (h1 : s = t) (h2 : e = f) : Calls Tryz.prog 27 #[.string s, .int .i64 e, .string t, .int .i64 f] w fun x w' => x = .returned (.bool true) ∧ w' = w := by
  subst h1 h2
  go_enter Tryz.func27, Tryz.ntmps27
  go_wp2
  go_ret
  exact ⟨ret_bool (by simp), rfl⟩
/-- Widen's answer -/
def wiS (s : ByteArray) : ByteArray := if gtE s = 0 then zs (14 - s.size) ++ s else ⟨#[]⟩
theorem widenP_any (s : ByteArray) (w : World) (hs : s.size ≤ maxLen) : Calls Tryz.prog 32 #[.string s] w fun e w' => e = .returned (.tuple #[.string (wiS s), .int .i64 (gtE s)]) ∧ Below w.heap.size w w' := by
  unfold wiS
  by_cases h : gtE s = 0
  · rw [if_pos h, h]; exact widen_ok s w h
  · rw [if_neg h]; exact widen_bad s w hs _ rfl (by simpa using h)
theorem refWiden_any (s : ByteArray) (w : World) (hs : s.size ≤ maxLen) : Calls Tryz.prog 33 #[.string s] w fun e w' => e = .returned (.tuple #[.string (wiS s), .int .i64 (gtE s)]) ∧ Below w.heap.size w w' := by
  unfold wiS
  by_cases h : gtE s = 0
  · rw [if_pos h, h]; exact refWiden_ok s w h
  · rw [if_neg h]; exact refWiden_bad s w hs _ rfl (by simpa using h)

/-- what the box of a step keeps -/
structure BoxA (w W : World) (k : Int) (a : ByteArray) : Prop where
  below : Below w.heap.size w W
  c0 : W.cell? ⟨w.heap.size, 0, none⟩ = some (.int .i64 k)
  c1 : W.cell? ⟨w.heap.size, 1, none⟩ = some (.string a)
theorem BoxA.on {w W W' : World} {k : Int} {a : ByteArray} (h : BoxA w W k a) (hb : Below W.heap.size W W') : BoxA w W' k a :=
  ⟨h.below.trans (hb.mono h.below.size), (hb.cell (World.block_lt_of_cell? _ _ h.c0)).trans h.c0, (hb.cell (World.block_lt_of_cell? _ _ h.c1)).trans h.c1⟩
theorem BoxA.start (w : World) (k : Int) (a b : ByteArray) (n : Int) (v : Value) : BoxA w (w.alloc (.cells #[.int .i64 k, .string a, .string b, .int .i64 n, v] 27)) k a :=
  ⟨(Below.refl _ _).alloc (Nat.le_refl _) _, by simp, by simp⟩
set_option maxRecDepth 100000 in
set_option maxHeartbeats 1600000 in
theorem article3 (a b : ByteArray) (n : Int) (lp : Option Addr) (ll lc : Nat) (w : World) (ha : a.size ≤ maxLen) :
    Calls Tryz.prog 11 #[.agg #[.int .i64 3, .string a, .string b, .int .i64 n, .slice lp ll lc]] w fun e w' => e = .returned (.bool true) ∧ Below w.heap.size w w' := by
  have T0 := hide (BoxA.start w 3 a b n (.slice lp ll lc))
  have HA := hide ha
  clear ha
  go_enter Tryz.func11, Tryz.ntmps11
  go_wp2_with fail
  obtain ⟨w0, Hw0⟩ : ∃ w0, w.alloc (.cells #[.int .i64 3, .string a, .string b, .int .i64 n, .slice lp ll lc] 27) = w0 := ⟨_, rfl⟩
  rw [Hw0] at T0 ⊢
  clear Hw0
  refine (digitP_any a _ HA.out).mono ?_
  rintro e w1 ⟨rfl, b1⟩
  have T1 := hide (T0.out.on b1)
  have k1 := T1.out.c1
  clear b1 T0
  obtain ⟨x, Hx⟩ : ∃ x, Hid (dgN a = x) := ⟨_, rfl⟩
  obtain ⟨y, Hy⟩ : ∃ y, Hid (dgE a = y) := ⟨_, rfl⟩
  rw [Hx.out, Hy.out]
  go_wp2_with fail
  refine (refDigit_any a _ HA.out).mono ?_
  rintro e w2 ⟨rfl, b2⟩
  rw [Hx.out, Hy.out]
  have T2 := hide (T1.out.on b2)
  clear b2 T1 k1
  go_wp2_with (go_at_call 22; refine (isNum_any _ _ _ _ _ rfl rfl).mono ?_; rintro e w3 ⟨rfl, rfl⟩)
  go_ret
  exact ⟨rfl, T2.out.below⟩
set_option maxRecDepth 100000 in
set_option maxHeartbeats 3000000 in
theorem plays3 (a b : ByteArray) (n : Int) (lp : Option Addr) (ll lc : Nat) (w : World) (ha : a.size ≤ maxLen) :
    Calls Tryz.prog 5 #[.agg #[.int .i64 3, .string a, .string b, .int .i64 n, .slice lp ll lc]] w fun e w' => e = .returned (.bool true) ∧ Below w.heap.size w w' := by
  have T0 := hide (BoxA.start w 3 a b n (.slice lp ll lc))
  have HA := hide ha
  clear ha
  go_enter Tryz.func5, Tryz.ntmps5
  go_wp2_with fail
  obtain ⟨w0, Hw0⟩ : ∃ w0, w.alloc (.cells #[.int .i64 3, .string a, .string b, .int .i64 n, .slice lp ll lc] 27) = w0 := ⟨_, rfl⟩
  rw [Hw0] at T0 ⊢
  clear Hw0
  refine (article3 a b n lp ll lc _ HA.out).mono ?_
  rintro e w1 ⟨rfl, b1⟩
  have T1 := hide (T0.out.on b1)
  clear b1 T0
  go_wp2_with fail
  go_ret
  exact ⟨rfl, T1.out.below⟩
set_option maxRecDepth 100000 in
set_option maxHeartbeats 1600000 in
theorem article4 (a b : ByteArray) (n : Int) (lp : Option Addr) (ll lc : Nat) (w : World) (ha : a.size ≤ maxLen) :
    Calls Tryz.prog 11 #[.agg #[.int .i64 4, .string a, .string b, .int .i64 n, .slice lp ll lc]] w fun e w' => e = .returned (.bool true) ∧ Below w.heap.size w w' := by
  have T0 := hide (BoxA.start w 4 a b n (.slice lp ll lc))
  have HA := hide ha
  clear ha
  go_enter Tryz.func11, Tryz.ntmps11
  go_wp2_with fail
  obtain ⟨w0, Hw0⟩ : ∃ w0, w.alloc (.cells #[.int .i64 4, .string a, .string b, .int .i64 n, .slice lp ll lc] 27) = w0 := ⟨_, rfl⟩
  rw [Hw0] at T0 ⊢
  clear Hw0
  refine (gtin_any a _ HA.out).mono ?_
  rintro e w1 ⟨rfl, b1⟩
  have T1 := hide (T0.out.on b1)
  have k1 := T1.out.c1
  clear b1 T0
  obtain ⟨x, Hx⟩ : ∃ x, Hid (gtN a = x) := ⟨_, rfl⟩
  obtain ⟨y, Hy⟩ : ∃ y, Hid (gtE a = y) := ⟨_, rfl⟩
  rw [Hx.out, Hy.out]
  go_wp2_with fail
  refine (refGtin_any a _ HA.out).mono ?_
  rintro e w2 ⟨rfl, b2⟩
  rw [Hx.out, Hy.out]
  have T2 := hide (T1.out.on b2)
  clear b2 T1 k1
  go_wp2_with (go_at_call 22; refine (isNum_any _ _ _ _ _ rfl rfl).mono ?_; rintro e w3 ⟨rfl, rfl⟩)
  go_ret
  exact ⟨rfl, T2.out.below⟩
set_option maxRecDepth 100000 in
set_option maxHeartbeats 3000000 in
theorem plays4 (a b : ByteArray) (n : Int) (lp : Option Addr) (ll lc : Nat) (w : World) (ha : a.size ≤ maxLen) :
    Calls Tryz.prog 5 #[.agg #[.int .i64 4, .string a, .string b, .int .i64 n, .slice lp ll lc]] w fun e w' => e = .returned (.bool true) ∧ Below w.heap.size w w' := by
  have T0 := hide (BoxA.start w 4 a b n (.slice lp ll lc))
  have HA := hide ha
  clear ha
  go_enter Tryz.func5, Tryz.ntmps5
  go_wp2_with fail
  obtain ⟨w0, Hw0⟩ : ∃ w0, w.alloc (.cells #[.int .i64 4, .string a, .string b, .int .i64 n, .slice lp ll lc] 27) = w0 := ⟨_, rfl⟩
  rw [Hw0] at T0 ⊢
  clear Hw0
  refine (article4 a b n lp ll lc _ HA.out).mono ?_
  rintro e w1 ⟨rfl, b1⟩
  have T1 := hide (T0.out.on b1)
  clear b1 T0
  go_wp2_with fail
  go_ret
  exact ⟨rfl, T1.out.below⟩
set_option maxRecDepth 100000 in
set_option maxHeartbeats 1600000 in
theorem article5 (a b : ByteArray) (n : Int) (lp : Option Addr) (ll lc : Nat) (w : World) (ha : a.size ≤ maxLen) :
    Calls Tryz.prog 11 #[.agg #[.int .i64 5, .string a, .string b, .int .i64 n, .slice lp ll lc]] w fun e w' => e = .returned (.bool true) ∧ Below w.heap.size w w' := by
  have T0 := hide (BoxA.start w 5 a b n (.slice lp ll lc))
  have HA := hide ha
  clear ha
  go_enter Tryz.func11, Tryz.ntmps11
  go_wp2_with fail
  obtain ⟨w0, Hw0⟩ : ∃ w0, w.alloc (.cells #[.int .i64 5, .string a, .string b, .int .i64 n, .slice lp ll lc] 27) = w0 := ⟨_, rfl⟩
  rw [Hw0] at T0 ⊢
  clear Hw0
  refine (widenP_any a _ HA.out).mono ?_
  rintro e w1 ⟨rfl, b1⟩
  have T1 := hide (T0.out.on b1)
  have k1 := T1.out.c1
  clear b1 T0
  obtain ⟨x, Hx⟩ : ∃ x, Hid (wiS a = x) := ⟨_, rfl⟩
  obtain ⟨y, Hy⟩ : ∃ y, Hid (gtE a = y) := ⟨_, rfl⟩
  rw [Hx.out, Hy.out]
  go_wp2_with fail
  refine (refWiden_any a _ HA.out).mono ?_
  rintro e w2 ⟨rfl, b2⟩
  rw [Hx.out, Hy.out]
  have T2 := hide (T1.out.on b2)
  clear b2 T1 k1
  go_wp2_with (go_at_call 27; refine (isText_any _ _ _ _ _ rfl rfl).mono ?_; rintro e w3 ⟨rfl, rfl⟩)
  go_ret
  exact ⟨rfl, T2.out.below⟩
set_option maxRecDepth 100000 in
set_option maxHeartbeats 3000000 in
theorem plays5 (a b : ByteArray) (n : Int) (lp : Option Addr) (ll lc : Nat) (w : World) (ha : a.size ≤ maxLen) :
    Calls Tryz.prog 5 #[.agg #[.int .i64 5, .string a, .string b, .int .i64 n, .slice lp ll lc]] w fun e w' => e = .returned (.bool true) ∧ Below w.heap.size w w' := by
  have T0 := hide (BoxA.start w 5 a b n (.slice lp ll lc))
  have HA := hide ha
  clear ha
  go_enter Tryz.func5, Tryz.ntmps5
  go_wp2_with fail
  obtain ⟨w0, Hw0⟩ : ∃ w0, w.alloc (.cells #[.int .i64 5, .string a, .string b, .int .i64 n, .slice lp ll lc] 27) = w0 := ⟨_, rfl⟩
  rw [Hw0] at T0 ⊢
  clear Hw0
  refine (article5 a b n lp ll lc _ HA.out).mono ?_
  rintro e w1 ⟨rfl, b1⟩
  have T1 := hide (T0.out.on b1)
  clear b1 T0
  go_wp2_with fail
  go_ret
  exact ⟨rfl, T1.out.below⟩
end Go.Proofs.YtnlklhjmhienkaaGreatDoor.A
