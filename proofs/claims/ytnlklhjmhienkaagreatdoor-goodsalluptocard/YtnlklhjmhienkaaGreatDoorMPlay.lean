/- isBool, match, plays at the kinds 6 and 12: the walks. -/
import Derived.Test.YtnlklhjmhienkaaGreatDoorMMat
import Derived.Test.YtnlklhjmhienkaaGreatDoorOnly
namespace Go.Proofs.YtnlklhjmhienkaaGreatDoor.M
open Go.RowKit

theorem isBool_any (b c : Bool) (e f : Int) (w : World) (h1 : b = c) (h2 : e = f) : Calls Tryz.prog 36 #[.bool b, .int .i64 e, .bool c, .int .i64 f] w fun x w' => x = .returned (.bool true) ∧ w' = w := by
  subst h1 h2
  cases b with
  | true =>
    go_enter Tryz.func36, Tryz.ntmps36
    go_wp2
    go_ret
    exact ⟨ret_bool (by simp), rfl⟩
  | false =>
    go_enter Tryz.func36, Tryz.ntmps36
    go_wp2
    go_ret
    exact ⟨ret_bool (by simp), rfl⟩
set_option maxHeartbeats 1600000 in
theorem matchL_any (a b : ByteArray) (w : World) (ha : a.size ≤ maxLen) (hb : b.size ≤ maxLen) :
    Calls Tryz.prog 12 #[.string a, .string b] w fun e w' => e = .returned (.bool true) ∧ Below w.heap.size w w' := by
  have HA := hide ha
  have HB := hide hb
  clear ha hb
  obtain ⟨x, Hx⟩ : ∃ x, Hid (maB a b = x) := ⟨_, rfl⟩
  obtain ⟨y, Hy⟩ : ∃ y, Hid (maE a b = y) := ⟨_, rfl⟩
  go_enter Tryz.func12, Tryz.ntmps12
  go_wp2_with fail
  refine (matchP_any a b _ HA.out HB.out).mono ?_
  rintro e w1 ⟨rfl, b1⟩
  rw [Hx.out, Hy.out]
  have B1 := hide b1
  clear b1
  go_wp2_with fail
  refine (refMatch_any a b _ HA.out HB.out).mono ?_
  rintro e w2 ⟨rfl, b2⟩
  rw [Hx.out, Hy.out]
  have B2 := hide (B1.out.trans (b2.mono B1.out.size))
  clear b2 B1
  go_wp2_with (go_at_call 36; refine (isBool_any _ _ _ _ _ rfl rfl).mono ?_; rintro e w3 ⟨rfl, rfl⟩)
  go_ret
  exact ⟨rfl, B2.out⟩
/-- what the box of a step keeps -/
structure BoxM (w W : World) (a b : ByteArray) : Prop where
  below : Below w.heap.size w W
  c1 : W.cell? ⟨w.heap.size, 1, none⟩ = some (.string a)
  c2 : W.cell? ⟨w.heap.size, 2, none⟩ = some (.string b)
theorem BoxM.on {w W W' : World} {a b : ByteArray} (h : BoxM w W a b) (hb : Below W.heap.size W W') : BoxM w W' a b :=
  ⟨h.below.trans (hb.mono h.below.size), (hb.cell (World.block_lt_of_cell? _ _ h.c1)).trans h.c1, (hb.cell (World.block_lt_of_cell? _ _ h.c2)).trans h.c2⟩
theorem BoxM.start (w : World) (k : Int) (a b : ByteArray) (n : Int) (v : Value) : BoxM w (w.alloc (.cells #[.int .i64 k, .string a, .string b, .int .i64 n, v] 27)) a b :=
  ⟨(Below.refl _ _).alloc (Nat.le_refl _) _, by simp, by simp⟩
set_option maxRecDepth 100000 in
set_option maxHeartbeats 3000000 in
theorem plays6 (a b : ByteArray) (n : Int) (lp : Option Addr) (ll lc : Nat) (w : World) (ha : a.size ≤ maxLen) (hb : b.size ≤ maxLen) :
    Calls Tryz.prog 5 #[.agg #[.int .i64 6, .string a, .string b, .int .i64 n, .slice lp ll lc]] w fun e w' => e = .returned (.bool true) ∧ Below w.heap.size w w' := by
  have T0 := hide (BoxM.start w 6 a b n (.slice lp ll lc))
  have HA := hide ha
  have HB := hide hb
  clear ha hb
  go_enter Tryz.func5, Tryz.ntmps5
  go_wp2_with fail
  obtain ⟨w0, Hw0⟩ : ∃ w0, w.alloc (.cells #[.int .i64 6, .string a, .string b, .int .i64 n, .slice lp ll lc] 27) = w0 := ⟨_, rfl⟩
  rw [Hw0] at T0 ⊢
  clear Hw0
  refine (matchL_any a b _ HA.out HB.out).mono ?_
  rintro e w1 ⟨rfl, b1⟩
  have T1 := hide (T0.out.on b1)
  clear b1 T0
  go_wp2_with fail
  go_ret
  exact ⟨rfl, T1.out.below⟩
set_option maxRecDepth 100000 in
set_option maxHeartbeats 3000000 in
theorem plays12 (a b : ByteArray) (n : Int) (lp : Option Addr) (ll lc : Nat) (w : World) (ha : a.size ≤ maxLen) (hb : b.size ≤ maxLen) :
    Calls Tryz.prog 5 #[.agg #[.int .i64 12, .string a, .string b, .int .i64 n, .slice lp ll lc]] w fun e w' => e = .returned (.bool true) ∧ Below w.heap.size w w' := by
  have T0 := hide (BoxM.start w 12 a b n (.slice lp ll lc))
  have HA := hide ha
  have HB := hide hb
  clear ha hb
  obtain ⟨w0, Hw0⟩ : ∃ w0, Hid (w.alloc (.cells #[.int .i64 12, .string a, .string b, .int .i64 n, .slice lp ll lc] 27) = w0) := ⟨_, rfl⟩
  rw [Hw0.out] at T0
  have k1 := T0.out.c1
  have k2 := T0.out.c2
  go_enter Tryz.func5, Tryz.ntmps5
  go_wp2_with fail
  rw [Hw0.out]
  refine (matchL_any a b _ HA.out HB.out).mono ?_
  rintro e w1 ⟨rfl, b1⟩
  have T1 := hide (T0.out.on b1)
  clear b1 T0 k1 k2
  have k2 := T1.out.c2
  go_wp2_with fail
  refine (matchL_any b b _ HB.out HB.out).mono ?_
  rintro e w2 ⟨rfl, b2⟩
  have T2 := hide (T1.out.on b2)
  clear b2 T1 k2
  go_wp2_with fail
  go_ret
  exact ⟨rfl, T2.out.below⟩
end Go.Proofs.YtnlklhjmhienkaaGreatDoor.M
