/- LinesPicks: the law's walk. -/
import Derived.Test.YtopgmkonigaalaaOw
import Derived.Test.YtopgmkonigaalaaROw
import Derived.Test.YtopgmkonigaalaaSame
namespace Go.Proofs.Ytopgmkonigaalaa
open Go.RowKit
attribute [local go_sem ↓] ld28_eq st28_eq
attribute [local go_sem] zero_EC cells_EV

theorem sz1' (x : UInt8) : (⟨#[x]⟩ : ByteArray).size ≤ maxLen := by unfold maxLen; have : (⟨#[x]⟩ : ByteArray).size = 1 := rfl; omega
theorem ow_some : owE someL 1 ⟨#[65]⟩ = 0 ∧ (owV someL 1 ⟨#[65]⟩).length = 1 ∧ ((owV someL 1 ⟨#[65]⟩).getD 0 en0).qty = 1 := by decide +kernel
theorem EnAt.f3 {w : World} {p : Addr} {e : En} (A : EnAt w p e) : w.cell? ⟨p.block, p.off + 3, none⟩ = some (.int .i64 e.qty) := by
  have h := A.c3
  have hs := A.spot
  obtain ⟨b, o, sp⟩ := p
  simp at hs
  subst hs
  rwa [Addr.add_lit] at h
/-- what stands all the way through -/
structure ThruP (w W : World) (ao : Option Addr) (n cap : Nat) (L : List En) (r : Int) (s : ByteArray) : Prop where
  below : Below w.heap.size w W
  src : ESrc W ao n cap L
  c0 : W.cell? ⟨w.heap.size, 0, none⟩ = some (.slice ao n cap)
  c6 : W.cell? ⟨w.heap.size, 6, none⟩ = some (.int .i64 r)
  c7 : W.cell? ⟨w.heap.size, 7, none⟩ = some (.string s)
theorem ThruP.on {w W W' : World} {ao : Option Addr} {n cap : Nat} {L : List En} {r : Int} {s : ByteArray} (h : ThruP w W ao n cap L r s) (hb : Below W.heap.size W W') : ThruP w W' ao n cap L r s :=
  ⟨h.below.trans (hb.mono h.below.size), h.src.below hb, (hb.cell (World.block_lt_of_cell? _ _ h.c0)).trans h.c0, (hb.cell (World.block_lt_of_cell? _ _ h.c6)).trans h.c6, (hb.cell (World.block_lt_of_cell? _ _ h.c7)).trans h.c7⟩
set_option maxHeartbeats 1600000 in
theorem picks_any (ao : Option Addr) (n cap : Nat) (L : List En) (v1 v2 v3 v4 v5 : Value) (r : Int) (s : ByteArray) (w : World) (hS : ESrc w ao n cap L) (hs : s.size ≤ maxLen) :
    Calls Try.prog 4 #[.agg #[.slice ao n cap, v1, v2, v3, v4, v5, .int .i64 r, .string s]] w fun e w' => e = .returned (.bool true) ∧ Below w.heap.size w w' := by
  have T0 : Hid (ThruP w (w.alloc (.cells #[.slice ao n cap, v1, v2, v3, v4, v5, .int .i64 r, .string s] 38)) ao n cap L r s) := ⟨below_new _ _, hS.below (below_new _ _), by simp, by simp, by simp⟩
  have HSs := hide hs
  clear hS hs
  go_enter Try.func4, Try.ntmps4
  go_wp2_with fail
  obtain ⟨w0, Hw0⟩ : ∃ w0, w.alloc (.cells #[.slice ao n cap, v1, v2, v3, v4, v5, .int .i64 r, .string s] 38) = w0 := ⟨_, rfl⟩
  rw [Hw0] at T0 ⊢
  clear Hw0
  refine (some_any _).mono ?_
  rintro x w1 ⟨a1, n1, q1, rfl, S1, b1, _⟩
  have T1 := hide (T0.out.on b1)
  have S1' := hide S1
  clear S1 b1 T0
  go_wp2_with fail
  refine (own_any _ _ _ someL 1 ⟨#[65]⟩ _ S1'.out (sz1' _)).mono ?_
  rintro x w2 ⟨a2, n2, q2, rfl, S2, b2, _⟩
  have hn2 : n2 = 1 := by rw [← S2.1]; exact ow_some.2.1
  rw [ow_some.1]
  subst hn2
  obtain ⟨d2, rfl, A2⟩ := S2.at 0 (by omega)
  rw [Nat.zero_mul, add_zero] at A2
  have f3 := A2.f3
  rw [ow_some.2.2] at f3
  have T2 := hide (T1.out.on b2)
  clear S2 b2 T1 S1'
  have k0 := T2.out.c0
  have k6 := T2.out.c6
  have k7 := T2.out.c7
  clear A2
  go_wp2_with fail
  refine (refOf_any _ _ _ L s _ T2.out.src HSs.out).mono ?_
  rintro x w3 ⟨a3, n3, q3, rfl, S3, b3, _⟩
  have T3 := hide (T2.out.on b3)
  have S3' := hide S3
  clear S3 b3 T2 k0 k6 k7 f3
  have k0 := T3.out.c0
  have k6 := T3.out.c6
  have k7 := T3.out.c7
  obtain ⟨eo, Heo⟩ : ∃ eo, Hid (ofE L s = eo) := ⟨_, rfl⟩
  rw [Heo.out]
  go_wp2_with fail
  refine (refOwn_any _ _ _ L r s _ T3.out.src HSs.out).mono ?_
  rintro x w4 ⟨a4, n4, q4, rfl, S4, b4, _⟩
  have T4 := hide (T3.out.on b4)
  have S34 := hide (S3'.out.below b4)
  have S4' := hide S4
  clear S4 b4 T3 k0 k6 k7 S3'
  have k0 := T4.out.c0
  have k6 := T4.out.c6
  have k7 := T4.out.c7
  obtain ⟨ew, Hew⟩ : ∃ ew, Hid (owE L r s = ew) := ⟨_, rfl⟩
  rw [Hew.out]
  go_wp2_with fail
  refine (of_any _ _ _ L s _ T4.out.src HSs.out).mono ?_
  rintro x w5 ⟨a5, n5, q5, rfl, S5, b5, _⟩
  rw [Heo.out]
  have T5 := hide (T4.out.on b5)
  have S35 := hide (S34.out.below b5)
  have S45 := hide (S4'.out.below b5)
  have S5' := hide S5
  clear S5 b5 T4 k0 k6 k7 S34 S4'
  have k0 := T5.out.c0
  have k6 := T5.out.c6
  have k7 := T5.out.c7
  go_wp2_with fail
  refine (same_any _ _ _ _ _ _ (ofV L s) (ofV L s) _ S5'.out S35.out rfl).mono ?_
  rintro x w6 ⟨rfl, b6⟩
  have T6 := hide (T5.out.on b6)
  have S46 := hide (S45.out.below b6)
  clear b6 T5 k0 k6 k7 S45 S5' S35
  have k0 := T6.out.c0
  have k6 := T6.out.c6
  have k7 := T6.out.c7
  go_wp2_with fail
  refine (own_any _ _ _ L r s _ T6.out.src HSs.out).mono ?_
  rintro x w7 ⟨a7, n7, q7, rfl, S7, b7, _⟩
  rw [Hew.out]
  have T7 := hide (T6.out.on b7)
  have S47 := hide (S46.out.below b7)
  have S7' := hide S7
  clear S7 b7 T6 k0 k6 k7 S46
  go_wp2_with fail
  refine (same_any _ _ _ _ _ _ (owV L r s) (owV L r s) _ S7'.out S47.out rfl).mono ?_
  rintro x w8 ⟨rfl, b8⟩
  have T8 := hide (T7.out.on b8)
  clear b8 T7
  go_wp2_with fail
  go_ret
  exact ⟨rfl, T8.out.below⟩
end Go.Proofs.Ytopgmkonigaalaa
