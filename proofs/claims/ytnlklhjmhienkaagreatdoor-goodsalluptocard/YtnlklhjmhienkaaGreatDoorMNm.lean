/- isNum, isText, name, plays at the kinds 1, 2, 11: their contracts. -/
import Derived.Test.YtnlklhjmhienkaaGreatDoorMRCl
import Derived.Test.YtnlklhjmhienkaaGreatDoorOnly
import Derived.Lib.QuietBelow
import Derived.Deep.RegionHeld
namespace Go.Proofs.YtnlklhjmhienkaaGreatDoor.M
open Go.RowKit

theorem isNum_any (n e m f : Int) (w : World) (h1 : n = m) (h2 : e = f) : Calls Tryz.prog 22 #[.int .i64 n, .int .i64 e, .int .i64 m, .int .i64 f] w fun x w' => x = .returned (.bool true) ∧ w' = w := by
  subst h1 h2
  go_enter Tryz.func22, Tryz.ntmps22
  go_wp2
  go_ret
  exact ⟨ret_bool (by simp), rfl⟩
theorem isText_any (s t : ByteArray) (e f : Int) (w : World) (h1 : s = t) (h2 : e = f) : Calls Tryz.prog 27 #[.string s, .int .i64 e, .string t, .int .i64 f] w fun x w' => x = .returned (.bool true) ∧ w' = w := by
  subst h1 h2
  go_enter Tryz.func27, Tryz.ntmps27
  go_wp2
  go_ret
  exact ⟨ret_bool (by simp), rfl⟩

/-- what the box of a step keeps -/
structure BoxN (w W : World) (k : Int) (a : ByteArray) : Prop where
  below : Below w.heap.size w W
  c0 : W.cell? ⟨w.heap.size, 0, none⟩ = some (.int .i64 k)
  c1 : W.cell? ⟨w.heap.size, 1, none⟩ = some (.string a)
theorem BoxN.on {w W W' : World} {k : Int} {a : ByteArray} (h : BoxN w W k a) (hb : Below W.heap.size W W') : BoxN w W' k a :=
  ⟨h.below.trans (hb.mono h.below.size), (hb.cell (World.block_lt_of_cell? _ _ h.c0)).trans h.c0, (hb.cell (World.block_lt_of_cell? _ _ h.c1)).trans h.c1⟩
theorem BoxN.start (w : World) (k : Int) (a b : ByteArray) (n : Int) (v : Value) : BoxN w (w.alloc (.cells #[.int .i64 k, .string a, .string b, .int .i64 n, v] 27)) k a :=
  ⟨(Below.refl _ _).alloc (Nat.le_refl _) _, by simp, by simp⟩
theorem clS_size (s : ByteArray) : (bs (clS s.data.toList)).size ≤ maxLen := by
  rw [bs_size]
  unfold clS
  by_cases h : clE s.data.toList = 0
  · rw [if_pos h]
    have h96 : s.data.toList.length ≤ 96 := by
      unfold clE at h
      by_cases hh : 96 < s.data.toList.length
      · rw [if_pos hh] at h; cases h
      · omega
    have := crun_len s.data.toList
    unfold maxLen; omega
  · rw [if_neg h]; exact Nat.zero_le _
set_option maxRecDepth 100000 in
set_option maxHeartbeats 1600000 in
theorem name1 (a b : ByteArray) (n : Int) (lp : Option Addr) (ll lc : Nat) (w : World) (ha : a.size ≤ maxLen) :
    Calls Tryz.prog 10 #[.agg #[.int .i64 1, .string a, .string b, .int .i64 n, .slice lp ll lc]] w fun e w' => e = .returned (.bool true) ∧ Below w.heap.size w w' := by
  have T0 := hide (BoxN.start w 1 a b n (.slice lp ll lc))
  have HA := hide ha
  clear ha
  obtain ⟨x, Hx⟩ : ∃ x, Hid (ckP a.data.toList = x) := ⟨_, rfl⟩
  obtain ⟨y, Hy⟩ : ∃ y, Hid (ckE a.data.toList = y) := ⟨_, rfl⟩
  obtain ⟨z, Hz⟩ : ∃ z, Hid (good a.data.toList = z) := ⟨_, rfl⟩
  go_enter Tryz.func10, Tryz.ntmps10
  go_wp2_with fail
  obtain ⟨w0, Hw0⟩ : ∃ w0, w.alloc (.cells #[.int .i64 1, .string a, .string b, .int .i64 n, .slice lp ll lc] 27) = w0 := ⟨_, rfl⟩
  rw [Hw0] at T0 ⊢
  clear Hw0
  refine (check_full a _ HA.out).mono ?_
  rintro e w1 ⟨rfl, hw1⟩
  subst w1
  have k1 := T0.out.c1
  rw [Hx.out, Hy.out]
  go_wp2_with (go_at_call 21; refine (refCheck_full a _ HA.out).mono ?_; rintro e w3 ⟨rfl, h3⟩; subst w3; rw [Hx.out, Hy.out])
  have kq := cell_regrown k1
  have cN : ∀ d os, Calls Tryz.prog 22 #[.int .i64 x, .int .i64 y, .int .i64 x, .int .i64 y] (Sort.grow (redrawn w0 d) os) fun e w'' => e = .returned (.bool true) ∧ ∃ p : Regrown, w'' = Sort.grow (redrawn w0 p.d) p.os := fun d os => by
    refine Calls.regrown_of ((isNum_any x y x y (Sort.grow (redrawn w0 d) os) rfl rfl).mono fun e w' h => ⟨h.1, by rw [h.2]; exact Below.refl _ _⟩)
  have cG : ∀ d os, Calls Tryz.prog 23 #[.string a] (Sort.grow (redrawn w0 d) os) fun e w'' => e = .returned (.bool z) ∧ ∃ p : Regrown, w'' = Sort.grow (redrawn w0 p.d) p.os := fun d os => by
    have := good_any a (Sort.grow (redrawn w0 d) os) HA.out
    rw [Hz.out] at this
    exact Calls.regrown_of (this.mono fun e w' h => ⟨h.1, by rw [h.2]; exact Below.refl _ _⟩)
  have cR : ∀ d os, Calls Tryz.prog 24 #[.string a] (Sort.grow (redrawn w0 d) os) fun e w'' => e = .returned (.bool z) ∧ ∃ p : Regrown, w'' = Sort.grow (redrawn w0 p.d) p.os := fun d os => by
    have := refGood_any a (Sort.grow (redrawn w0 d) os) HA.out
    rw [Hz.out] at this
    exact Calls.regrown_of (this.mono fun e w' h => ⟨h.1, by rw [h.2]; exact Below.refl _ _⟩)
  clear k1
  refine wp_region_quiet_below (by kernel_rfl) (by kernel_rfl) ?_
  repeat (with_reducible (refine wpQuiet_step ?_); intro K hK; go_simp; (try rw [if_neg (by unfold undef; simp)]); first | (with_reducible (refine hK _ ?_); clear hK K) | (apply Exists.intro; refine ⟨fun _ => ?_, hK _ ?_⟩; (first | (go_at_call 22; exact cN _ _) | (go_at_call 23; exact cG _ _) | (go_at_call 24; exact cR _ _)); clear hK K))
  with_reducible (refine wpQuiet_nil ?_)
  intro _ hw'
  obtain ⟨⟨dq, osq⟩, hw''⟩ := hw'
  subst hw''
  have HBE : Hid (Below w.heap.size w (Sort.grow (redrawn w0 dq) osq)) := T0.out.below.trans ((below_regrown w0 dq osq).mono T0.out.below.size)
  go_wp2_with fail
  go_ret
  exact ⟨ret_bool (by simp), HBE.out⟩
set_option maxRecDepth 100000 in
set_option maxHeartbeats 1600000 in
theorem name2 (a b : ByteArray) (n : Int) (lp : Option Addr) (ll lc : Nat) (w : World) (ha : a.size ≤ maxLen) :
    Calls Tryz.prog 10 #[.agg #[.int .i64 2, .string a, .string b, .int .i64 n, .slice lp ll lc]] w fun e w' => e = .returned (.bool true) ∧ Below w.heap.size w w' := by
  have T0 := hide (BoxN.start w 2 a b n (.slice lp ll lc))
  have HA := hide ha
  clear ha
  obtain ⟨x, Hx⟩ : ∃ x, Hid (bs (clS a.data.toList) = x) := ⟨_, rfl⟩
  obtain ⟨y, Hy⟩ : ∃ y, Hid (clE a.data.toList = y) := ⟨_, rfl⟩
  go_enter Tryz.func10, Tryz.ntmps10
  go_wp2_with fail
  obtain ⟨w0, Hw0⟩ : ∃ w0, w.alloc (.cells #[.int .i64 2, .string a, .string b, .int .i64 n, .slice lp ll lc] 27) = w0 := ⟨_, rfl⟩
  rw [Hw0] at T0 ⊢
  clear Hw0
  refine (clean_any a _ HA.out).mono ?_
  rintro e w1 ⟨rfl, b1⟩
  have T1 := hide (T0.out.on b1)
  have k1 := T1.out.c1
  clear b1 T0
  rw [Hx.out, Hy.out]
  go_wp2_with fail
  refine (refClean_any a _ HA.out).mono ?_
  rintro e w2 ⟨rfl, b2⟩
  rw [Hx.out, Hy.out]
  have T2 := hide (T1.out.on b2)
  have k0 := T2.out.c0
  clear b2 T1 k1
  go_wp2_with (go_at_call 27; refine (isText_any _ _ _ _ _ rfl rfl).mono ?_; rintro e w3 ⟨rfl, h3⟩; subst w3)
  go_ret
  exact ⟨rfl, T2.out.below⟩
set_option maxRecDepth 100000 in
set_option maxHeartbeats 1600000 in
theorem name11 (a b : ByteArray) (n : Int) (lp : Option Addr) (ll lc : Nat) (w : World) (ha : a.size ≤ maxLen) :
    Calls Tryz.prog 10 #[.agg #[.int .i64 11, .string a, .string b, .int .i64 n, .slice lp ll lc]] w fun e w' => e = .returned (.bool true) ∧ Below w.heap.size w w' := by
  have T0 := hide (BoxN.start w 11 a b n (.slice lp ll lc))
  have HA := hide ha
  have HL := hide (clS_size a)
  clear ha
  obtain ⟨x, Hx⟩ : ∃ x, Hid (bs (clS a.data.toList) = x) := ⟨_, rfl⟩
  obtain ⟨y, Hy⟩ : ∃ y, Hid (clE a.data.toList = y) := ⟨_, rfl⟩
  rw [Hx.out] at HL
  obtain ⟨p, Hp⟩ : ∃ p, Hid (ckP x.data.toList = p) := ⟨_, rfl⟩
  obtain ⟨q, Hq⟩ : ∃ q, Hid (ckE x.data.toList = q) := ⟨_, rfl⟩
  go_enter Tryz.func10, Tryz.ntmps10
  go_wp2_with fail
  obtain ⟨w0, Hw0⟩ : ∃ w0, w.alloc (.cells #[.int .i64 11, .string a, .string b, .int .i64 n, .slice lp ll lc] 27) = w0 := ⟨_, rfl⟩
  rw [Hw0] at T0 ⊢
  clear Hw0
  refine (clean_any a _ HA.out).mono ?_
  rintro e w1 ⟨rfl, b1⟩
  have T1 := hide (T0.out.on b1)
  have k1 := T1.out.c1
  clear b1 T0
  rw [Hx.out, Hy.out]
  go_wp2_with fail
  refine (refClean_any a _ HA.out).mono ?_
  rintro e w2 ⟨rfl, b2⟩
  rw [Hx.out, Hy.out]
  have T2 := hide (T1.out.on b2)
  have k0 := T2.out.c0
  clear b2 T1 k1
  go_wp2_with (first | (go_at_call 27; refine (isText_any _ _ _ _ _ rfl rfl).mono ?_; rintro e w3 ⟨rfl, h3⟩; subst w3) | (go_at_call 20; refine (check_full x _ HL.out).mono ?_; rintro e w3 ⟨rfl, h3⟩; subst w3; rw [Hp.out, Hq.out]) | (go_at_call 21; refine (refCheck_full x _ HL.out).mono ?_; rintro e w3 ⟨rfl, h3⟩; subst w3; rw [Hp.out, Hq.out]) | (go_at_call 22; refine (isNum_any _ _ _ _ _ rfl rfl).mono ?_; rintro e w3 ⟨rfl, h3⟩; subst w3))
  go_ret
  exact ⟨rfl, T2.out.below⟩
set_option maxRecDepth 100000 in
set_option maxHeartbeats 3000000 in
theorem plays1 (a b : ByteArray) (n : Int) (lp : Option Addr) (ll lc : Nat) (w : World) (ha : a.size ≤ maxLen) :
    Calls Tryz.prog 5 #[.agg #[.int .i64 1, .string a, .string b, .int .i64 n, .slice lp ll lc]] w fun e w' => e = .returned (.bool true) ∧ Below w.heap.size w w' := by
  have T0 := hide (BoxN.start w 1 a b n (.slice lp ll lc))
  have HA := hide ha
  clear ha
  go_enter Tryz.func5, Tryz.ntmps5
  go_wp2_with fail
  obtain ⟨w0, Hw0⟩ : ∃ w0, w.alloc (.cells #[.int .i64 1, .string a, .string b, .int .i64 n, .slice lp ll lc] 27) = w0 := ⟨_, rfl⟩
  rw [Hw0] at T0 ⊢
  clear Hw0
  refine (name1 a b n lp ll lc _ HA.out).mono ?_
  rintro e w1 ⟨rfl, b1⟩
  have T1 := hide (T0.out.on b1)
  clear b1 T0
  go_wp2_with fail
  go_ret
  exact ⟨rfl, T1.out.below⟩
set_option maxRecDepth 100000 in
set_option maxHeartbeats 3000000 in
theorem plays2 (a b : ByteArray) (n : Int) (lp : Option Addr) (ll lc : Nat) (w : World) (ha : a.size ≤ maxLen) :
    Calls Tryz.prog 5 #[.agg #[.int .i64 2, .string a, .string b, .int .i64 n, .slice lp ll lc]] w fun e w' => e = .returned (.bool true) ∧ Below w.heap.size w w' := by
  have T0 := hide (BoxN.start w 2 a b n (.slice lp ll lc))
  have HA := hide ha
  clear ha
  go_enter Tryz.func5, Tryz.ntmps5
  go_wp2_with fail
  obtain ⟨w0, Hw0⟩ : ∃ w0, w.alloc (.cells #[.int .i64 2, .string a, .string b, .int .i64 n, .slice lp ll lc] 27) = w0 := ⟨_, rfl⟩
  rw [Hw0] at T0 ⊢
  clear Hw0
  refine (name2 a b n lp ll lc _ HA.out).mono ?_
  rintro e w1 ⟨rfl, b1⟩
  have T1 := hide (T0.out.on b1)
  clear b1 T0
  go_wp2_with fail
  go_ret
  exact ⟨rfl, T1.out.below⟩
set_option maxRecDepth 100000 in
set_option maxHeartbeats 3000000 in
theorem plays11 (a b : ByteArray) (n : Int) (lp : Option Addr) (ll lc : Nat) (w : World) (ha : a.size ≤ maxLen) :
    Calls Tryz.prog 5 #[.agg #[.int .i64 11, .string a, .string b, .int .i64 n, .slice lp ll lc]] w fun e w' => e = .returned (.bool true) ∧ Below w.heap.size w w' := by
  have T0 := hide (BoxN.start w 11 a b n (.slice lp ll lc))
  have HA := hide ha
  clear ha
  go_enter Tryz.func5, Tryz.ntmps5
  go_wp2_with fail
  obtain ⟨w0, Hw0⟩ : ∃ w0, w.alloc (.cells #[.int .i64 11, .string a, .string b, .int .i64 n, .slice lp ll lc] 27) = w0 := ⟨_, rfl⟩
  rw [Hw0] at T0 ⊢
  clear Hw0
  refine (name11 a b n lp ll lc _ HA.out).mono ?_
  rintro e w1 ⟨rfl, b1⟩
  have T1 := hide (T0.out.on b1)
  clear b1 T0
  go_wp2_with fail
  go_ret
  exact ⟨rfl, T1.out.below⟩
end Go.Proofs.YtnlklhjmhienkaaGreatDoor.M
