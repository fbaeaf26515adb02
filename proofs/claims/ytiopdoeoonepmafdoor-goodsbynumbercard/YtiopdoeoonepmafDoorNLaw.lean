/- GoodsByNumber: the law's walk. -/
import Derived.Test.YtiopdoeoonepmafDoorNZer
import Derived.Deep.DeepCutAuto
import Derived.Deep.CutBlock
import Derived.Lib.QuietBelow
import Derived.Deep.RegionWith
namespace Go.Proofs.YtiopdoeoonepmafDoor.N
open Go.RowKit

/-- does a digit stand at place i? -/
def dAt (s : ByteArray) (i : Int) : Bool := decide (0 ≤ i) && dig (s.data.toList.getD i.toNat 0)
set_option maxHeartbeats 800000 in
theorem digitAt_any (s : ByteArray) (i : Int) (w : World) (_hs : s.size ≤ maxLen) : Calls Tryd.prog 7 #[.string s, .int .i64 i] w fun e w' => e = .returned (.bool (dAt s i)) ∧ w' = w := by
  unfold maxLen at _hs
  by_cases h0 : 0 ≤ i
  · obtain ⟨k, rfl⟩ : ∃ k : Nat, i = k := ⟨i.toNat, by omega⟩
    by_cases hlt : k < s.size
    · have e := getD_at s k hlt
      have HR : Hid (dAt s k = dig s[k]) := by show _ = _; unfold dAt; rw [decide_eq_true h0, Int.toNat_natCast, e]; rfl
      clear e h0
      by_cases h1 : 48 ≤ (s[k].toNat : Int)
      · by_cases h2 : (s[k].toNat : Int) ≤ 57
        · have HD : Hid (dig s[k] = true) := (dig_iff _).2 ⟨h1, h2⟩
          go_enter Tryd.func7, Tryd.ntmps7
          go_wp2
          go_ret
          exact ⟨ret_bool (by rw [HR.out, HD.out]), rfl⟩
        · have HD : Hid (dig s[k] = false) := by show _ = _; unfold dig; rw [decide_eq_false h2, Bool.and_false]
          go_enter Tryd.func7, Tryd.ntmps7
          go_wp2
          go_ret
          exact ⟨ret_bool (by rw [HR.out, HD.out]), rfl⟩
      · have HD : Hid (dig s[k] = false) := by show _ = _; unfold dig; rw [decide_eq_false h1, Bool.false_and]
        go_enter Tryd.func7, Tryd.ntmps7
        go_wp2
        go_ret
        exact ⟨ret_bool (by rw [HR.out, HD.out]), rfl⟩
    · have HR : Hid (dAt s k = false) := by
        show _ = _
        unfold dAt; rw [Int.toNat_natCast, List.getD, List.getElem?_eq_none (by rw [len_at]; omega)]; simp; decide
      go_enter Tryd.func7, Tryd.ntmps7
      go_wp2
      go_ret
      exact ⟨ret_bool HR.out.symm, rfl⟩
  · have HR : Hid (dAt s i = false) := by show _ = _; unfold dAt; rw [decide_eq_false h0, Bool.false_and]
    go_enter Tryd.func7, Tryd.ntmps7
    go_wp2
    go_ret
    exact ⟨ret_bool HR.out.symm, rfl⟩
theorem cmp_k (w : World) : Calls Tryd.prog 6 #[.string ⟨#[65, 50]⟩, .string ⟨#[65, 49, 48]⟩] w fun e w' => e = .returned (.int .i64 (-1)) ∧ Below w.heap.size w w' := by
  have h := compare_any ⟨#[65, 50]⟩ ⟨#[65, 49, 48]⟩ w (by decide) (by decide)
  have e : cmpF (⟨#[65, 50]⟩ : ByteArray).data.toList (⟨#[65, 49, 48]⟩ : ByteArray).data.toList = -1 := by decide +kernel
  rw [e] at h
  exact h

/-- what stands ahead and behind, as the law takes them -/
def okH (H : ByteArray) : Prop := H.data.toList = [] ∨ ∃ c, H.data.toList.getLast? = some c ∧ dig c = false
def okT (T : ByteArray) : Prop := T.data.toList = [] ∨ dig (T.data.toList.getD 0 0) = false
theorem okH_of (H : ByteArray) (h : dAt H ((H.size : Int) - 1) = false) : okH H := by
  unfold okH
  cases hl : H.data.toList.getLast? with
  | none => exact Or.inl (List.getLast?_eq_none_iff.1 hl)
  | some c =>
    refine Or.inr ⟨c, rfl, ?_⟩
    have h0 : 0 < H.size := by
      rcases Nat.eq_zero_or_pos H.size with h | h
      · have : H.data.toList = [] := List.length_eq_zero_iff.1 (by rw [len_at]; exact h)
        rw [this] at hl; simp at hl
      · exact h
    unfold dAt at h
    rw [decide_eq_true (by omega), Bool.true_and, show ((H.size : Int) - 1).toNat = H.data.toList.length - 1 by rw [len_at]; omega] at h
    rw [List.getLast?_eq_getElem?] at hl
    rw [List.getD, hl] at h
    exact h
theorem okT_of (T : ByteArray) (h : dAt T 0 = false) : okT T := Or.inr (by unfold dAt at h; simpa using h)
structure Flds (w : World) (b : Nat) (h t : ByteArray) (n m : Nat) (k l : Int) : Prop where
  c0 : w.cell? ⟨b, 0, none⟩ = some (.string h)
  c1 : w.cell? ⟨b, 1, none⟩ = some (.string t)
  c2 : w.cell? ⟨b, 2, none⟩ = some (.int .u32 n)
  c3 : w.cell? ⟨b, 3, none⟩ = some (.int .u32 m)
  c4 : w.cell? ⟨b, 4, none⟩ = some (.int .i64 k)
  c5 : w.cell? ⟨b, 5, none⟩ = some (.int .i64 l)
theorem Flds.on {w w' : World} {b : Nat} {h t : ByteArray} {n m : Nat} {k l : Int} (F : Flds w b h t n m k l) (hb : Below w.heap.size w w') : Flds w' b h t n m k l := by
  have hlt : b < w.heap.size := block_lt_of_cell F.c0
  exact ⟨by rw [hb.cell hlt]; exact F.c0, by rw [hb.cell hlt]; exact F.c1, by rw [hb.cell hlt]; exact F.c2, by rw [hb.cell hlt]; exact F.c3, by rw [hb.cell hlt]; exact F.c4, by rw [hb.cell hlt]; exact F.c5⟩
theorem below_on {a b c : World} (h1 : Below a.heap.size a b) (h2 : Below b.heap.size b c) : Below a.heap.size a c := h1.trans (h2.mono h1.size)

theorem eqv_bool {c : Int} {a b : Nat} (h : c = 0 ↔ a = b) : ((c == 0) == ((a : Int) == (b : Int))) = true := by
  by_cases hc : c = 0
  · have e := h.1 hc
    subst hc e
    simp
  · have e : ¬ a = b := fun e => hc (h.2 e)
    have e1 : (c == 0) = false := by simpa using hc
    have e2 : ((a : Int) == (b : Int)) = false := by rw [beq_eq_false_iff_ne]; omega
    rw [e1, e2]; rfl
theorem zn_size (j n : Nat) (hn : n < 4294967296) (hj : j ≤ 7) : (str (zn j n)).size ≤ 30 := by
  rw [str_size]; unfold zn
  rw [List.length_append, List.length_replicate, Lib.decDigits_length]
  have := Lib.nDigits_le20 n (by omega)
  omega
theorem three_list (H A T : ByteArray) : (H ++ A ++ T).data.toList = H.data.toList ++ A.data.toList ++ T.data.toList := by
  rw [ByteArray.data_append, Array.toList_append, ByteArray.data_append, Array.toList_append]
theorem three_size (H A T : ByteArray) (hH : H.size ≤ 140737488355328) (hA : A.size ≤ 30) (hT : T.size ≤ 140737488355328) : (H ++ A ++ T).size ≤ maxLen := by
  have e : (H ++ A ++ T).data.toList.length = H.data.toList.length + A.data.toList.length + T.data.toList.length := by
    rw [three_list, List.length_append, List.length_append]
  rw [len_at, len_at, len_at, len_at] at e
  unfold maxLen; omega

set_option maxRecDepth 100000 in
set_option maxHeartbeats 4000000 in
theorem by_law (h t : ByteArray) (n m : Nat) (k l : Int) (w : World) (hh : h.size ≤ 140737488355328) (ht : t.size ≤ 140737488355328) (hn : n < 4294967296) (hm : m < 4294967296) :
    Calls Tryd.prog 3 #[.agg #[.string h, .string t, .int .u32 n, .int .u32 m, .int .i64 k, .int .i64 l]] w fun e w' => e = .returned (.bool true) ∧ Below w.heap.size w w' := by
  have HF0 : Hid (Flds (w.alloc (.cells #[.string h, .string t, .int .u32 n, .int .u32 m, .int .i64 k, .int .i64 l] 24)) w.heap.size h t n m k l) := ⟨by simp, by simp, by simp, by simp, by simp, by simp⟩
  have HB0 : Hid (Below w.heap.size w (w.alloc (.cells #[.string h, .string t, .int .u32 n, .int .u32 m, .int .i64 k, .int .i64 l] 24))) := (Below.refl _ _).alloc (Nat.le_refl _) _
  have HM1 : Hid (h.size ≤ maxLen) := by show _ ≤ _; unfold maxLen; omega
  have HM2 : Hid (t.size ≤ maxLen) := by show _ ≤ _; unfold maxLen; omega
  go_enter Tryd.func3, Tryd.ntmps3
  go_wp2_with fail
  refine (cmp_k _).mono ?_
  rintro e w1 ⟨rfl, b1⟩
  have HF1 := hide (HF0.out.on b1)
  have HB1 : Hid (Below w.heap.size w w1) := HB0.out.trans (b1.mono HB0.out.size)
  have c0 := HF1.out.c0
  have c1 := HF1.out.c1
  clear b1
  go_wp2_with fail
  go_quiet (fail)
  go_upto_region 4 with fail
  go_cut [20] (fun v wx => v = .bool (dAt h ((h.size : Int) - 1) || dAt t 0) ∧ Below w1.heap.size w1 wx)
  case first =>
    cases hd : dAt h ((h.size : Int) - 1) with
    | true =>
      have HK : Hid (∀ W : World, Calls Tryd.prog 7 #[.string h, .int .i64 ((h.size : Int) - 1)] W fun e w' => e = .returned (.bool true) ∧ w' = W) := fun W => by
        have := digitAt_any h ((h.size : Int) - 1) W HM1.out
        rw [hd] at this; exact this
      have HD := hide hd
      clear hd
      go_wp2_with (go_at_call 7; refine (HK.out _).mono ?_; rintro e w2 ⟨rfl, rfl⟩)
      go_meet
      case rel => exact ⟨by rw [HD.out]; rfl, ⟨rfl, rfl, rfl, Nat.le_refl _, fun _ _ => rfl⟩⟩
    | false =>
      have HK : Hid (∀ W : World, Calls Tryd.prog 7 #[.string h, .int .i64 ((h.size : Int) - 1)] W fun e w' => e = .returned (.bool false) ∧ w' = W) := fun W => by
        have := digitAt_any h ((h.size : Int) - 1) W HM1.out
        rw [hd] at this; exact this
      have HD := hide hd
      clear hd
      go_wp2_with fail
      refine (HK.out _).mono ?_
      rintro e w2 ⟨rfl, rfl⟩
      go_wp2_with fail
      refine (digitAt_any t 0 _ HM2.out).mono ?_
      rintro e w2 ⟨rfl, rfl⟩
      go_wp2_with fail
      go_meet
      case rel => exact ⟨by rw [HD.out]; rfl, ⟨rfl, rfl, rfl, Nat.le_refl _, fun _ _ => rfl⟩⟩
  case rest =>
    obtain ⟨rfl, b2⟩ := hcut
    go_upto_if 20 with fail
    go_cut [3, 4] (fun a b wx => ∃ H T : ByteArray, a = .string H ∧ b = .string T ∧ Hid (okH H ∧ okT T) ∧ H.size ≤ 140737488355328 ∧ T.size ≤ 140737488355328 ∧ Below w1.heap.size w1 wx)
    case first =>
      cases hd : (dAt h ((h.size : Int) - 1) || dAt t 0) with
      | true =>
        clear hd
        go_wp2
        go_meet
        case rel => exact ⟨⟨#[65]⟩, ⟨#[45, 66]⟩, rfl, rfl, ⟨Or.inr ⟨65, rfl, by decide⟩, Or.inr (by decide)⟩, by decide, by decide, b2⟩
      | false =>
        rw [Bool.or_eq_false_iff] at hd
        have HO : Hid (okH h ∧ okT t) := ⟨okH_of h hd.1, okT_of t hd.2⟩
        clear hd
        go_wp2
        go_meet
        case rel => exact ⟨h, t, rfl, rfl, HO, hh, ht, b2⟩
    case rest =>
      obtain ⟨H, T, rfl, rfl, HO, hH, hT, b3⟩ := hcut
      have HF3 := hide (HF1.out.on b3)
      have HB3 : Hid (Below w.heap.size w wc) := HB1.out.trans (b3.mono HB1.out.size)
      clear b2 b3 c0 c1 hh ht
      have k2 := cell_regrown HF3.out.c2
      have k3 := cell_regrown HF3.out.c3
      have k4 := cell_regrown HF3.out.c4
      have k5 := cell_regrown HF3.out.c5
      obtain ⟨A, HA⟩ : ∃ A, Hid (str (zn (m7 k) n) = A) := ⟨_, rfl⟩
      obtain ⟨B, HBB⟩ : ∃ B, Hid (str (zn (m7 l) m) = B) := ⟨_, rfl⟩
      have hA : A.size ≤ 30 := by rw [← HA.out]; exact zn_size _ _ hn (m7_bd k).2
      have hB : B.size ≤ 30 := by rw [← HBB.out]; exact zn_size _ _ hm (m7_bd l).2
      obtain ⟨c, HC⟩ : ∃ c, Hid (cmpF (H ++ A ++ T).data.toList (H ++ B ++ T).data.toList = c) := ⟨_, rfl⟩
      have cD1 : ∀ d os, Calls Tryd.prog 8 #[.int .u32 n, .int .i64 k] (Sort.grow (redrawn wc d) os) fun e w'' => e = .returned (.string A) ∧ ∃ p : Regrown, w'' = Sort.grow (redrawn wc p.d) p.os := fun d os => by
        have := decimal_zeros n k hn (Sort.grow (redrawn wc d) os)
        rw [HA.out] at this
        exact Calls.regrown_of this
      have cD2 : ∀ d os, Calls Tryd.prog 8 #[.int .u32 m, .int .i64 l] (Sort.grow (redrawn wc d) os) fun e w'' => e = .returned (.string B) ∧ ∃ p : Regrown, w'' = Sort.grow (redrawn wc p.d) p.os := fun d os => by
        have := decimal_zeros m l hm (Sort.grow (redrawn wc d) os)
        rw [HBB.out] at this
        exact Calls.regrown_of this
      have cC : ∀ d os, Calls Tryd.prog 6 #[.string (H ++ A ++ T), .string (H ++ B ++ T)] (Sort.grow (redrawn wc d) os) fun e w'' => e = .returned (.int .i64 c) ∧ ∃ p : Regrown, w'' = Sort.grow (redrawn wc p.d) p.os := fun d os => by
        have := compare_any (H ++ A ++ T) (H ++ B ++ T) (Sort.grow (redrawn wc d) os) (three_size H A T hH hA hT) (three_size H B T hH hB hT)
        rw [HC.out] at this
        exact Calls.regrown_of this
      have HV : Hid ((n < m → c = -1) ∧ (m < n → c = 1) ∧ (n = m → (c = 0 ↔ m7 k = m7 l))) := by
        have hbn := by_number H.data.toList T.data.toList (m7 k) (m7 l) n m HO.out.1 HO.out.2
        have e1 : (H ++ A ++ T).data.toList = H.data.toList ++ zn (m7 k) n ++ T.data.toList := by rw [three_list, ← HA.out, str_list]
        have e2 : (H ++ B ++ T).data.toList = H.data.toList ++ zn (m7 l) m ++ T.data.toList := by rw [three_list, ← HBB.out, str_list]
        have e3 := HC.out
        rw [e1, e2] at e3
        rw [e3] at hbn
        exact hbn
      have n1 : ¬ 9223372036854775807 < H.size + A.size := by omega
      have n2 : ¬ 9223372036854775807 < H.size + A.size + T.size := by omega
      have n3 : ¬ 9223372036854775807 < H.size + B.size := by omega
      have n4 : ¬ 9223372036854775807 < H.size + B.size + T.size := by omega
      go_wp2_with fail
      refine wp_region_quiet_below (by kernel_rfl) (by kernel_rfl) ?_
      repeat (quiet_step (first | (go_at_call_of 8 k; exact cD1 _ _) | (go_at_call_of 8 l; exact cD2 _ _) | (go_at_call 6; exact cC _ _)))
      refine wpQuiet_nil ?_
      intro _ hw'
      obtain ⟨⟨dq, osq⟩, hw''⟩ := hw'
      subst hw''
      have HBE : Hid (Below w.heap.size w (Sort.grow (redrawn wc dq) osq)) := HB3.out.trans ((below_regrown wc dq osq).mono HB3.out.size)
      have HFE := hide (HF3.out.on (below_regrown wc dq osq))
      obtain ⟨wz, HW⟩ : ∃ wz, Hid (Sort.grow (redrawn wc dq) osq = wz) := ⟨_, rfl⟩
      rw [HW.out] at HBE HFE ⊢
      clear n1 n2 n3 n4 cD1 cD2 cC k2 k3 k4 k5 HC HA HBB hA hB HF0 HF1 HF3 HB0 HB1 HB3 HW
      have f2 := HFE.out.c2
      have f3 := HFE.out.c3
      have f4 := HFE.out.c4
      have f5 := HFE.out.c5
      obtain ⟨hk7, -⟩ := m7_bd k
      obtain ⟨hl7, -⟩ := m7_bd l
      rcases Nat.lt_trichotomy n m with hnm | hnm | hnm
      · have hc := HV.out.1 hnm
        subst hc
        have hnm' : (n : Int) < (m : Int) := by omega
        clear HV
        go_wp2
        go_ret
        exact ⟨by first | rfl | simp, HBE.out⟩
      · subst hnm
        have HE := hide (HV.out.2.2 rfl)
        clear HV
        have hnn : ¬ (n : Int) < (n : Int) := by omega
        go_wp2
        go_ret
        exact ⟨ret_bool (eqv_bool HE.out), HBE.out⟩
      · have hc := HV.out.2.1 hnm
        subst hc
        have hnm' : (m : Int) < (n : Int) := by omega
        have hnm2 : ¬ (n : Int) < (m : Int) := by omega
        clear HV
        go_wp2
        go_ret
        exact ⟨by first | rfl | simp, HBE.out⟩
end Go.Proofs.YtiopdoeoonepmafDoor.N
