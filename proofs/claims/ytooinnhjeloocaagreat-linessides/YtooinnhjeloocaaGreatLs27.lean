/- LRSku -/
import Derived.Test.YtooinnhjeloocaaGreatLs26
namespace Go.Proofs.YtooinnhjeloocaaGreat.K
open Go.RowKit

set_option maxHeartbeats 800000 in
theorem refMark_any (c : UInt8) (w : World) : Calls Tryz.prog 116 #[.int .u8 (c.toNat : Int)] w fun e w' => e = .returned (.bool (mk c)) ∧ w' = w := by
  by_cases h : (c.toNat : Int) = 45
  · have h' : ((c.toNat : Int) == 45) = true := by simpa using h
    have HM : Hid (mk c = true) := by show _ = _; unfold mk; rw [h']; rfl
    clear h
    go_enter Tryz.func116, Tryz.ntmps116
    go_wp2
    go_ret
    exact ⟨ret_bool HM.out.symm, rfl⟩
  · have h' : ((c.toNat : Int) == 45) = false := by simpa using h
    have HM : Hid (((c.toNat : Int) == 46) = mk c) := by show _ = _; unfold mk; rw [h']; rfl
    clear h
    go_enter Tryz.func116, Tryz.ntmps116
    go_wp2
    go_ret
    exact ⟨ret_bool HM.out, rfl⟩
set_option maxHeartbeats 800000 in
theorem refLetter_any (c : UInt8) (w : World) : Calls Tryz.prog 114 #[.int .u8 (c.toNat : Int)] w fun e w' => e = .returned (.bool (lt c)) ∧ w' = w := by
  by_cases h : 65 ≤ (c.toNat : Int)
  · have HM : Hid (decide ((c.toNat : Int) ≤ 90) = lt c) := by show _ = _; unfold lt; rw [decide_eq_true h, Bool.true_and]
    go_enter Tryz.func114, Tryz.ntmps114
    go_wp2
    go_ret
    exact ⟨ret_bool HM.out, rfl⟩
  · have HM : Hid (false = lt c) := by show _ = _; unfold lt; rw [decide_eq_false h, Bool.false_and]
    go_enter Tryz.func114, Tryz.ntmps114
    go_wp2
    go_ret
    exact ⟨ret_bool HM.out, rfl⟩
set_option maxHeartbeats 800000 in
theorem refDigit_any (c : UInt8) (w : World) : Calls Tryz.prog 115 #[.int .u8 (c.toNat : Int)] w fun e w' => e = .returned (.bool (dig c)) ∧ w' = w := by
  by_cases h : 48 ≤ (c.toNat : Int)
  · have HM : Hid (decide ((c.toNat : Int) ≤ 57) = dig c) := by show _ = _; unfold dig; rw [decide_eq_true h, Bool.true_and]
    go_enter Tryz.func115, Tryz.ntmps115
    go_wp2
    go_ret
    exact ⟨ret_bool HM.out, rfl⟩
  · have HM : Hid (false = dig c) := by show _ = _; unfold dig; rw [decide_eq_false h, Bool.false_and]
    go_enter Tryz.func115, Tryz.ntmps115
    go_wp2
    go_ret
    exact ⟨ret_bool HM.out, rfl⟩
theorem mk_not (c : UInt8) (h : lt c || dig c = true) : mk c = false := by
  unfold mk; unfold lt dig at h
  generalize (c.toNat : Int) = x at h ⊢
  simp at h ⊢
  omega

set_option maxHeartbeats 1600000 in
theorem refStands_any (s : ByteArray) (i : Nat) (w : World) (hi : i < s.size) (hs : s.size ≤ 1000) : Calls Tryz.prog 109 #[.string s, .int .i64 i] w fun e w' => e = .returned (.bool (stand s.data.toList i)) ∧ w' = w := by
  cases hl : lt s[i] with
  | true =>
    have HLt := hide hl
    have HS : Hid (true = stand s.data.toList i) := by
      show _ = _
      unfold stand
      rw [getD_at s i hi, if_neg (by rw [mk_not _ (by rw [hl]; rfl)]; simp), hl]; rfl
    clear hl
    go_enter Tryz.func109, Tryz.ntmps109
    go_wp2_with (go_at_call 114; refine (refLetter_any s[i] _).mono ?_; rintro e w' ⟨rfl, rfl⟩; rw [HLt.out])
    go_ret
    exact ⟨ret_bool HS.out, rfl⟩
  | false =>
    have HLt := hide hl
    clear hl
    cases hd : dig s[i] with
    | true =>
      have HD := hide hd
      have HS : Hid (true = stand s.data.toList i) := by
        show _ = _
        unfold stand
        rw [getD_at s i hi, if_neg (by rw [mk_not _ (by rw [hd]; simp)]; simp), hd]; simp
      clear hd
      go_enter Tryz.func109, Tryz.ntmps109
      go_wp2_with (first | (go_at_call 114; refine (refLetter_any s[i] _).mono ?_; rintro e w' ⟨rfl, rfl⟩; rw [HLt.out]) | (go_at_call 115; refine (refDigit_any s[i] _).mono ?_; rintro e w' ⟨rfl, rfl⟩; rw [HD.out]))
      go_ret
      exact ⟨ret_bool HS.out, rfl⟩
    | false =>
      have HD := hide hd
      clear hd
      cases hm : mk s[i] with
      | false =>
        have HM := hide hm
        clear hm
        have HS : Hid (false = stand s.data.toList i) := by
          show _ = _
          unfold stand
          rw [getD_at s i hi, if_neg (by rw [HM.out]; simp), HLt.out, HD.out]; rfl
        go_enter Tryz.func109, Tryz.ntmps109
        go_wp2_with (first | (go_at_call 114; refine (refLetter_any s[i] _).mono ?_; rintro e w' ⟨rfl, rfl⟩; rw [HLt.out]) | (go_at_call 115; refine (refDigit_any s[i] _).mono ?_; rintro e w' ⟨rfl, rfl⟩; rw [HD.out]) | (go_at_call 116; refine (refMark_any s[i] _).mono ?_; rintro e w' ⟨rfl, rfl⟩; rw [HM.out]))
        go_ret
        exact ⟨ret_bool HS.out, rfl⟩
      | true =>
        have HM := hide hm
        clear hm
        by_cases h0 : i = 0
        · have HS : Hid (false = stand s.data.toList i) := by
            show _ = _
            unfold stand
            rw [getD_at s i hi, if_pos HM.out, decide_eq_false (by omega)]; rfl
          subst h0
          go_enter Tryz.func109, Tryz.ntmps109
          go_wp2_with (first | (go_at_call 114; refine (refLetter_any s[0] _).mono ?_; rintro e w' ⟨rfl, rfl⟩; rw [HLt.out]) | (go_at_call 115; refine (refDigit_any s[0] _).mono ?_; rintro e w' ⟨rfl, rfl⟩; rw [HD.out]) | (go_at_call 116; refine (refMark_any s[0] _).mono ?_; rintro e w' ⟨rfl, rfl⟩; rw [HM.out]))
          go_ret
          exact ⟨ret_bool HS.out, rfl⟩
        · have h0' : ((i : Int) == 0) = false := by simpa using h0
          by_cases h1 : i + 1 < s.size
          · have HS : Hid ((!mk (s[i - 1]'(by omega))) = stand s.data.toList i) := by
              show _ = _
              unfold stand
              rw [getD_at s i hi, getD_at s (i - 1) (by omega), len_at, if_pos HM.out, decide_eq_true (by omega), decide_eq_true h1]; rfl
            have hz : ((i : Int) - 1).toNat = i - 1 := by omega
            have h1' : ((i : Int) == (s.size : Int) - 1) = false := by simp; omega
            have hK := hide (refMark_any (s[i - 1]'(by omega)))
            obtain ⟨x, hx⟩ : ∃ x : Int, ((s[i - 1]'(by omega)).toNat : Int) = x := ⟨_, rfl⟩
            rw [hx] at hK
            have hi1 : 1 ≤ i := by omega
            clear h0
            go_enter Tryz.func109, Tryz.ntmps109
            go_wp2_with (first | (go_at_call 114; refine (refLetter_any s[i] _).mono ?_; rintro e w' ⟨rfl, rfl⟩; rw [HLt.out]) | (go_at_call 115; refine (refDigit_any s[i] _).mono ?_; rintro e w' ⟨rfl, rfl⟩; rw [HD.out]))
            refine (refMark_any s[i] _).mono ?_
            rintro e w' ⟨rfl, rfl⟩
            rw [HM.out]
            go_wp2_with fail
            refine (hK.out _).mono ?_
            rintro e w' ⟨rfl, rfl⟩
            go_wp2
            go_ret
            exact ⟨ret_bool HS.out, rfl⟩
          · have HS : Hid (false = stand s.data.toList i) := by
              show _ = _
              unfold stand
              rw [getD_at s i hi, len_at, if_pos HM.out, decide_eq_false h1]; simp
            have h1' : ((i : Int) == (s.size : Int) - 1) = true := by simp; omega
            clear h0
            go_enter Tryz.func109, Tryz.ntmps109
            go_wp2_with (first | (go_at_call 114; refine (refLetter_any s[i] _).mono ?_; rintro e w' ⟨rfl, rfl⟩; rw [HLt.out]) | (go_at_call 115; refine (refDigit_any s[i] _).mono ?_; rintro e w' ⟨rfl, rfl⟩; rw [HD.out]))
            refine (refMark_any s[i] _).mono ?_
            rintro e w' ⟨rfl, rfl⟩
            rw [HM.out]
            go_wp2
            go_ret
            exact ⟨ret_bool HS.out, rfl⟩

set_option maxHeartbeats 1600000 in
theorem refCheck_any (s : ByteArray) (w : World) (hs : s.size ≤ maxLen) : Calls Tryz.prog 92 #[.string s] w fun e w' => (∃ p : Int, e = .returned (.tuple #[.int .i64 p, .int .i64 (ckE s.data.toList)])) ∧ w' = w := by
  unfold maxLen at hs
  by_cases h0 : s.size = 0
  · have h0' : ((s.size : Int) == 0) = true := by simpa using h0
    have HE : Hid (ckE s.data.toList = 20) := by show _ = _; unfold ckE; rw [len_at, if_pos h0]
    go_enter Tryz.func92, Tryz.ntmps92
    go_wp2
    go_ret2
    exact ⟨⟨0, ret_two rfl HE.out.symm⟩, rfl⟩
  have h0' : ((s.size : Int) == 0) = false := by simpa using h0
  by_cases h24 : 24 < s.size
  · have HE : Hid (ckE s.data.toList = 21) := by show _ = _; unfold ckE; rw [len_at, if_neg h0, if_pos h24]
    have h24' : (24 : Int) < s.size := by omega
    clear h0
    go_enter Tryz.func92, Tryz.ntmps92
    go_wp2
    go_ret2
    exact ⟨⟨0, ret_two rfl HE.out.symm⟩, rfl⟩
  have h24' : ¬ (24 : Int) < s.size := by omega
  have HE : Hid (ckE s.data.toList = if stands s.data.toList s.size = true then 0 else 22) := by show _ = _; unfold ckE; rw [len_at, if_neg h0, if_neg h24]
  clear h0
  go_enter Tryz.func92, Tryz.ntmps92
  go_wp2
  go_loop [4] (fun i => ∃ k : Nat, k ≤ s.size ∧ i = .int .i64 k ∧ Hid (stands s.data.toList k = true)) (fun i => s.size - (intOf i).toNat)
  case atStart => exact ⟨0, Nat.zero_le _, rfl, rfl⟩
  case round =>
    obtain ⟨k, hk, rfl, HK⟩ := hrel
    by_cases hlt : k < s.size
    · cases hst : stand s.data.toList k with
      | true =>
        have HST := hide hst
        clear hst
        go_wp2_with (go_at_call 109; refine (refStands_any s k _ hlt (by omega)).mono ?_; rintro e w' ⟨rfl, rfl⟩; rw [HST.out])
        go_round
        case rel => exact ⟨k + 1, by omega, by go_num, by show _ = _; rw [stands_succ, HK.out, HST.out]; rfl⟩
        case measure => simp [intOf]; omega
      | false =>
        have HST := hide hst
        clear hst
        have HF : Hid (ckE s.data.toList = 22) := by show _ = _; rw [HE.out, stands_no _ k _ hlt HST.out]; rfl
        go_wp2_with (go_at_call 109; refine (refStands_any s k _ hlt (by omega)).mono ?_; rintro e w' ⟨rfl, rfl⟩; rw [HST.out])
        go_ret2
        exact ⟨⟨k, ret_two rfl HF.out.symm⟩, rfl⟩
    · obtain rfl : k = s.size := by omega
      have HF : Hid (ckE s.data.toList = 0) := by show _ = _; rw [HE.out, if_pos HK.out]
      go_wp2
      go_ret2
      exact ⟨⟨0, ret_two rfl HF.out.symm⟩, rfl⟩
set_option maxHeartbeats 800000 in
theorem refGood_any (s : ByteArray) (w : World) (hs : s.size ≤ maxLen) : Calls Tryz.prog 65 #[.string s] w fun e w' => e = .returned (.bool (good s.data.toList)) ∧ w' = w := by
  have HS := hide hs
  clear hs
  go_enter Tryz.func65, Tryz.ntmps65
  go_wp2_with (go_at_call 92; refine (refCheck_any s _ HS.out).mono ?_; rintro e w' ⟨⟨p, rfl⟩, rfl⟩)
  go_ret
  exact ⟨rfl, rfl⟩
end Go.Proofs.YtooinnhjeloocaaGreat.K
