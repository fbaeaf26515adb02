/- LBase LSku -/
import Derived.Test.YtooinnhjeloocaaGreatRows
import Derived.WalkKit
import Derived.WalkSpells
import Derived.Deep.QuietTactic
import Derived.BigQuiet
namespace Go.Proofs.YtooinnhjeloocaaGreat.K
open Go.RowKit

theorem hide {p : Prop} (h : p) : Hid p := h
def dig (c : UInt8) : Bool := decide (48 ≤ (c.toNat : Int)) && decide ((c.toNat : Int) ≤ 57)
theorem ret_bool {a b : Bool} (h : a = b) : Ending.returned (.bool a) = .returned (.bool b) := by rw [h]
theorem ret_int {k : IntKind} {a b : Int} (h : a = b) : Ending.returned (.int k a) = .returned (.int k b) := by rw [h]
theorem ret_two {a a' b b' : Int} (h : a = a') (h2 : b = b') : Ending.returned (.tuple #[.int .i64 a, .int .i64 b]) = .returned (.tuple #[.int .i64 a', .int .i64 b']) := by rw [h, h2]
theorem empty_yes (s : ByteArray) (h : s.size = 0) : s.toList.isEmpty = true := by
  rw [ByteArray.toList_eq, List.isEmpty_iff, ← List.length_eq_zero_iff]; simpa using h
theorem empty_no (s : ByteArray) (h : ¬ s.size = 0) : s.toList.isEmpty = false := by
  rw [ByteArray.toList_eq, List.isEmpty_eq_false_iff, ← List.length_pos_iff]; have : s.data.size = s.size := rfl; simp; omega
end Go.Proofs.YtooinnhjeloocaaGreat.K
namespace Go.Proofs.YtooinnhjeloocaaGreat.K
open Go.RowKit

def mk (c : UInt8) : Bool := ((c.toNat : Int) == 45) || ((c.toNat : Int) == 46)
def lt (c : UInt8) : Bool := decide (65 ≤ (c.toNat : Int)) && decide ((c.toNat : Int) ≤ 90)

set_option maxHeartbeats 800000 in
theorem isMark_any (c : UInt8) (w : World) : Calls Tryz.prog 94 #[.int .u8 (c.toNat : Int)] w fun e w' => e = .returned (.bool (mk c)) ∧ w' = w := by
  by_cases h : (c.toNat : Int) = 45
  · have h' : ((c.toNat : Int) == 45) = true := by simpa using h
    have HM : Hid (mk c = true) := by show _ = _; unfold mk; rw [h']; rfl
    clear h
    go_enter Tryz.func94, Tryz.ntmps94
    go_wp2
    go_ret
    exact ⟨ret_bool HM.out.symm, rfl⟩
  · have h' : ((c.toNat : Int) == 45) = false := by simpa using h
    have HM : Hid (((c.toNat : Int) == 46) = mk c) := by show _ = _; unfold mk; rw [h']; rfl
    clear h
    go_enter Tryz.func94, Tryz.ntmps94
    go_wp2
    go_ret
    exact ⟨ret_bool HM.out, rfl⟩
set_option maxHeartbeats 800000 in
theorem isLetter_any (c : UInt8) (w : World) : Calls Tryz.prog 95 #[.int .u8 (c.toNat : Int)] w fun e w' => e = .returned (.bool (lt c)) ∧ w' = w := by
  by_cases h : 65 ≤ (c.toNat : Int)
  · have HM : Hid (decide ((c.toNat : Int) ≤ 90) = lt c) := by show _ = _; unfold lt; rw [decide_eq_true h, Bool.true_and]
    go_enter Tryz.func95, Tryz.ntmps95
    go_wp2
    go_ret
    exact ⟨ret_bool HM.out, rfl⟩
  · have HM : Hid (false = lt c) := by show _ = _; unfold lt; rw [decide_eq_false h, Bool.false_and]
    go_enter Tryz.func95, Tryz.ntmps95
    go_wp2
    go_ret
    exact ⟨ret_bool HM.out, rfl⟩
set_option maxHeartbeats 800000 in
theorem isDigit_any (c : UInt8) (w : World) : Calls Tryz.prog 96 #[.int .u8 (c.toNat : Int)] w fun e w' => e = .returned (.bool (dig c)) ∧ w' = w := by
  by_cases h : 48 ≤ (c.toNat : Int)
  · have HM : Hid (decide ((c.toNat : Int) ≤ 57) = dig c) := by show _ = _; unfold dig; rw [decide_eq_true h, Bool.true_and]
    go_enter Tryz.func96, Tryz.ntmps96
    go_wp2
    go_ret
    exact ⟨ret_bool HM.out, rfl⟩
  · have HM : Hid (false = dig c) := by show _ = _; unfold dig; rw [decide_eq_false h, Bool.false_and]
    go_enter Tryz.func96, Tryz.ntmps96
    go_wp2
    go_ret
    exact ⟨ret_bool HM.out, rfl⟩

/-- may the byte at place i stand there? -/
def stand (l : List UInt8) (i : Nat) : Bool :=
  if mk (l.getD i 0) = true then (decide (0 < i) && decide (i + 1 < l.length)) && !mk (l.getD (i - 1) 0) else lt (l.getD i 0) || dig (l.getD i 0)
theorem getD_at (s : ByteArray) (i : Nat) (h : i < s.size) : s.data.toList.getD i 0 = s[i] := by
  rw [List.getD, List.getElem?_eq_getElem (by simpa using h)]; rfl
theorem len_at (s : ByteArray) : s.data.toList.length = s.size := by simp

set_option maxHeartbeats 1600000 in
theorem canStand_any (s : ByteArray) (i : Nat) (w : World) (hi : i < s.size) (hs : s.size ≤ 1000) : Calls Tryz.prog 70 #[.string s, .int .i64 i] w fun e w' => e = .returned (.bool (stand s.data.toList i)) ∧ w' = w := by
  cases hm : mk s[i] with
  | true =>
    have HM := hide hm
    clear hm
    by_cases h0 : 0 < i
    · by_cases h1 : i + 1 < s.size
      · have HS : Hid ((!mk (s[i - 1]'(by omega))) = stand s.data.toList i) := by
          show _ = _
          unfold stand
          rw [getD_at s i hi, getD_at s (i - 1) (by omega), len_at, if_pos HM.out, decide_eq_true h0, decide_eq_true h1]; rfl
        have hz : ((i : Int) - 1).toNat = i - 1 := by omega
        have h1' : (i : Int) < (s.size : Int) - 1 := by omega
        have hK := hide (isMark_any (s[i - 1]'(by omega)))
        obtain ⟨x, hx⟩ : ∃ x : Int, ((s[i - 1]'(by omega)).toNat : Int) = x := ⟨_, rfl⟩
        rw [hx] at hK
        go_enter Tryz.func70, Tryz.ntmps70
        go_wp2_with fail
        refine (isMark_any s[i] _).mono ?_
        rintro e w' ⟨rfl, rfl⟩
        rw [HM.out]
        go_wp2_with fail
        refine (hK.out _).mono ?_
        rintro e w' ⟨rfl, rfl⟩
        go_wp2
        go_ret
        exact ⟨ret_bool HS.out, rfl⟩
      · have HS : Hid (false = stand s.data.toList i) := by
          show _ = _
          unfold stand
          rw [getD_at s i hi, len_at, if_pos HM.out, decide_eq_true h0, decide_eq_false h1]; rfl
        have h1' : ¬ (i : Int) < (s.size : Int) - 1 := by omega
        go_enter Tryz.func70, Tryz.ntmps70
        go_wp2_with fail
        refine (isMark_any s[i] _).mono ?_
        rintro e w' ⟨rfl, rfl⟩
        rw [HM.out]
        go_wp2
        go_ret
        exact ⟨ret_bool HS.out, rfl⟩
    · have HS : Hid (false = stand s.data.toList i) := by
        show _ = _
        unfold stand
        rw [getD_at s i hi, len_at, if_pos HM.out, decide_eq_false h0]; rfl
      obtain rfl : i = 0 := by omega
      go_enter Tryz.func70, Tryz.ntmps70
      go_wp2_with fail
      refine (isMark_any s[0] _).mono ?_
      rintro e w' ⟨rfl, rfl⟩
      rw [HM.out]
      go_wp2
      go_ret
      exact ⟨ret_bool HS.out, rfl⟩
  | false =>
    have HM := hide hm
    clear hm
    cases hl : lt s[i] with
    | true =>
      have HLt := hide hl
      clear hl
      have HS : Hid (true = stand s.data.toList i) := by
        show _ = _
        unfold stand
        rw [getD_at s i hi, if_neg (by rw [HM.out]; simp), HLt.out]; rfl
      go_enter Tryz.func70, Tryz.ntmps70
      go_wp2_with (first | (go_at_call 94; refine (isMark_any s[i] _).mono ?_; rintro e w' ⟨rfl, rfl⟩; rw [HM.out]) | (go_at_call 95; refine (isLetter_any s[i] _).mono ?_; rintro e w' ⟨rfl, rfl⟩; rw [HLt.out]))
      go_ret
      exact ⟨ret_bool HS.out, rfl⟩
    | false =>
      have HLt := hide hl
      clear hl
      have HS : Hid (dig s[i] = stand s.data.toList i) := by
        show _ = _
        unfold stand
        rw [getD_at s i hi, if_neg (by rw [HM.out]; simp), HLt.out]; rfl
      go_enter Tryz.func70, Tryz.ntmps70
      go_wp2_with (first | (go_at_call 94; refine (isMark_any s[i] _).mono ?_; rintro e w' ⟨rfl, rfl⟩; rw [HM.out]) | (go_at_call 95; refine (isLetter_any s[i] _).mono ?_; rintro e w' ⟨rfl, rfl⟩; rw [HLt.out]) | (go_at_call 96; refine (isDigit_any s[i] _).mono ?_; rintro e w' ⟨rfl, rfl⟩))
      go_ret
      exact ⟨ret_bool HS.out, rfl⟩

/-- do the first k bytes stand? -/
def stands (l : List UInt8) (k : Nat) : Bool := (List.range k).all (stand l)
/-- Check's error -/
def ckE (l : List UInt8) : Int := if l.length = 0 then 20 else if 24 < l.length then 21 else if stands l l.length = true then 0 else 22
theorem stands_succ (l : List UInt8) (k : Nat) : stands l (k + 1) = (stands l k && stand l k) := by
  unfold stands; rw [List.range_succ, List.all_append]; simp
theorem stands_no (l : List UInt8) (k n : Nat) (h : k < n) (hs : stand l k = false) : stands l n = false := by
  unfold stands; rw [List.all_eq_false]; exact ⟨k, by simpa using h, by rw [hs]; simp⟩

set_option maxHeartbeats 1600000 in
theorem check_any (s : ByteArray) (w : World) (hs : s.size ≤ maxLen) : Calls Tryz.prog 58 #[.string s] w fun e w' => (∃ p : Int, e = .returned (.tuple #[.int .i64 p, .int .i64 (ckE s.data.toList)])) ∧ w' = w := by
  unfold maxLen at hs
  by_cases h0 : s.size = 0
  · have he := empty_yes s h0
    have HE : Hid (ckE s.data.toList = 20) := by show _ = _; unfold ckE; rw [len_at, if_pos h0]
    go_enter Tryz.func58, Tryz.ntmps58
    go_wp2
    go_ret2
    exact ⟨⟨0, ret_two rfl HE.out.symm⟩, rfl⟩
  have he := empty_no s h0
  by_cases h24 : 24 < s.size
  · have HE : Hid (ckE s.data.toList = 21) := by show _ = _; unfold ckE; rw [len_at, if_neg h0, if_pos h24]
    have h24' : (24 : Int) < s.size := by omega
    go_enter Tryz.func58, Tryz.ntmps58
    go_wp2
    go_ret2
    exact ⟨⟨0, ret_two rfl HE.out.symm⟩, rfl⟩
  have h24' : ¬ (24 : Int) < s.size := by omega
  have HE : Hid (ckE s.data.toList = if stands s.data.toList s.size = true then 0 else 22) := by show _ = _; unfold ckE; rw [len_at, if_neg h0, if_neg h24]
  go_enter Tryz.func58, Tryz.ntmps58
  go_wp2
  go_loop [12] (fun i => ∃ k : Nat, k ≤ s.size ∧ i = .int .i64 k ∧ Hid (stands s.data.toList k = true)) (fun i => s.size - (intOf i).toNat)
  case atStart => exact ⟨0, Nat.zero_le _, rfl, rfl⟩
  case round =>
    obtain ⟨k, hk, rfl, HK⟩ := hrel
    by_cases hlt : k < s.size
    · cases hst : stand s.data.toList k with
      | true =>
        have HST := hide hst
        clear hst
        go_wp2_with (go_at_call 70; refine (canStand_any s k _ hlt (by omega)).mono ?_; rintro e w' ⟨rfl, rfl⟩; rw [HST.out])
        go_round
        case rel => exact ⟨k + 1, by omega, by go_num, by show _ = _; rw [stands_succ, HK.out, HST.out]; rfl⟩
        case measure => simp [intOf]; omega
      | false =>
        have HST := hide hst
        clear hst
        have HF : Hid (ckE s.data.toList = 22) := by show _ = _; rw [HE.out, stands_no _ k _ hlt HST.out]; rfl
        go_wp2_with (go_at_call 70; refine (canStand_any s k _ hlt (by omega)).mono ?_; rintro e w' ⟨rfl, rfl⟩; rw [HST.out])
        go_ret2
        exact ⟨⟨k, ret_two rfl HF.out.symm⟩, rfl⟩
    · obtain rfl : k = s.size := by omega
      have HF : Hid (ckE s.data.toList = 0) := by show _ = _; rw [HE.out, if_pos HK.out]
      go_wp2
      go_ret2
      exact ⟨⟨0, ret_two rfl HF.out.symm⟩, rfl⟩

def good (l : List UInt8) : Bool := ckE l == 0
set_option maxHeartbeats 800000 in
theorem good_any (s : ByteArray) (w : World) (hs : s.size ≤ maxLen) : Calls Tryz.prog 34 #[.string s] w fun e w' => e = .returned (.bool (good s.data.toList)) ∧ w' = w := by
  have HS := hide hs
  clear hs
  go_enter Tryz.func34, Tryz.ntmps34
  go_wp2_with (go_at_call 58; refine (check_any s _ HS.out).mono ?_; rintro e w' ⟨⟨p, rfl⟩, rfl⟩)
  go_ret
  exact ⟨rfl, rfl⟩
end Go.Proofs.YtooinnhjeloocaaGreat.K
