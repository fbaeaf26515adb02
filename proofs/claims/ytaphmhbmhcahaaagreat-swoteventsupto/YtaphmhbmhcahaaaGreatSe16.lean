/- LSku LRSku LEnt -/
import Derived.Test.YtaphmhbmhcahaaaGreatSe15
set_option maxHeartbeats 1600000
namespace Go.Proofs.YtaphmhbmhcahaaaGreat.K
section
open Go.RowKit

def mk (c : UInt8) : Bool := ((c.toNat : Int) == 45) || ((c.toNat : Int) == 46)
def lt (c : UInt8) : Bool := decide (65 <= (c.toNat : Int)) && decide ((c.toNat : Int) <= 90)

theorem isMark_any (c : UInt8) (w : World) : Calls Tryz.prog 241 #[.int .u8 (c.toNat : Int)] w fun e w' => e = .returned (.bool (mk c)) /\ w' = w := by
 by_cases h : (c.toNat : Int) = 45
 ·have h' : ((c.toNat : Int) == 45) = true := by simpa using h
  have HM : Hid (mk c = true) := by show _ = _; unfold mk; rw [h']; rfl
  clear h
  go_enter Tryz.func241, Tryz.ntmps241
  go_wp2
  go_ret
  exact ⟨ret_bool HM.out.symm, rfl⟩
 ·have h' : ((c.toNat : Int) == 45) = false := by simpa using h
  have HM : Hid (((c.toNat : Int) == 46) = mk c) := by show _ = _; unfold mk; rw [h']; rfl
  clear h
  go_enter Tryz.func241, Tryz.ntmps241
  go_wp2
  go_ret
  exact ⟨ret_bool HM.out, rfl⟩
theorem isLetter_any (c : UInt8) (w : World) : Calls Tryz.prog 242 #[.int .u8 (c.toNat : Int)] w fun e w' => e = .returned (.bool (lt c)) /\ w' = w := by
 by_cases h : 65 <= (c.toNat : Int)
 ·have HM : Hid (decide ((c.toNat : Int) <= 90) = lt c) := by show _ = _; unfold lt; rw [decide_eq_true h, Bool.true_and]
  go_enter Tryz.func242, Tryz.ntmps242
  go_wp2
  go_ret
  exact ⟨ret_bool HM.out, rfl⟩
 ·have HM : Hid (false = lt c) := by show _ = _; unfold lt; rw [decide_eq_false h, Bool.false_and]
  go_enter Tryz.func242, Tryz.ntmps242
  go_wp2
  go_ret
  exact ⟨ret_bool HM.out, rfl⟩
theorem isDigit_any (c : UInt8) (w : World) : Calls Tryz.prog 243 #[.int .u8 (c.toNat : Int)] w fun e w' => e = .returned (.bool (dig c)) /\ w' = w := by
 by_cases h : 48 <= (c.toNat : Int)
 ·have HM : Hid (decide ((c.toNat : Int) <= 57) = dig c) := by show _ = _; unfold dig; rw [decide_eq_true h, Bool.true_and]
  go_enter Tryz.func243, Tryz.ntmps243
  go_wp2
  go_ret
  exact ⟨ret_bool HM.out, rfl⟩
 ·have HM : Hid (false = dig c) := by show _ = _; unfold dig; rw [decide_eq_false h, Bool.false_and]
  go_enter Tryz.func243, Tryz.ntmps243
  go_wp2
  go_ret
  exact ⟨ret_bool HM.out, rfl⟩

def stand (l : List UInt8) (i : Nat) : Bool :=
 if mk (l.getD i 0) = true then (decide (0 < i) && decide (i + 1 < l.length)) && !mk (l.getD (i - 1) 0) else lt (l.getD i 0) || dig (l.getD i 0)
theorem getD_at (s : ByteArray) (i : Nat) (h : i < s.size) : s.data.toList.getD i 0 = s[i] := by
 rw [List.getD, List.getElem?_eq_getElem (by simpa using h)]; rfl
theorem len_at (s : ByteArray) : s.data.toList.length = s.size := by simp

theorem canStand_any (s : ByteArray) (i : Nat) (w : World) (hi : i < s.size) (hs : s.size <= 1000) : Calls Tryz.prog 211 #[.string s, .int .i64 i] w fun e w' => e = .returned (.bool (stand s.data.toList i)) /\ w' = w := by
 cases hm : mk s[i] with
 | true =>
  have HM := hide hm
  clear hm
  by_cases h0 : 0 < i
  ·by_cases h1 : i + 1 < s.size
   ·have HS : Hid ((!mk (s[i - 1]'(by omega))) = stand s.data.toList i) := by
     show _ = _
     unfold stand
     rw [getD_at s i hi, getD_at s (i - 1) (by omega), len_at, if_pos HM.out, decide_eq_true h0, decide_eq_true h1]; rfl
    have hz : ((i : Int) - 1).toNat = i - 1 := by omega
    have h1' : (i : Int) < (s.size : Int) - 1 := by omega
    have hK := hide (isMark_any (s[i - 1]'(by omega)))
    obtain ⟨x, hx⟩ : ∃ x : Int, ((s[i - 1]'(by omega)).toNat : Int) = x := ⟨_, rfl⟩
    rw [hx] at hK
    go_enter Tryz.func211, Tryz.ntmps211
    go_wp2_with fail
    refine (isMark_any s[i] _).mono ?_
    rintro e w' ⟨rfl, rfl⟩
    rw [HM.out]
    go_wp2_with fail
    refine (hK.out _).mono ?_
    rintro e w' ⟨rfl, rfl⟩
    go_wp2
    go_ret
    exact ⟨ret_bool HS.out, rfl⟩
   ·have HS : Hid (false = stand s.data.toList i) := by
     show _ = _
     unfold stand
     rw [getD_at s i hi, len_at, if_pos HM.out, decide_eq_true h0, decide_eq_false h1]; rfl
    have h1' : ¬ (i : Int) < (s.size : Int) - 1 := by omega
    go_enter Tryz.func211, Tryz.ntmps211
    go_wp2_with fail
    refine (isMark_any s[i] _).mono ?_
    rintro e w' ⟨rfl, rfl⟩
    rw [HM.out]
    go_wp2
    go_ret
    exact ⟨ret_bool HS.out, rfl⟩
  ·have HS : Hid (false = stand s.data.toList i) := by
    show _ = _
    unfold stand
    rw [getD_at s i hi, len_at, if_pos HM.out, decide_eq_false h0]; rfl
   obtain rfl : i = 0 := by omega
   go_enter Tryz.func211, Tryz.ntmps211
   go_wp2_with fail
   refine (isMark_any s[0] _).mono ?_
   rintro e w' ⟨rfl, rfl⟩
   rw [HM.out]
   go_wp2
   go_ret
   exact ⟨ret_bool HS.out, rfl⟩
 | false =>
  have HM := hide hm
  clear hm
  cases hl : lt s[i] with
  | true =>
   have HLt := hide hl
   clear hl
   have HS : Hid (true = stand s.data.toList i) := by
    show _ = _
    unfold stand
    rw [getD_at s i hi, if_neg (by rw [HM.out]; simp), HLt.out]; rfl
   go_enter Tryz.func211, Tryz.ntmps211
   go_wp2_with (first | (go_at_call 241; refine (isMark_any s[i] _).mono ?_; rintro e w' ⟨rfl, rfl⟩; rw [HM.out]) | (go_at_call 242; refine (isLetter_any s[i] _).mono ?_; rintro e w' ⟨rfl, rfl⟩; rw [HLt.out]))
   go_ret
   exact ⟨ret_bool HS.out, rfl⟩
  | false =>
   have HLt := hide hl
   clear hl
   have HS : Hid (dig s[i] = stand s.data.toList i) := by
    show _ = _
    unfold stand
    rw [getD_at s i hi, if_neg (by rw [HM.out]; simp), HLt.out]; rfl
   go_enter Tryz.func211, Tryz.ntmps211
   go_wp2_with (first | (go_at_call 241; refine (isMark_any s[i] _).mono ?_; rintro e w' ⟨rfl, rfl⟩; rw [HM.out]) | (go_at_call 242; refine (isLetter_any s[i] _).mono ?_; rintro e w' ⟨rfl, rfl⟩; rw [HLt.out]) | (go_at_call 243; refine (isDigit_any s[i] _).mono ?_; rintro e w' ⟨rfl, rfl⟩))
   go_ret
   exact ⟨ret_bool HS.out, rfl⟩

def stands (l : List UInt8) (k : Nat) : Bool := (List.range k).all (stand l)
def ckE (l : List UInt8) : Int := if l.length = 0 then 20 else if 24 < l.length then 21 else if stands l l.length = true then 0 else 22
theorem stands_succ (l : List UInt8) (k : Nat) : stands l (k + 1) = (stands l k && stand l k) := by
 unfold stands; rw [List.range_succ, List.all_append]; simp
theorem stands_no (l : List UInt8) (k n : Nat) (h : k < n) (hs : stand l k = false) : stands l n = false := by
 unfold stands; rw [List.all_eq_false]; exact ⟨k, by simpa using h, by rw [hs]; simp⟩

theorem check_any (s : ByteArray) (w : World) (hs : s.size <= maxLen) : Calls Tryz.prog 185 #[.string s] w fun e w' => (∃ p : Int, e = .returned (.tuple #[.int .i64 p, .int .i64 (ckE s.data.toList)])) /\ w' = w := by
 unfold maxLen at hs
 by_cases h0 : s.size = 0
 ·have he := empty_yes s h0
  have HE : Hid (ckE s.data.toList = 20) := by show _ = _; unfold ckE; rw [len_at, if_pos h0]
  go_enter Tryz.func185, Tryz.ntmps185
  go_wp2
  go_ret2
  exact ⟨⟨0, ret_two rfl HE.out.symm⟩, rfl⟩
 have he := empty_no s h0
 by_cases h24 : 24 < s.size
 ·have HE : Hid (ckE s.data.toList = 21) := by show _ = _; unfold ckE; rw [len_at, if_neg h0, if_pos h24]
  have h24' : (24 : Int) < s.size := by omega
  go_enter Tryz.func185, Tryz.ntmps185
  go_wp2
  go_ret2
  exact ⟨⟨0, ret_two rfl HE.out.symm⟩, rfl⟩
 have h24' : ¬ (24 : Int) < s.size := by omega
 have HE : Hid (ckE s.data.toList = if stands s.data.toList s.size = true then 0 else 22) := by show _ = _; unfold ckE; rw [len_at, if_neg h0, if_neg h24]
 go_enter Tryz.func185, Tryz.ntmps185
 go_wp2
 go_loop [12] (fun i => ∃ k : Nat, k <= s.size /\ i = .int .i64 k /\ Hid (stands s.data.toList k = true)) (fun i => s.size - (intOf i).toNat)
 case atStart => exact ⟨0, Nat.zero_le _, rfl, rfl⟩
 case round =>
  obtain ⟨k, hk, rfl, HK⟩ := hrel
  by_cases hlt : k < s.size
  ·cases hst : stand s.data.toList k with
   | true =>
    have HST := hide hst
    clear hst
    go_wp2_with (go_at_call 211; refine (canStand_any s k _ hlt (by omega)).mono ?_; rintro e w' ⟨rfl, rfl⟩; rw [HST.out])
    go_round
    case rel => exact ⟨k + 1, by omega, by go_num, by show _ = _; rw [stands_succ, HK.out, HST.out]; rfl⟩
    case measure => simp [intOf]; omega
   | false =>
    have HST := hide hst
    clear hst
    have HF : Hid (ckE s.data.toList = 22) := by show _ = _; rw [HE.out, stands_no _ k _ hlt HST.out]; rfl
    go_wp2_with (go_at_call 211; refine (canStand_any s k _ hlt (by omega)).mono ?_; rintro e w' ⟨rfl, rfl⟩; rw [HST.out])
    go_ret2
    exact ⟨⟨k, ret_two rfl HF.out.symm⟩, rfl⟩
  ·obtain rfl : k = s.size := by omega
   have HF : Hid (ckE s.data.toList = 0) := by show _ = _; rw [HE.out, if_pos HK.out]
   go_wp2
   go_ret2
   exact ⟨⟨0, ret_two rfl HF.out.symm⟩, rfl⟩

def good (l : List UInt8) : Bool := ckE l == 0
theorem good_any (s : ByteArray) (w : World) (hs : s.size <= maxLen) : Calls Tryz.prog 161 #[.string s] w fun e w' => e = .returned (.bool (good s.data.toList)) /\ w' = w := by
 have HS := hide hs
 clear hs
 go_enter Tryz.func161, Tryz.ntmps161
 go_wp2_with (go_at_call 185; refine (check_any s _ HS.out).mono ?_; rintro e w' ⟨⟨p, rfl⟩, rfl⟩)
 go_ret
 exact ⟨rfl, rfl⟩
end
section
open Go.RowKit

theorem refMark_any (c : UInt8) (w : World) : Calls Tryz.prog 229 #[.int .u8 (c.toNat : Int)] w fun e w' => e = .returned (.bool (mk c)) /\ w' = w := by
 by_cases h : (c.toNat : Int) = 45
 ·have h' : ((c.toNat : Int) == 45) = true := by simpa using h
  have HM : Hid (mk c = true) := by show _ = _; unfold mk; rw [h']; rfl
  clear h
  go_enter Tryz.func229, Tryz.ntmps229
  go_wp2
  go_ret
  exact ⟨ret_bool HM.out.symm, rfl⟩
 ·have h' : ((c.toNat : Int) == 45) = false := by simpa using h
  have HM : Hid (((c.toNat : Int) == 46) = mk c) := by show _ = _; unfold mk; rw [h']; rfl
  clear h
  go_enter Tryz.func229, Tryz.ntmps229
  go_wp2
  go_ret
  exact ⟨ret_bool HM.out, rfl⟩
theorem refLetter_any (c : UInt8) (w : World) : Calls Tryz.prog 227 #[.int .u8 (c.toNat : Int)] w fun e w' => e = .returned (.bool (lt c)) /\ w' = w := by
 by_cases h : 65 <= (c.toNat : Int)
 ·have HM : Hid (decide ((c.toNat : Int) <= 90) = lt c) := by show _ = _; unfold lt; rw [decide_eq_true h, Bool.true_and]
  go_enter Tryz.func227, Tryz.ntmps227
  go_wp2
  go_ret
  exact ⟨ret_bool HM.out, rfl⟩
 ·have HM : Hid (false = lt c) := by show _ = _; unfold lt; rw [decide_eq_false h, Bool.false_and]
  go_enter Tryz.func227, Tryz.ntmps227
  go_wp2
  go_ret
  exact ⟨ret_bool HM.out, rfl⟩
theorem refDigit_any (c : UInt8) (w : World) : Calls Tryz.prog 228 #[.int .u8 (c.toNat : Int)] w fun e w' => e = .returned (.bool (dig c)) /\ w' = w := by
 by_cases h : 48 <= (c.toNat : Int)
 ·have HM : Hid (decide ((c.toNat : Int) <= 57) = dig c) := by show _ = _; unfold dig; rw [decide_eq_true h, Bool.true_and]
  go_enter Tryz.func228, Tryz.ntmps228
  go_wp2
  go_ret
  exact ⟨ret_bool HM.out, rfl⟩
 ·have HM : Hid (false = dig c) := by show _ = _; unfold dig; rw [decide_eq_false h, Bool.false_and]
  go_enter Tryz.func228, Tryz.ntmps228
  go_wp2
  go_ret
  exact ⟨ret_bool HM.out, rfl⟩
theorem mk_not (c : UInt8) (h : lt c || dig c = true) : mk c = false := by
 unfold mk; unfold lt dig at h
 generalize (c.toNat : Int) = x at h ⊢
 simp at h ⊢
 omega

theorem refStands_any (s : ByteArray) (i : Nat) (w : World) (hi : i < s.size) (hs : s.size <= 1000) : Calls Tryz.prog 200 #[.string s, .int .i64 i] w fun e w' => e = .returned (.bool (stand s.data.toList i)) /\ w' = w := by
 cases hl : lt s[i] with
 | true =>
  have HLt := hide hl
  have HS : Hid (true = stand s.data.toList i) := by
   show _ = _
   unfold stand
   rw [getD_at s i hi, if_neg (by rw [mk_not _ (by rw [hl]; rfl)]; simp), hl]; rfl
  clear hl
  go_enter Tryz.func200, Tryz.ntmps200
  go_wp2_with (go_at_call 227; refine (refLetter_any s[i] _).mono ?_; rintro e w' ⟨rfl, rfl⟩; rw [HLt.out])
  go_ret
  exact ⟨ret_bool HS.out, rfl⟩
 | false =>
  have HLt := hide hl
  clear hl
  cases hd : dig s[i] with
  | true =>
   have HD := hide hd
   have HS : Hid (true = stand s.data.toList i) := by
    show _ = _
    unfold stand
    rw [getD_at s i hi, if_neg (by rw [mk_not _ (by rw [hd]; simp)]; simp), hd]; simp
   clear hd
   go_enter Tryz.func200, Tryz.ntmps200
   go_wp2_with (first | (go_at_call 227; refine (refLetter_any s[i] _).mono ?_; rintro e w' ⟨rfl, rfl⟩; rw [HLt.out]) | (go_at_call 228; refine (refDigit_any s[i] _).mono ?_; rintro e w' ⟨rfl, rfl⟩; rw [HD.out]))
   go_ret
   exact ⟨ret_bool HS.out, rfl⟩
  | false =>
   have HD := hide hd
   clear hd
   cases hm : mk s[i] with
   | false =>
    have HM := hide hm
    clear hm
    have HS : Hid (false = stand s.data.toList i) := by
     show _ = _
     unfold stand
     rw [getD_at s i hi, if_neg (by rw [HM.out]; simp), HLt.out, HD.out]; rfl
    go_enter Tryz.func200, Tryz.ntmps200
    go_wp2_with (first | (go_at_call 227; refine (refLetter_any s[i] _).mono ?_; rintro e w' ⟨rfl, rfl⟩; rw [HLt.out]) | (go_at_call 228; refine (refDigit_any s[i] _).mono ?_; rintro e w' ⟨rfl, rfl⟩; rw [HD.out]) | (go_at_call 229; refine (refMark_any s[i] _).mono ?_; rintro e w' ⟨rfl, rfl⟩; rw [HM.out]))
    go_ret
    exact ⟨ret_bool HS.out, rfl⟩
   | true =>
    have HM := hide hm
    clear hm
    by_cases h0 : i = 0
    ·have HS : Hid (false = stand s.data.toList i) := by
      show _ = _
      unfold stand
      rw [getD_at s i hi, if_pos HM.out, decide_eq_false (by omega)]; rfl
     subst h0
     go_enter Tryz.func200, Tryz.ntmps200
     go_wp2_with (first | (go_at_call 227; refine (refLetter_any s[0] _).mono ?_; rintro e w' ⟨rfl, rfl⟩; rw [HLt.out]) | (go_at_call 228; refine (refDigit_any s[0] _).mono ?_; rintro e w' ⟨rfl, rfl⟩; rw [HD.out]) | (go_at_call 229; refine (refMark_any s[0] _).mono ?_; rintro e w' ⟨rfl, rfl⟩; rw [HM.out]))
     go_ret
     exact ⟨ret_bool HS.out, rfl⟩
    ·have h0' : ((i : Int) == 0) = false := by simpa using h0
     by_cases h1 : i + 1 < s.size
     ·have HS : Hid ((!mk (s[i - 1]'(by omega))) = stand s.data.toList i) := by
       show _ = _
       unfold stand
       rw [getD_at s i hi, getD_at s (i - 1) (by omega), len_at, if_pos HM.out, decide_eq_true (by omega), decide_eq_true h1]; rfl
      have hz : ((i : Int) - 1).toNat = i - 1 := by omega
      have h1' : ((i : Int) == (s.size : Int) - 1) = false := by simp; omega
      have hK := hide (refMark_any (s[i - 1]'(by omega)))
      obtain ⟨x, hx⟩ : ∃ x : Int, ((s[i - 1]'(by omega)).toNat : Int) = x := ⟨_, rfl⟩
      rw [hx] at hK
      have hi1 : 1 <= i := by omega
      clear h0
      go_enter Tryz.func200, Tryz.ntmps200
      go_wp2_with (first | (go_at_call 227; refine (refLetter_any s[i] _).mono ?_; rintro e w' ⟨rfl, rfl⟩; rw [HLt.out]) | (go_at_call 228; refine (refDigit_any s[i] _).mono ?_; rintro e w' ⟨rfl, rfl⟩; rw [HD.out]))
      refine (refMark_any s[i] _).mono ?_
      rintro e w' ⟨rfl, rfl⟩
      rw [HM.out]
      go_wp2_with fail
      refine (hK.out _).mono ?_
      rintro e w' ⟨rfl, rfl⟩
      go_wp2
      go_ret
      exact ⟨ret_bool HS.out, rfl⟩
     ·have HS : Hid (false = stand s.data.toList i) := by
       show _ = _
       unfold stand
       rw [getD_at s i hi, len_at, if_pos HM.out, decide_eq_false h1]; simp
      have h1' : ((i : Int) == (s.size : Int) - 1) = true := by simp; omega
      clear h0
      go_enter Tryz.func200, Tryz.ntmps200
      go_wp2_with (first | (go_at_call 227; refine (refLetter_any s[i] _).mono ?_; rintro e w' ⟨rfl, rfl⟩; rw [HLt.out]) | (go_at_call 228; refine (refDigit_any s[i] _).mono ?_; rintro e w' ⟨rfl, rfl⟩; rw [HD.out]))
      refine (refMark_any s[i] _).mono ?_
      rintro e w' ⟨rfl, rfl⟩
      rw [HM.out]
      go_wp2
      go_ret
      exact ⟨ret_bool HS.out, rfl⟩

theorem refCheck_any (s : ByteArray) (w : World) (hs : s.size <= maxLen) : Calls Tryz.prog 175 #[.string s] w fun e w' => (∃ p : Int, e = .returned (.tuple #[.int .i64 p, .int .i64 (ckE s.data.toList)])) /\ w' = w := by
 unfold maxLen at hs
 by_cases h0 : s.size = 0
 ·have h0' : ((s.size : Int) == 0) = true := by simpa using h0
  have HE : Hid (ckE s.data.toList = 20) := by show _ = _; unfold ckE; rw [len_at, if_pos h0]
  go_enter Tryz.func175, Tryz.ntmps175
  go_wp2
  go_ret2
  exact ⟨⟨0, ret_two rfl HE.out.symm⟩, rfl⟩
 have h0' : ((s.size : Int) == 0) = false := by simpa using h0
 by_cases h24 : 24 < s.size
 ·have HE : Hid (ckE s.data.toList = 21) := by show _ = _; unfold ckE; rw [len_at, if_neg h0, if_pos h24]
  have h24' : (24 : Int) < s.size := by omega
  clear h0
  go_enter Tryz.func175, Tryz.ntmps175
  go_wp2
  go_ret2
  exact ⟨⟨0, ret_two rfl HE.out.symm⟩, rfl⟩
 have h24' : ¬ (24 : Int) < s.size := by omega
 have HE : Hid (ckE s.data.toList = if stands s.data.toList s.size = true then 0 else 22) := by show _ = _; unfold ckE; rw [len_at, if_neg h0, if_neg h24]
 clear h0
 go_enter Tryz.func175, Tryz.ntmps175
 go_wp2
 go_loop [4] (fun i => ∃ k : Nat, k <= s.size /\ i = .int .i64 k /\ Hid (stands s.data.toList k = true)) (fun i => s.size - (intOf i).toNat)
 case atStart => exact ⟨0, Nat.zero_le _, rfl, rfl⟩
 case round =>
  obtain ⟨k, hk, rfl, HK⟩ := hrel
  by_cases hlt : k < s.size
  ·cases hst : stand s.data.toList k with
   | true =>
    have HST := hide hst
    clear hst
    go_wp2_with (go_at_call 200; refine (refStands_any s k _ hlt (by omega)).mono ?_; rintro e w' ⟨rfl, rfl⟩; rw [HST.out])
    go_round
    case rel => exact ⟨k + 1, by omega, by go_num, by show _ = _; rw [stands_succ, HK.out, HST.out]; rfl⟩
    case measure => simp [intOf]; omega
   | false =>
    have HST := hide hst
    clear hst
    have HF : Hid (ckE s.data.toList = 22) := by show _ = _; rw [HE.out, stands_no _ k _ hlt HST.out]; rfl
    go_wp2_with (go_at_call 200; refine (refStands_any s k _ hlt (by omega)).mono ?_; rintro e w' ⟨rfl, rfl⟩; rw [HST.out])
    go_ret2
    exact ⟨⟨k, ret_two rfl HF.out.symm⟩, rfl⟩
  ·obtain rfl : k = s.size := by omega
   have HF : Hid (ckE s.data.toList = 0) := by show _ = _; rw [HE.out, if_pos HK.out]
   go_wp2
   go_ret2
   exact ⟨⟨0, ret_two rfl HF.out.symm⟩, rfl⟩
theorem refGood_any (s : ByteArray) (w : World) (hs : s.size <= maxLen) : Calls Tryz.prog 142 #[.string s] w fun e w' => e = .returned (.bool (good s.data.toList)) /\ w' = w := by
 have HS := hide hs
 clear hs
 go_enter Tryz.func142, Tryz.ntmps142
 go_wp2_with (go_at_call 175; refine (refCheck_any s _ HS.out).mono ?_; rintro e w' ⟨⟨p, rfl⟩, rfl⟩)
 go_ret
 exact ⟨rfl, rfl⟩
end
section
open Go.RowKit

structure En where
 rep : Int
 num : Int
 sku : ByteArray
 qty : Int
def enC (e : En) : List Value := [.int .i64 e.rep, .int .i64 e.num, .string e.sku, .int .i64 e.qty]
abbrev enV (e : En) : Value := .agg #[.int .i64 e.rep, .int .i64 e.num, .string e.sku, .int .i64 e.qty]
def isR (r : Int) : Bool := decide (0 <= r) && decide (r < 16)
def ceE (e : En) : Int := if isR e.rep = false then 3 else if e.num < 1 ∨ 1000000000 < e.num then 2 else if good e.sku.data.toList = false then 5 else if e.qty < 1 ∨ 1000000 < e.qty then 6 else 0

theorem isRep_any (r : Int) (w : World) : Calls Tryz.prog 160 #[.int .i64 r] w fun e w' => e = .returned (.bool (isR r)) /\ w' = w := by
 go_enter Tryz.func160, Tryz.ntmps160
 by_cases h0 : 0 <= r
 ·have HR : Hid (isR r = decide (r < 16)) := by show _ = _; unfold isR; rw [decide_eq_true h0, Bool.true_and]
  go_wp2
  go_ret
  exact ⟨ret_bool HR.out.symm, rfl⟩
 ·have HR : Hid (isR r = false) := by show _ = _; unfold isR; rw [decide_eq_false h0, Bool.false_and]
  go_wp2
  go_ret
  exact ⟨ret_bool HR.out.symm, rfl⟩

theorem checkEntry_any (e : En) (w : World) (hs : e.sku.size <= maxLen) : Calls Tryz.prog 121 #[enV e] w fun x w' => x = .returned (.int .i64 (ceE e)) /\ Below w.heap.size w w' := by
 obtain ⟨r, m, s, q⟩ := e
 have HB : Hid (Below w.heap.size w (w.alloc (.cells #[.int .i64 r, .int .i64 m, .string s, .int .i64 q] 66))) := (Below.refl _ _).alloc (Nat.le_refl _) _
 have HS : Hid (s.size <= maxLen) := hs
 clear hs
 obtain ⟨x, Hx⟩ : ∃ x, Hid (isR r = x) := ⟨_, rfl⟩
 obtain ⟨g, Hg⟩ : ∃ g, Hid (good s.data.toList = g) := ⟨_, rfl⟩
 cases x with
 | false =>
  have HF : Hid (ceE ⟨r, m, s, q⟩ = 3) := by show _ = _; unfold ceE; rw [if_pos Hx.out]
  go_enter Tryz.func121, Tryz.ntmps121
  go_wp2_with (go_at_call 160; refine (isRep_any r _).mono ?_; rintro e w' ⟨rfl, rfl⟩; rw [Hx.out])
  go_ret
  exact ⟨ret_int HF.out.symm, HB.out⟩
 | true =>
  have hx1 : 0 <= r /\ r < 16 := by have := Hx.out; unfold isR at this; simpa using this
  have hx2 : ¬ isR r = false := by rw [Hx.out]; simp
  by_cases h1 : m < 1
  ·have HF : Hid (ceE ⟨r, m, s, q⟩ = 2) := by show _ = _; unfold ceE; rw [if_neg hx2, if_pos (Or.inl h1)]
   clear hx2
   go_enter Tryz.func121, Tryz.ntmps121
   go_wp2_with (go_at_call 160; refine (isRep_any r _).mono ?_; rintro e w' ⟨rfl, rfl⟩; rw [Hx.out])
   go_ret
   exact ⟨ret_int HF.out.symm, HB.out⟩
  by_cases h2 : 1000000000 < m
  ·have HF : Hid (ceE ⟨r, m, s, q⟩ = 2) := by show _ = _; unfold ceE; rw [if_neg hx2, if_pos (Or.inr h2)]
   clear hx2
   go_enter Tryz.func121, Tryz.ntmps121
   go_wp2_with (go_at_call 160; refine (isRep_any r _).mono ?_; rintro e w' ⟨rfl, rfl⟩; rw [Hx.out])
   go_ret
   exact ⟨ret_int HF.out.symm, HB.out⟩
  have hm2 : ¬ (m < 1 ∨ 1000000000 < m) := by omega
  cases g with
  | false =>
   have HF : Hid (ceE ⟨r, m, s, q⟩ = 5) := by show _ = _; unfold ceE; rw [if_neg hx2, if_neg hm2, if_pos Hg.out]
   clear hx2 hm2
   go_enter Tryz.func121, Tryz.ntmps121
   go_wp2_with (first | (go_at_call 160; refine (isRep_any r _).mono ?_; rintro e w' ⟨rfl, rfl⟩; rw [Hx.out]) | (go_at_call 161; refine (good_any s _ HS.out).mono ?_; rintro e w' ⟨rfl, rfl⟩; rw [Hg.out]))
   go_ret
   exact ⟨ret_int HF.out.symm, HB.out⟩
  | true =>
   have hg2 : ¬ good s.data.toList = false := by rw [Hg.out]; simp
   by_cases h3 : q < 1
   ·have HF : Hid (ceE ⟨r, m, s, q⟩ = 6) := by show _ = _; unfold ceE; rw [if_neg hx2, if_neg hm2, if_neg hg2, if_pos (Or.inl h3)]
    clear hx2 hm2 hg2
    go_enter Tryz.func121, Tryz.ntmps121
    go_wp2_with (first | (go_at_call 160; refine (isRep_any r _).mono ?_; rintro e w' ⟨rfl, rfl⟩; rw [Hx.out]) | (go_at_call 161; refine (good_any s _ HS.out).mono ?_; rintro e w' ⟨rfl, rfl⟩; rw [Hg.out]))
    go_ret
    exact ⟨ret_int HF.out.symm, HB.out⟩
   by_cases h4 : 1000000 < q
   ·have HF : Hid (ceE ⟨r, m, s, q⟩ = 6) := by show _ = _; unfold ceE; rw [if_neg hx2, if_neg hm2, if_neg hg2, if_pos (Or.inr h4)]
    clear hx2 hm2 hg2
    go_enter Tryz.func121, Tryz.ntmps121
    go_wp2_with (first | (go_at_call 160; refine (isRep_any r _).mono ?_; rintro e w' ⟨rfl, rfl⟩; rw [Hx.out]) | (go_at_call 161; refine (good_any s _ HS.out).mono ?_; rintro e w' ⟨rfl, rfl⟩; rw [Hg.out]))
    go_ret
    exact ⟨ret_int HF.out.symm, HB.out⟩
   have hq2 : ¬ (q < 1 ∨ 1000000 < q) := by omega
   have HF : Hid (ceE ⟨r, m, s, q⟩ = 0) := by show _ = _; unfold ceE; rw [if_neg hx2, if_neg hm2, if_neg hg2, if_neg hq2]
   clear hx2 hm2 hg2 hq2
   go_enter Tryz.func121, Tryz.ntmps121
   go_wp2_with (first | (go_at_call 160; refine (isRep_any r _).mono ?_; rintro e w' ⟨rfl, rfl⟩; rw [Hx.out]) | (go_at_call 161; refine (good_any s _ HS.out).mono ?_; rintro e w' ⟨rfl, rfl⟩; rw [Hg.out]))
   go_ret
   exact ⟨ret_int HF.out.symm, HB.out⟩
end
end Go.Proofs.YtaphmhbmhcahaaaGreat.K
