/- Both Words. -/
import Derived.Test.YtheiblagjeekjaaDoorSwW
namespace Go.Proofs.YtheiblagjeekjaaDoor
open Go.RowKit

def errL : List UInt8 := [101, 114, 114, 111, 114, 32]
/-- the word of a status -/
def wordL (e : Int) : List UInt8 := if 0 ≤ e ∧ e < 53 ∧ wd e.toNat ≠ [] then wd e.toNat else errL ++ num e
theorem empty_yes (s : ByteArray) (h : s.size = 0) : s.toList.isEmpty = true := by
  rw [ByteArray.toList_eq, List.isEmpty_iff, ← List.length_eq_zero_iff]; simpa using h
theorem empty_no (s : ByteArray) (h : ¬ s.size = 0) : s.toList.isEmpty = false := by
  rw [ByteArray.toList_eq, List.isEmpty_eq_false_iff, ← List.length_pos_iff]; have : s.data.size = s.size := rfl; simp; omega
theorem num_len (n : Int) (h0 : -9223372036854775808 ≤ n) (h1 : n ≤ 9223372036854775807) : (num n).length ≤ 21 := Lib.itoa_length_le n h0 h1
theorem wd_len (i : Nat) : (wd i).length ≤ 9 := by
  by_cases h : i < 53
  · have : ∀ i, i < 53 → (wd i).length ≤ 9 := by decide
    exact this i h
  · unfold wd List.getD; rw [List.getElem?_eq_none (by rw [wds_len]; omega)]; simp
theorem wordL_len (n : Int) (h0 : -9223372036854775808 ≤ n) (h1 : n ≤ 9223372036854775807) : (wordL n).length ≤ 27 := by
  unfold wordL
  split
  · have := wd_len n.toNat; omega
  · have := num_len n h0 h1; simp [errL]; omega

set_option maxRecDepth 100000 in
set_option maxHeartbeats 1600000 in
theorem shopWord_any (e : Int) (h0 : -9223372036854775808 ≤ e) (h1 : e ≤ 9223372036854775807) (w : World) (ht : Tab w) (hw : Wt w) : Calls Tryd.prog 5 #[.int .i64 e] w fun r w' => r = .returned (.string (bs (wordL e))) ∧ Below w.heap.size w w' := by
  have HI : Hid (∀ w : World, Tab w → Calls Tryd.prog 9 #[.int .i64 e] w fun r w' => r = .returned (.string (bs (num e))) ∧ Below w.heap.size w w') := fun w ht => itoa_any e h0 h1 w ht
  have HT := hide ht
  have hsz : (bs (num e)).size ≤ 21 := by rw [bs_size]; exact num_len e h0 h1
  have happ := bs_app errL (num e)
  by_cases hin : 0 ≤ e ∧ e < 53
  · obtain ⟨i, rfl⟩ : ∃ i : Nat, e = (i : Int) := ⟨e.toNat, by omega⟩
    have hi : i < 53 := by omega
    have hc := hw.at i hi
    have hn := bs_size (wd i)
    by_cases hz : wd i = []
    · have HW : Hid (wordL (i : Int) = errL ++ num (i : Int)) := by show _ = _; unfold wordL; rw [if_neg (by simp [hz])]
      have hem := empty_yes (bs (wd i)) (by rw [hn, hz]; rfl)
      clear ht hw h0 h1 hz
      go_enter Tryd.func5, Tryd.ntmps5
      go_wp2_with (go_at_call 9; refine (HI.out _ HT.out).mono ?_; rintro r w1 ⟨rfl, hb1⟩)
      go_ret
      exact ⟨ret_str (by rw [HW.out]; exact happ), hb1⟩
    · have HW : Hid (wordL (i : Int) = wd i) := by show _ = _; unfold wordL; rw [if_pos ⟨by omega, by omega, by simpa using hz⟩]; simp
      have hem := empty_no (bs (wd i)) (by rw [hn]; intro h; exact hz (List.length_eq_zero_iff.1 h))
      clear ht hw h0 h1 hz
      go_enter Tryd.func5, Tryd.ntmps5
      go_wp2
      go_ret
      exact ⟨ret_str (by rw [HW.out]), Below.refl _ _⟩
  · have HW : Hid (wordL e = errL ++ num e) := by show _ = _; unfold wordL; rw [if_neg (fun h => hin ⟨h.1, h.2.1⟩)]
    clear ht hw
    by_cases hneg : e < 0
    · go_enter Tryd.func5, Tryd.ntmps5
      go_wp2_with (go_at_call 9; refine (HI.out _ HT.out).mono ?_; rintro r w1 ⟨rfl, hb1⟩)
      go_ret
      exact ⟨ret_str (by rw [HW.out]; exact happ), hb1⟩
    · have hge : 53 ≤ e := by omega
      go_enter Tryd.func5, Tryd.ntmps5
      go_wp2_with (go_at_call 9; refine (HI.out _ HT.out).mono ?_; rintro r w1 ⟨rfl, hb1⟩)
      go_ret
      exact ⟨ret_str (by rw [HW.out]; exact happ), hb1⟩
end Go.Proofs.YtheiblagjeekjaaDoor
