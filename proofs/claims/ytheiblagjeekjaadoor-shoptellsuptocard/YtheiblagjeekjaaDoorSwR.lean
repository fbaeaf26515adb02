/- The reference's Word. -/
import Derived.Test.YtheiblagjeekjaaDoorSwX
namespace Go.Proofs.YtheiblagjeekjaaDoor
open Go.RowKit

/-- the words of the low statuses, with blanks between them -/
def lowL : List UInt8 := (([111, 107, 32, 102, 111, 114, 109, 32, 110, 117, 109, 98, 101, 114, 32, 114, 101, 112, 108, 105, 99, 97, 32, 99, 97, 114, 116, 32, 115, 107, 117, 32, 113, 117, 97].append [110, 116, 105, 116, 121, 32, 107, 105, 110, 100, 32, 109, 97, 108, 102, 111, 114, 109, 101, 100, 32, 101, 120, 104, 97, 117, 115, 116, 101, 100, 32, 99, 108, 97, 115, 104]).append ([32, 97, 98, 115, 101, 110, 116, 32, 102, 117, 108, 108, 32, 111, 118, 101, 114, 102, 108, 111, 119, 32, 116, 111, 107, 101, 110, 32, 109, 101, 115, 115, 97, 103, 101].append [32, 115, 101, 108, 102, 32, 116, 101, 120, 116, 32, 45, 32, 45, 32, 101, 109, 112, 116, 121, 32, 108, 111, 110, 103, 32, 98, 121, 116, 101, 32, 100, 105, 103, 105, 116]))
theorem low_wd : ∀ k, k < 24 → wd k ≠ [] → (wfold k lowL).2 = wd k ∧ (wfold k lowL).2 ≠ [45] := by decide +kernel
theorem low_no : ∀ k, k < 24 → wd k = [] → (wfold k lowL).2 = [45] := by decide +kernel
theorem high_no : ∀ k, k < 53 → ¬ k < 24 → ¬ k = 50 → ¬ k = 51 → ¬ k = 52 → wd k = [] := by decide +kernel
theorem wordL12 : wordL 12 = [102, 117, 108, 108] := by decide +kernel
theorem bs_ne {a b : List UInt8} (h : a ≠ b) : bs a ≠ bs b := fun e => h (by rw [← bs_list a, e, bs_list])
set_option maxRecDepth 100000 in
set_option maxHeartbeats 1600000 in
theorem refWord_any (e : Int) (h0 : -9223372036854775808 ≤ e) (h1 : e ≤ 9223372036854775807) (w : World) : Calls Tryd.prog 6 #[.int .i64 e] w fun r w' => r = .returned (.string (bs (wordL e))) ∧ Below w.heap.size w w' := by
  have HI : Hid (∀ w : World, Calls Tryd.prog 11 #[.int .i64 e] w fun r w' => r = .returned (.string (bs (num e))) ∧ Below w.heap.size w w') := fun w => number_any e h0 h1 w
  have hsz : (bs (num e)).size ≤ 21 := by rw [bs_size]; exact num_len e h0 h1
  have happ := bs_app errL (num e)
  by_cases h50 : e = 50
  · subst h50
    clear HI happ hsz
    go_enter Tryd.func6, Tryd.ntmps6
    go_wp2
    go_ret
    exact ⟨ret_str (by decide +kernel), Below.refl _ _⟩
  by_cases h51 : e = 51
  · subst h51
    clear HI happ hsz
    go_enter Tryd.func6, Tryd.ntmps6
    go_wp2
    go_ret
    exact ⟨ret_str (by decide +kernel), Below.refl _ _⟩
  by_cases h52 : e = 52
  · subst h52
    clear HI happ hsz
    go_enter Tryd.func6, Tryd.ntmps6
    go_wp2
    go_ret
    exact ⟨ret_str (by decide +kernel), Below.refl _ _⟩
  by_cases hin : 0 ≤ e ∧ e < 24
  · obtain ⟨k, rfl⟩ : ∃ i : Nat, e = (i : Int) := ⟨e.toNat, by omega⟩
    have hk : k < 24 := by omega
    obtain ⟨l, hl⟩ : ∃ l, (wfold k lowL).2 = l := ⟨_, rfl⟩
    have HC : Hid (∀ w : World, Calls Tryd.prog 10 #[.string (bs lowL), .int .i64 (k : Int)] w fun r w' => r = .returned (.string (bs l)) ∧ Below w.heap.size w w') := fun w => (word_any (bs lowL) k (by omega) w (by rw [bs_size]; decide)).mono fun r w' ⟨hr, hb⟩ => ⟨by rw [hr, bs_list, hl], hb⟩
    have hn := bs_size l
    by_cases hz : wd k = []
    · have HW : Hid (wordL (k : Int) = errL ++ num (k : Int)) := by show _ = _; unfold wordL; rw [if_neg (by simp [hz])]
      obtain rfl : l = [45] := by rw [← hl]; exact low_no k hk hz
      have hem := empty_no (bs [45]) (by rw [hn]; decide)
      have hq : ((bs [45]).toList == [45]) = true := by rw [ByteArray.toList_eq, bs_list]; rfl
      clear hl hz
      go_enter Tryd.func6, Tryd.ntmps6
      go_wp2_with (first | (go_at_call 10; refine (HC.out _).mono ?_; rintro r w1 ⟨rfl, hb1⟩) | (go_at_call 11; refine (HI.out _).mono ?_; rintro r w2 ⟨rfl, hb2⟩))
      go_ret
      exact ⟨ret_str (by rw [HW.out]; exact happ), hb1.trans (hb2.mono hb1.size)⟩
    · have HW : Hid (wordL (k : Int) = wd k) := by show _ = _; unfold wordL; rw [if_pos ⟨by omega, by omega, by simpa using hz⟩]; simp
      obtain ⟨g1, g2⟩ := low_wd k hk hz
      rw [hl] at g1 g2
      have hem := empty_no (bs l) (by rw [hn, g1]; intro h; exact hz (List.length_eq_zero_iff.1 h))
      have hq : ((bs l).toList == [45]) = false := by rw [ByteArray.toList_eq, bs_list]; simpa using g2
      have HL : Hid (wd k = l) := g1.symm
      clear hl hz g1 g2
      go_enter Tryd.func6, Tryd.ntmps6
      go_wp2_with (first | (go_at_call 10; refine (HC.out _).mono ?_; rintro r w1 ⟨rfl, hb1⟩) | (go_at_call 11; refine (HI.out _).mono ?_; rintro r w2 ⟨rfl, hb2⟩))
      go_ret
      exact ⟨ret_str (by rw [HW.out, HL.out]), hb1⟩
  · have HW : Hid (wordL e = errL ++ num e) := by
      show _ = _; unfold wordL; rw [if_neg (fun h => h.2.2 (high_no e.toNat (by omega) (by omega) (by omega) (by omega) (by omega)))]
    by_cases hneg : e < 0
    · go_enter Tryd.func6, Tryd.ntmps6
      go_wp2_with (go_at_call 11; refine (HI.out _).mono ?_; rintro r w2 ⟨rfl, hb2⟩)
      go_ret
      exact ⟨ret_str (by rw [HW.out]; exact happ), hb2⟩
    · have hge : 24 ≤ e := by omega
      go_enter Tryd.func6, Tryd.ntmps6
      go_wp2_with (go_at_call 11; refine (HI.out _).mono ?_; rintro r w2 ⟨rfl, hb2⟩)
      go_ret
      exact ⟨ret_str (by rw [HW.out]; exact happ), hb2⟩
end Go.Proofs.YtheiblagjeekjaaDoor
