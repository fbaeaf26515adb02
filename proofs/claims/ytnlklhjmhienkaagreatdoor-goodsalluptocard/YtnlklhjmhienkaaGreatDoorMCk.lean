/- Check and the reference's Check, with the place. -/
import Derived.Test.YtnlklhjmhienkaaGreatDoorMRSku
namespace Go.Proofs.YtnlklhjmhienkaaGreatDoor.M
open Go.RowKit

/-- the first place from k on at which a byte can't stand; nought: there is none -/
def fb (l : List UInt8) : Nat → Nat → Nat
  | 0, _ => 0
  | f + 1, k => if stand l k = true then fb l f (k + 1) else k
/-- Check's place -/
def ckP (l : List UInt8) : Int := if l.length = 0 ∨ 24 < l.length then 0 else (fb l l.length 0 : Int)

set_option maxHeartbeats 1600000 in
theorem check_full (s : ByteArray) (w : World) (hs : s.size ≤ maxLen) : Calls Tryz.prog 20 #[.string s] w fun e w' => e = .returned (.tuple #[.int .i64 (ckP s.data.toList), .int .i64 (ckE s.data.toList)]) ∧ w' = w := by
  unfold maxLen at hs
  by_cases h0 : s.size = 0
  · have he := empty_yes s h0
    have HPz : Hid (ckP s.data.toList = 0) := by show _ = _; unfold ckP; rw [len_at, if_pos (Or.inl h0)]
    have HE : Hid (ckE s.data.toList = 20) := by show _ = _; unfold ckE; rw [len_at, if_pos h0]
    go_enter Tryz.func20, Tryz.ntmps20
    go_wp2
    go_ret2
    exact ⟨ret_two HPz.out.symm HE.out.symm, rfl⟩
  have he := empty_no s h0
  by_cases h24 : 24 < s.size
  · have HPz : Hid (ckP s.data.toList = 0) := by show _ = _; unfold ckP; rw [len_at, if_pos (Or.inr h24)]
    have HE : Hid (ckE s.data.toList = 21) := by show _ = _; unfold ckE; rw [len_at, if_neg h0, if_pos h24]
    have h24' : (24 : Int) < s.size := by omega
    go_enter Tryz.func20, Tryz.ntmps20
    go_wp2
    go_ret2
    exact ⟨ret_two HPz.out.symm HE.out.symm, rfl⟩
  have h24' : ¬ (24 : Int) < s.size := by omega
  have HPn : Hid (ckP s.data.toList = (fb s.data.toList s.size 0 : Int)) := by show _ = _; unfold ckP; rw [len_at, if_neg (by omega)]
  have HE : Hid (ckE s.data.toList = if stands s.data.toList s.size = true then 0 else 22) := by show _ = _; unfold ckE; rw [len_at, if_neg h0, if_neg h24]
  go_enter Tryz.func20, Tryz.ntmps20
  go_wp2
  go_loop [12] (fun i => ∃ k : Nat, k ≤ s.size ∧ i = .int .i64 k ∧ Hid (stands s.data.toList k = true) ∧ Hid (fb s.data.toList (s.size - k) k = fb s.data.toList s.size 0)) (fun i => s.size - (intOf i).toNat)
  case atStart => exact ⟨0, Nat.zero_le _, rfl, rfl, rfl⟩
  case round =>
    obtain ⟨k, hk, rfl, HK, HFb⟩ := hrel
    by_cases hlt : k < s.size
    · cases hst : stand s.data.toList k with
      | true =>
        have HST := hide hst
        clear hst
        go_wp2_with (go_at_call 49; refine (canStand_any s k _ hlt (by omega)).mono ?_; rintro e w' ⟨rfl, rfl⟩; rw [HST.out])
        go_round
        case rel => exact ⟨k + 1, by omega, by go_num, by show _ = _; rw [stands_succ, HK.out, HST.out]; rfl, by show _ = _; rw [← HFb.out, show s.size - k = (s.size - (k + 1)) + 1 by omega, fb, if_pos HST.out]⟩
        case measure => simp [intOf]; omega
      | false =>
        have HST := hide hst
        clear hst
        have HF : Hid (ckE s.data.toList = 22) := by show _ = _; rw [HE.out, stands_no _ k _ hlt HST.out]; rfl
        go_wp2_with (go_at_call 49; refine (canStand_any s k _ hlt (by omega)).mono ?_; rintro e w' ⟨rfl, rfl⟩; rw [HST.out])
        go_ret2
        exact ⟨ret_two (by rw [HPn.out, ← HFb.out, show s.size - k = (s.size - (k + 1)) + 1 by omega, fb, if_neg (by rw [HST.out]; simp)]) HF.out.symm, rfl⟩
    · obtain rfl : k = s.size := by omega
      have HF : Hid (ckE s.data.toList = 0) := by show _ = _; rw [HE.out, if_pos HK.out]
      go_wp2
      go_ret2
      exact ⟨ret_two (by rw [HPn.out, ← HFb.out, Nat.sub_self]; rfl) HF.out.symm, rfl⟩

set_option maxHeartbeats 1600000 in
theorem refCheck_full (s : ByteArray) (w : World) (hs : s.size ≤ maxLen) : Calls Tryz.prog 21 #[.string s] w fun e w' => e = .returned (.tuple #[.int .i64 (ckP s.data.toList), .int .i64 (ckE s.data.toList)]) ∧ w' = w := by
  unfold maxLen at hs
  by_cases h0 : s.size = 0
  · have h0' : ((s.size : Int) == 0) = true := by simpa using h0
    have HPz : Hid (ckP s.data.toList = 0) := by show _ = _; unfold ckP; rw [len_at, if_pos (Or.inl h0)]
    have HE : Hid (ckE s.data.toList = 20) := by show _ = _; unfold ckE; rw [len_at, if_pos h0]
    go_enter Tryz.func21, Tryz.ntmps21
    go_wp2
    go_ret2
    exact ⟨ret_two HPz.out.symm HE.out.symm, rfl⟩
  have h0' : ((s.size : Int) == 0) = false := by simpa using h0
  by_cases h24 : 24 < s.size
  · have HPz : Hid (ckP s.data.toList = 0) := by show _ = _; unfold ckP; rw [len_at, if_pos (Or.inr h24)]
    have HE : Hid (ckE s.data.toList = 21) := by show _ = _; unfold ckE; rw [len_at, if_neg h0, if_pos h24]
    have h24' : (24 : Int) < s.size := by omega
    clear h0
    go_enter Tryz.func21, Tryz.ntmps21
    go_wp2
    go_ret2
    exact ⟨ret_two HPz.out.symm HE.out.symm, rfl⟩
  have h24' : ¬ (24 : Int) < s.size := by omega
  have HPn : Hid (ckP s.data.toList = (fb s.data.toList s.size 0 : Int)) := by show _ = _; unfold ckP; rw [len_at, if_neg (by omega)]
  have HE : Hid (ckE s.data.toList = if stands s.data.toList s.size = true then 0 else 22) := by show _ = _; unfold ckE; rw [len_at, if_neg h0, if_neg h24]
  clear h0
  go_enter Tryz.func21, Tryz.ntmps21
  go_wp2
  go_loop [4] (fun i => ∃ k : Nat, k ≤ s.size ∧ i = .int .i64 k ∧ Hid (stands s.data.toList k = true) ∧ Hid (fb s.data.toList (s.size - k) k = fb s.data.toList s.size 0)) (fun i => s.size - (intOf i).toNat)
  case atStart => exact ⟨0, Nat.zero_le _, rfl, rfl, rfl⟩
  case round =>
    obtain ⟨k, hk, rfl, HK, HFb⟩ := hrel
    by_cases hlt : k < s.size
    · cases hst : stand s.data.toList k with
      | true =>
        have HST := hide hst
        clear hst
        go_wp2_with (go_at_call 50; refine (refStands_any s k _ hlt (by omega)).mono ?_; rintro e w' ⟨rfl, rfl⟩; rw [HST.out])
        go_round
        case rel => exact ⟨k + 1, by omega, by go_num, by show _ = _; rw [stands_succ, HK.out, HST.out]; rfl, by show _ = _; rw [← HFb.out, show s.size - k = (s.size - (k + 1)) + 1 by omega, fb, if_pos HST.out]⟩
        case measure => simp [intOf]; omega
      | false =>
        have HST := hide hst
        clear hst
        have HF : Hid (ckE s.data.toList = 22) := by show _ = _; rw [HE.out, stands_no _ k _ hlt HST.out]; rfl
        go_wp2_with (go_at_call 50; refine (refStands_any s k _ hlt (by omega)).mono ?_; rintro e w' ⟨rfl, rfl⟩; rw [HST.out])
        go_ret2
        exact ⟨ret_two (by rw [HPn.out, ← HFb.out, show s.size - k = (s.size - (k + 1)) + 1 by omega, fb, if_neg (by rw [HST.out]; simp)]) HF.out.symm, rfl⟩
    · obtain rfl : k = s.size := by omega
      have HF : Hid (ckE s.data.toList = 0) := by show _ = _; rw [HE.out, if_pos HK.out]
      go_wp2
      go_ret2
      exact ⟨ret_two (by rw [HPn.out, ← HFb.out, Nat.sub_self]; rfl) HF.out.symm, rfl⟩
end Go.Proofs.YtnlklhjmhienkaaGreatDoor.M
