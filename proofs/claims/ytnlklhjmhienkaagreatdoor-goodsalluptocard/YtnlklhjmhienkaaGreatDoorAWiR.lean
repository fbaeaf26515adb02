/- The reference's Widen: its contract. -/
import Derived.Test.YtnlklhjmhienkaaGreatDoorAGtR
namespace Go.Proofs.YtnlklhjmhienkaaGreatDoor.A
open Go.RowKit

theorem zs_succ (k : Nat) (s : ByteArray) : (⟨#[48]⟩ : ByteArray) ++ (zs k ++ s) = zs (k + 1) ++ s := by
  have e : ((⟨#[48]⟩ : ByteArray) ++ (zs k ++ s)).data.toList = (zs (k + 1) ++ s).data.toList := by
    rw [add_list, add_list, add_list, zs_list, zs_list]; rfl
  apply ByteArray.ext
  exact Array.toList_inj.1 e
theorem zs_zero (s : ByteArray) : zs 0 ++ s = s := by
  apply ByteArray.ext
  exact Array.toList_inj.1 (by rw [add_list, zs_list]; rfl)
set_option maxRecDepth 100000 in
set_option maxHeartbeats 1600000 in
theorem refWiden_bad (s : ByteArray) (w : World) (hs : s.size ≤ maxLen) (f : Int) (hf : gtE s = f) (h : (f == 0) = false) :
    Calls Tryz.prog 33 #[.string s] w fun e w' => e = .returned (.tuple #[.string ⟨#[]⟩, .int .i64 f]) ∧ Below w.heap.size w w' := by
  have HS := hide hs
  have HF := hide hf
  have h' : (f != 0) = true := by rw [bne, h]; rfl
  clear hs hf h
  go_enter Tryz.func33, Tryz.ntmps33
  go_wp2_with (go_at_call 31; refine (refGtin_any s _ HS.out).mono ?_; rintro e w1 ⟨rfl, hb1⟩; rw [HF.out])
  go_ret2
  exact ⟨rfl, hb1⟩
set_option maxRecDepth 100000 in
set_option maxHeartbeats 1600000 in
theorem refWiden_ok (s : ByteArray) (w : World) (hf : gtE s = 0) :
    Calls Tryz.prog 33 #[.string s] w fun e w' => e = .returned (.tuple #[.string (zs (14 - s.size) ++ s), .int .i64 0]) ∧ Below w.heap.size w w' := by
  have hz := gt_zero hf
  have h14 : s.size ≤ 14 := by rcases hz.1 with h | h | h | h <;> omega
  have HS : Hid (s.size ≤ maxLen) := by show _ ≤ _; unfold maxLen; omega
  have HF := hide hf
  have HN := hide hz.2
  clear hf hz
  go_enter Tryz.func33, Tryz.ntmps33
  go_wp2_with (go_at_call 31; refine (refGtin_any s _ HS.out).mono ?_; rintro e w1 ⟨rfl, hb1⟩; rw [HF.out, HN.out])
  have HB1 := hide hb1
  clear hb1
  go_loop [6, 7] (fun t i => ∃ k : Nat, s.size + k ≤ 14 ∧ t = .string (zs k ++ s) ∧ i = .int .i64 ((s.size + k : Nat) : Int)) (fun _ i => 14 - (intOf i).toNat)
  case atStart => exact ⟨0, by omega, by rw [zs_zero], by simp⟩
  case round =>
    obtain ⟨k, hk, rfl, rfl⟩ := hrel
    obtain ⟨m, Hm⟩ : ∃ m : Nat, Hid (s.size + k = m) := ⟨_, rfl⟩
    have hm := Hm.out
    rw [hm]
    have HZ := hide (zs_succ k s)
    have hsz := wide_size s k
    obtain ⟨t, Ht⟩ : ∃ t, Hid (zs k ++ s = t) := ⟨_, rfl⟩
    rw [Ht.out] at HZ hsz ⊢
    by_cases hlt : m < 14
    · go_wp2
      go_round
      case rel => exact ⟨k + 1, by omega, by rw [← HZ.out], by rw [← Nat.add_assoc, hm]; go_num⟩
      case measure => simp [intOf]; omega
    · have HK : Hid (zs (14 - s.size) ++ s = t) := by show _ = _; rw [← Ht.out, show 14 - s.size = k by omega]
      go_wp2
      go_ret2
      exact ⟨by rw [HK.out]; rfl, HB1.out⟩
end Go.Proofs.YtnlklhjmhienkaaGreatDoor.A
