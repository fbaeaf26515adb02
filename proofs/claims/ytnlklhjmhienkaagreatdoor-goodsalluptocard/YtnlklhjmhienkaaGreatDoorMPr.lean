/- The program's Match: its contract at every input. -/
import Derived.Test.YtnlklhjmhienkaaGreatDoorMRef
namespace Go.Proofs.YtnlklhjmhienkaaGreatDoor.M
open Go.RowKit

theorem ret_mb {a a' : Bool} {b b' : Int} (h : a = a') (h' : b = b') : Ending.returned (.tuple #[.bool a, .int .i64 b]) = .returned (.tuple #[.bool a', .int .i64 b']) := by rw [h, h']
theorem maB_no {p s : ByteArray} {e : Int} (h : maE p s = e) (he : e ≠ 0) : maB p s = false := by unfold maB; rw [h, if_neg he]
set_option maxRecDepth 100000 in
set_option maxHeartbeats 1600000 in
theorem matchP_any (p s : ByteArray) (w : World) (hp : p.size ≤ maxLen) (hs : s.size ≤ maxLen) :
    Calls Tryz.prog 34 #[.string p, .string s] w fun e w' => e = .returned (.tuple #[.bool (maB p s), .int .i64 (maE p s)]) ∧ Below w.heap.size w w' := by
  have HB0 : Hid (Below w.heap.size w w) := Below.refl _ _
  have HSs := hide hs
  unfold maxLen at hp
  clear hs
  by_cases h48 : 48 < p.size
  · have HE : Hid (maE p s = 21) := by show _ = _; unfold maE; rw [if_pos h48]
    have HM := hide (maB_no HE.out (by decide))
    have h48' : (48 : Int) < p.size := by omega
    go_enter Tryz.func34, Tryz.ntmps34
    go_wp2
    go_ret2
    exact ⟨ret_mb HM.out.symm HE.out.symm, HB0.out⟩
  have h48' : ¬ (48 : Int) < p.size := by omega
  by_cases hall : p.data.toList.all pb = true
  · by_cases hg : good s.data.toList = true
    · have hE : maE p s = 0 := by unfold maE; rw [if_neg h48, if_pos hall, if_pos hg]
      have hM : maB p s = rrun p.data.toList s.data.toList s.size := by unfold maB; rw [if_pos hE]
      rw [hE, hM]
      exact match_any p s w (by omega) hall hg
    · have HE : Hid (maE p s = 5) := by show _ = _; unfold maE; rw [if_neg h48, if_pos hall, if_neg hg]
      have HM := hide (maB_no HE.out (by decide))
      have HG : Hid (good s.data.toList = false) := by show _ = _; simpa using hg
      have HP := hide hall
      clear hall hg
      go_enter Tryz.func34, Tryz.ntmps34
      go_wp2
      go_loop [12] (fun i => ∃ k : Nat, k ≤ p.size ∧ i = .int .i64 k) (fun i => p.size - (intOf i).toNat)
      case atStart => exact ⟨0, Nat.zero_le _, rfl⟩
      case round =>
        obtain ⟨k, hk, rfl⟩ := hrel
        by_cases hlt : k < p.size
        · have HB : Hid (pb p[k] = true) := by show _ = _; exact (List.all_eq_true.1 HP.out) p[k] (by show p.data[k] ∈ _; simp)
          go_wp2_with (go_at_call 61; refine (isPatternByte_any p[k] _).mono ?_; rintro e w' ⟨rfl, rfl⟩; rw [HB.out])
          go_round
          case rel => exact ⟨k + 1, by omega, by go_num⟩
          case measure => simp [intOf]; omega
        · go_wp2_with (go_at_call 23; refine (good_any s _ HSs.out).mono ?_; rintro e w' ⟨rfl, rfl⟩; rw [HG.out])
          go_ret2
          exact ⟨ret_mb HM.out.symm HE.out.symm, HB0.out⟩
  · have HE : Hid (maE p s = 22) := by show _ = _; unfold maE; rw [if_neg h48, if_neg hall]
    have HM := hide (maB_no HE.out (by decide))
    have HA := hide hall
    clear hall
    go_enter Tryz.func34, Tryz.ntmps34
    go_wp2
    go_loop [12] (fun i => ∃ k : Nat, k ≤ p.size ∧ i = .int .i64 k ∧ Hid ((p.data.toList.take k).all pb = true)) (fun i => p.size - (intOf i).toNat)
    case atStart => exact ⟨0, Nat.zero_le _, rfl, rfl⟩
    case round =>
      obtain ⟨k, hk, rfl, HK⟩ := hrel
      by_cases hlt : k < p.size
      · obtain ⟨q, Hq⟩ : ∃ q, Hid (pb p[k] = q) := ⟨pb p[k], rfl⟩
        cases q with
        | true =>
          have HT : Hid ((p.data.toList.take (k + 1)).all pb = true) := by
            show _ = _
            rw [List.take_succ_eq_append_getElem (by simpa using hlt), List.all_append, HK.out]
            simp only [List.all_cons, List.all_nil, Bool.and_true, Bool.true_and]
            exact Hq.out
          go_wp2_with (go_at_call 61; refine (isPatternByte_any p[k] _).mono ?_; rintro e w' ⟨rfl, rfl⟩; rw [Hq.out])
          go_round
          case rel => exact ⟨k + 1, by omega, by go_num, HT⟩
          case measure => simp [intOf]; omega
        | false =>
          go_wp2_with (go_at_call 61; refine (isPatternByte_any p[k] _).mono ?_; rintro e w' ⟨rfl, rfl⟩; rw [Hq.out])
          go_ret2
          exact ⟨ret_mb HM.out.symm HE.out.symm, HB0.out⟩
      · exact absurd (show p.data.toList.all pb = true by
          have e : p.data.toList.take k = p.data.toList := List.take_of_length_le (by rw [len_at]; omega)
          have := HK.out; rw [e] at this; exact this) HA.out
end Go.Proofs.YtnlklhjmhienkaaGreatDoor.M
