/- The program's Digit: its contract. -/
import Derived.Test.YtnlklhjmhienkaaGreatDoorADgR
namespace Go.Proofs.YtnlklhjmhienkaaGreatDoor.A
open Go.RowKit

theorem dg_zero {s : ByteArray} (h : dgE s = 0) : s.size ≤ 13 ∧ allDig s = true := by
  unfold dgE nf at h
  split at h
  · cases h
  · split at h
    · cases h
    · split at h
      · rename_i h1 h2 h3
        split at h
        · rename_i h4
          refine ⟨?_, h4⟩
          simp only [has, List.contains_iff_mem, List.mem_cons, List.not_mem_nil, or_false] at h3; omega
        · cases h
      · cases h
set_option maxRecDepth 100000 in
set_option maxHeartbeats 1600000 in
theorem digitP_any (s : ByteArray) (w : World) (hs : s.size ≤ maxLen) :
    Calls Tryz.prog 28 #[.string s] w fun e w' => e = .returned (.tuple #[.int .i64 (dgN s), .int .i64 (dgE s)]) ∧ Below w.heap.size w w' := by
  have HS := hide hs
  by_cases h0 : dgE s = 0
  · obtain ⟨h13, hd⟩ := dg_zero h0
    have H0 : Hid (nf s [7, 11, 12, 13] = 0) := h0
    have HN : Hid (dgN s = chk s) := by show _ = _; unfold dgN; rw [if_pos h0]
    have HE := hide h0
    have HD := hide hd
    have H13 := hide h13
    clear h0 hd h13 hs
    go_enter Tryz.func28, Tryz.ntmps28
    go_wp2_with (first | (go_at_call 56; refine (numberFault_any s 7 11 12 13 _ HS.out).mono ?_; rintro e w1 ⟨rfl, hb1⟩; rw [H0.out]) | (go_at_call 57; refine (checkDigit_any s _ H13.out HD.out).mono ?_; rintro e w2 ⟨rfl, hb2⟩))
    go_ret2
    exact ⟨ret_two HN.out.symm HE.out.symm, below_on hb1 (Nat.le_refl _) hb2⟩
  · obtain ⟨f, HF⟩ : ∃ f : Int, Hid (nf s [7, 11, 12, 13] = f) := ⟨_, rfl⟩
    have hE : dgE s = f := HF.out
    have HE := hide hE
    rw [hE] at h0
    have hf : (f == 0) = false := by simpa using h0
    have HN : Hid (dgN s = 0) := by show _ = _; unfold dgN; rw [hE, if_neg h0]
    clear h0 hs hE
    go_enter Tryz.func28, Tryz.ntmps28
    go_wp2_with (go_at_call 56; refine (numberFault_any s 7 11 12 13 _ HS.out).mono ?_; rintro e w1 ⟨rfl, hb1⟩; rw [HF.out])
    go_ret2
    exact ⟨ret_two HN.out.symm HE.out.symm, hb1⟩
end Go.Proofs.YtnlklhjmhienkaaGreatDoor.A
