/- Widen: its contract. -/
import Derived.Test.YtnlklhjmhienkaaGreatDoorAGtin
import Derived.Test.YtnlklhjmhienkaaGreatDoorARep
namespace Go.Proofs.YtnlklhjmhienkaaGreatDoor.A
open Go.RowKit

theorem gt_zero {s : ByteArray} (h : gtE s = 0) : (s.size = 8 ∨ s.size = 12 ∨ s.size = 13 ∨ s.size = 14) ∧ gtN s = s.size := by
  have h0 : nf s [8, 12, 13, 14] = 0 := by
    unfold gtE at h
    by_cases h0 : nf s [8, 12, 13, 14] = 0
    · exact h0
    · rw [if_neg h0] at h; exact h
  obtain ⟨-, -, -, h3⟩ := nf_zero h0
  refine ⟨?_, by unfold gtN; rw [if_pos h]⟩
  simp only [has, List.contains_iff_mem, List.mem_cons, List.not_mem_nil, or_false] at h3; omega

set_option maxRecDepth 100000 in
set_option maxHeartbeats 1600000 in
theorem widen_bad (s : ByteArray) (w : World) (hs : s.size ≤ maxLen) (f : Int) (hf : gtE s = f) (h : (f == 0) = false) :
    Calls Tryz.prog 32 #[.string s] w fun e w' => e = .returned (.tuple #[.string ⟨#[]⟩, .int .i64 f]) ∧ Below w.heap.size w w' := by
  have HS := hide hs
  have HF := hide hf
  clear hs hf
  go_enter Tryz.func32, Tryz.ntmps32
  go_wp2_with (go_at_call 30; refine (gtin_any s _ HS.out).mono ?_; rintro e w1 ⟨rfl, hb1⟩; rw [HF.out])
  go_ret2
  exact ⟨rfl, hb1⟩

set_option maxRecDepth 100000 in
set_option maxHeartbeats 1600000 in
theorem widen8 (s : ByteArray) (w : World) (hs : s.size = 8) (hf : gtE s = 0) :
    Calls Tryz.prog 32 #[.string s] w fun e w' => e = .returned (.tuple #[.string ((⟨#[48, 48, 48, 48, 48, 48]⟩ : ByteArray) ++ s), .int .i64 0]) ∧ Below w.heap.size w w' := by
  have HS : Hid (s.size ≤ maxLen) := by show _ ≤ _; unfold maxLen; omega
  have HF := hide hf
  have HN : Hid (gtN s = 8) := by show _ = _; rw [(gt_zero hf).2, hs]; rfl
  clear hf
  go_enter Tryz.func32, Tryz.ntmps32
  go_wp2_with (first | (go_at_call 30; refine (gtin_any s _ HS.out).mono ?_; rintro e w1 ⟨rfl, hb1⟩; rw [HF.out, HN.out]) | (go_at_call 60; refine (rep6 _).mono ?_; rintro e w' ⟨rfl, rfl⟩))
  go_ret2
  exact ⟨rfl, hb1⟩
set_option maxRecDepth 100000 in
set_option maxHeartbeats 1600000 in
theorem widen12 (s : ByteArray) (w : World) (hs : s.size = 12) (hf : gtE s = 0) :
    Calls Tryz.prog 32 #[.string s] w fun e w' => e = .returned (.tuple #[.string ((⟨#[48, 48]⟩ : ByteArray) ++ s), .int .i64 0]) ∧ Below w.heap.size w w' := by
  have HS : Hid (s.size ≤ maxLen) := by show _ ≤ _; unfold maxLen; omega
  have HF := hide hf
  have HN : Hid (gtN s = 12) := by show _ = _; rw [(gt_zero hf).2, hs]; rfl
  clear hf
  go_enter Tryz.func32, Tryz.ntmps32
  go_wp2_with (first | (go_at_call 30; refine (gtin_any s _ HS.out).mono ?_; rintro e w1 ⟨rfl, hb1⟩; rw [HF.out, HN.out]) | (go_at_call 60; refine (rep2 _).mono ?_; rintro e w' ⟨rfl, rfl⟩))
  go_ret2
  exact ⟨rfl, hb1⟩
set_option maxRecDepth 100000 in
set_option maxHeartbeats 1600000 in
theorem widen13 (s : ByteArray) (w : World) (hs : s.size = 13) (hf : gtE s = 0) :
    Calls Tryz.prog 32 #[.string s] w fun e w' => e = .returned (.tuple #[.string ((⟨#[48]⟩ : ByteArray) ++ s), .int .i64 0]) ∧ Below w.heap.size w w' := by
  have HS : Hid (s.size ≤ maxLen) := by show _ ≤ _; unfold maxLen; omega
  have HF := hide hf
  have HN : Hid (gtN s = 13) := by show _ = _; rw [(gt_zero hf).2, hs]; rfl
  clear hf
  go_enter Tryz.func32, Tryz.ntmps32
  go_wp2_with (first | (go_at_call 30; refine (gtin_any s _ HS.out).mono ?_; rintro e w1 ⟨rfl, hb1⟩; rw [HF.out, HN.out]) | (go_at_call 60; refine (rep1 _).mono ?_; rintro e w' ⟨rfl, rfl⟩))
  go_ret2
  exact ⟨rfl, hb1⟩
set_option maxRecDepth 100000 in
set_option maxHeartbeats 1600000 in
theorem widen14 (s : ByteArray) (w : World) (hs : s.size = 14) (hf : gtE s = 0) :
    Calls Tryz.prog 32 #[.string s] w fun e w' => e = .returned (.tuple #[.string ((⟨#[]⟩ : ByteArray) ++ s), .int .i64 0]) ∧ Below w.heap.size w w' := by
  have HS : Hid (s.size ≤ maxLen) := by show _ ≤ _; unfold maxLen; omega
  have HF := hide hf
  have HN : Hid (gtN s = 14) := by show _ = _; rw [(gt_zero hf).2, hs]; rfl
  clear hf
  go_enter Tryz.func32, Tryz.ntmps32
  go_wp2_with (first | (go_at_call 30; refine (gtin_any s _ HS.out).mono ?_; rintro e w1 ⟨rfl, hb1⟩; rw [HF.out, HN.out]) | (go_at_call 60; refine (rep0 _).mono ?_; rintro e w' ⟨rfl, rfl⟩))
  go_ret2
  exact ⟨rfl, hb1⟩

theorem widen_ok (s : ByteArray) (w : World) (hf : gtE s = 0) :
    Calls Tryz.prog 32 #[.string s] w fun e w' => e = .returned (.tuple #[.string (zs (14 - s.size) ++ s), .int .i64 0]) ∧ Below w.heap.size w w' := by
  rcases (gt_zero hf).1 with h | h | h | h
  · rw [h]; exact widen8 s w h hf
  · rw [h]; exact widen12 s w h hf
  · rw [h]; exact widen13 s w h hf
  · rw [h]; exact widen14 s w h hf

theorem zs_list (n : Nat) : (zs n).data.toList = List.replicate n 48 := rfl
theorem add_list (a b : ByteArray) : (a ++ b).data.toList = a.data.toList ++ b.data.toList := by simp
theorem wide_size (s : ByteArray) (n : Nat) : (zs n ++ s).size = n + s.size := by
  have : (zs n ++ s).data.toList.length = n + s.data.toList.length := by rw [add_list, zs_list]; simp
  simpa using this
theorem wide_zero (s : ByteArray) (n i : Nat) (h : i < n) (hi : i < (zs n ++ s).size) : (zs n ++ s)[i] = 48 := by
  have e : (zs n ++ s).data.toList[i]? = some 48 := by
    rw [add_list, zs_list, List.getElem?_append_left (by simpa using h)]; simp [h]
  have e2 : (zs n ++ s).data.toList[i]? = some ((zs n ++ s)[i]) := by
    rw [List.getElem?_eq_getElem (by simpa using hi)]; rfl
  rw [e2] at e; exact Option.some.inj e
theorem wide_rest (s : ByteArray) (n : Nat) : ((zs n ++ s).extract n (n + s.size)) = s := by
  have e : ((zs n ++ s).extract n (n + s.size)).data.toList = s.data.toList := by
    rw [Lib.extract_data, add_list, zs_list, List.drop_append, List.drop_eq_nil_of_le (by simp)]
    simp
    exact List.take_of_length_le (by simp)
  have e2 : ((zs n ++ s).extract n (n + s.size)).data = s.data := Array.toList_inj.1 e
  cases h : (zs n ++ s).extract n (n + s.size) with
  | mk d => cases s with | mk d' => rw [h] at e2; simp at e2; rw [e2]
end Go.Proofs.YtnlklhjmhienkaaGreatDoor.A
