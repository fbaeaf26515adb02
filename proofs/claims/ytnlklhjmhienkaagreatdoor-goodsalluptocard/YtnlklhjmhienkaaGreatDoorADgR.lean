/- The reference's Digit: its contract; the program's Digit: its contract. -/
import Derived.Test.YtnlklhjmhienkaaGreatDoorAChkR
namespace Go.Proofs.YtnlklhjmhienkaaGreatDoor.A
open Go.RowKit

/-- Digit's answer -/
def dgE (s : ByteArray) : Int := nf s [7, 11, 12, 13]
def dgN (s : ByteArray) : Int := if dgE s = 0 then chk s else 0
theorem neq_yes {n : Nat} {k : Int} (h : ¬ (n : Int) = k) : ((n : Int) != k) = true := by
  have : ((n : Int) == k) = false := by simpa using h
  rw [bne, this]; rfl
theorem has4 (a b c d v : Int) : has [a, b, c, d] v = true ↔ v = a ∨ v = b ∨ v = c ∨ v = d := by
  simp [has]

set_option maxRecDepth 100000 in
set_option maxHeartbeats 1600000 in
theorem refDigit_any (s : ByteArray) (w : World) (hs : s.size ≤ maxLen) :
    Calls Tryz.prog 29 #[.string s] w fun e w' => e = .returned (.tuple #[.int .i64 (dgN s), .int .i64 (dgE s)]) ∧ Below w.heap.size w w' := by
  have HS := hide hs
  unfold maxLen at hs
  have HBR : Hid (Below w.heap.size w w) := Below.refl _ _
  by_cases h0 : s.size = 0
  · have HE : Hid (dgE s = 20) := by show _ = _; unfold dgE nf; rw [if_pos h0]
    have HN : Hid (dgN s = 0) := by show _ = _; unfold dgN; rw [HE.out]; rfl
    have h0' : ((s.size : Int) == 0) = true := by rw [h0]; rfl
    go_enter Tryz.func29, Tryz.ntmps29
    go_wp2
    go_ret2
    exact ⟨ret_two HN.out.symm HE.out.symm, HBR.out⟩
  have h0' : ((s.size : Int) == 0) = false := by rw [beq_eq_false_iff_ne]; omega
  by_cases h13 : 13 < s.size
  · have HE : Hid (dgE s = 21) := by show _ = _; unfold dgE nf; rw [if_neg h0, if_pos (show ([7, 11, 12, 13] : List Int).getD 3 0 < (s.size : Int) by show (13 : Int) < _; omega)]
    have HN : Hid (dgN s = 0) := by show _ = _; unfold dgN; rw [HE.out]; rfl
    have h13' : (13 : Int) < s.size := by omega
    go_enter Tryz.func29, Tryz.ntmps29
    go_wp2
    go_ret2
    exact ⟨ret_two HN.out.symm HE.out.symm, HBR.out⟩
  have h13' : ¬ (13 : Int) < s.size := by omega
  have hnf : dgE s = if has [7, 11, 12, 13] (s.size : Int) = true then (if allDig s = true then 0 else 22) else 2 := by
    unfold dgE nf; rw [if_neg h0, if_neg (show ¬ ([7, 11, 12, 13] : List Int).getD 3 0 < (s.size : Int) by show ¬ (13 : Int) < _; omega)]
  by_cases hin : (s.size : Int) = 7 ∨ (s.size : Int) = 11 ∨ (s.size : Int) = 12 ∨ (s.size : Int) = 13
  · rw [if_pos ((has4 _ _ _ _ _).2 hin)] at hnf
    have HNF := hide hnf
    clear hnf
    obtain ⟨x, Hx⟩ : ∃ x, Hid (allDig s = x) := ⟨allDig s, rfl⟩
    cases x with
    | true =>
      have HE : Hid (dgE s = 0) := by show _ = _; rw [HNF.out, if_pos Hx.out]
      have HN : Hid (dgN s = chk s) := by show _ = _; unfold dgN; rw [if_pos HE.out]
      have HCK := hide (fun W => check_any s W (by omega) Hx.out)
      rcases hin with h | h | h | h
      · have q7 : ((s.size : Int) != 7) = false := by rw [h]; rfl
        have q11 : ((s.size : Int) != 11) = true := by rw [h]; rfl
        have q12 : ((s.size : Int) != 12) = true := by rw [h]; rfl
        have q13 : ((s.size : Int) != 13) = true := by rw [h]; rfl
        clear h
        go_enter Tryz.func29, Tryz.ntmps29
        go_wp2_with (first | (go_at_call 58; refine (digits_any s _ HS.out).mono ?_; rintro e w1 ⟨rfl, rfl⟩; rw [Hx.out]) | (go_at_call 59; refine (HCK.out _).mono ?_; rintro e w1 ⟨rfl, b1⟩))
        go_ret2
        exact ⟨ret_two HN.out.symm HE.out.symm, b1⟩
      · have q7 : ((s.size : Int) != 7) = true := by rw [h]; rfl
        have q11 : ((s.size : Int) != 11) = false := by rw [h]; rfl
        have q12 : ((s.size : Int) != 12) = true := by rw [h]; rfl
        have q13 : ((s.size : Int) != 13) = true := by rw [h]; rfl
        clear h
        go_enter Tryz.func29, Tryz.ntmps29
        go_wp2_with (first | (go_at_call 58; refine (digits_any s _ HS.out).mono ?_; rintro e w1 ⟨rfl, rfl⟩; rw [Hx.out]) | (go_at_call 59; refine (HCK.out _).mono ?_; rintro e w1 ⟨rfl, b1⟩))
        go_ret2
        exact ⟨ret_two HN.out.symm HE.out.symm, b1⟩
      · have q7 : ((s.size : Int) != 7) = true := by rw [h]; rfl
        have q11 : ((s.size : Int) != 11) = true := by rw [h]; rfl
        have q12 : ((s.size : Int) != 12) = false := by rw [h]; rfl
        have q13 : ((s.size : Int) != 13) = true := by rw [h]; rfl
        clear h
        go_enter Tryz.func29, Tryz.ntmps29
        go_wp2_with (first | (go_at_call 58; refine (digits_any s _ HS.out).mono ?_; rintro e w1 ⟨rfl, rfl⟩; rw [Hx.out]) | (go_at_call 59; refine (HCK.out _).mono ?_; rintro e w1 ⟨rfl, b1⟩))
        go_ret2
        exact ⟨ret_two HN.out.symm HE.out.symm, b1⟩
      · have q7 : ((s.size : Int) != 7) = true := by rw [h]; rfl
        have q11 : ((s.size : Int) != 11) = true := by rw [h]; rfl
        have q12 : ((s.size : Int) != 12) = true := by rw [h]; rfl
        have q13 : ((s.size : Int) != 13) = false := by rw [h]; rfl
        clear h
        go_enter Tryz.func29, Tryz.ntmps29
        go_wp2_with (first | (go_at_call 58; refine (digits_any s _ HS.out).mono ?_; rintro e w1 ⟨rfl, rfl⟩; rw [Hx.out]) | (go_at_call 59; refine (HCK.out _).mono ?_; rintro e w1 ⟨rfl, b1⟩))
        go_ret2
        exact ⟨ret_two HN.out.symm HE.out.symm, b1⟩
    | false =>
      have HE : Hid (dgE s = 22) := by show _ = _; rw [HNF.out, if_neg (by rw [Hx.out]; simp)]
      have HN : Hid (dgN s = 0) := by show _ = _; unfold dgN; rw [HE.out]; rfl
      rcases hin with h | h | h | h
      · have q7 : ((s.size : Int) != 7) = false := by rw [h]; rfl
        have q11 : ((s.size : Int) != 11) = true := by rw [h]; rfl
        have q12 : ((s.size : Int) != 12) = true := by rw [h]; rfl
        have q13 : ((s.size : Int) != 13) = true := by rw [h]; rfl
        clear h
        go_enter Tryz.func29, Tryz.ntmps29
        go_wp2_with (go_at_call 58; refine (digits_any s _ HS.out).mono ?_; rintro e w1 ⟨rfl, rfl⟩; rw [Hx.out])
        go_ret2
        exact ⟨ret_two HN.out.symm HE.out.symm, HBR.out⟩
      · have q7 : ((s.size : Int) != 7) = true := by rw [h]; rfl
        have q11 : ((s.size : Int) != 11) = false := by rw [h]; rfl
        have q12 : ((s.size : Int) != 12) = true := by rw [h]; rfl
        have q13 : ((s.size : Int) != 13) = true := by rw [h]; rfl
        clear h
        go_enter Tryz.func29, Tryz.ntmps29
        go_wp2_with (go_at_call 58; refine (digits_any s _ HS.out).mono ?_; rintro e w1 ⟨rfl, rfl⟩; rw [Hx.out])
        go_ret2
        exact ⟨ret_two HN.out.symm HE.out.symm, HBR.out⟩
      · have q7 : ((s.size : Int) != 7) = true := by rw [h]; rfl
        have q11 : ((s.size : Int) != 11) = true := by rw [h]; rfl
        have q12 : ((s.size : Int) != 12) = false := by rw [h]; rfl
        have q13 : ((s.size : Int) != 13) = true := by rw [h]; rfl
        clear h
        go_enter Tryz.func29, Tryz.ntmps29
        go_wp2_with (go_at_call 58; refine (digits_any s _ HS.out).mono ?_; rintro e w1 ⟨rfl, rfl⟩; rw [Hx.out])
        go_ret2
        exact ⟨ret_two HN.out.symm HE.out.symm, HBR.out⟩
      · have q7 : ((s.size : Int) != 7) = true := by rw [h]; rfl
        have q11 : ((s.size : Int) != 11) = true := by rw [h]; rfl
        have q12 : ((s.size : Int) != 12) = true := by rw [h]; rfl
        have q13 : ((s.size : Int) != 13) = false := by rw [h]; rfl
        clear h
        go_enter Tryz.func29, Tryz.ntmps29
        go_wp2_with (go_at_call 58; refine (digits_any s _ HS.out).mono ?_; rintro e w1 ⟨rfl, rfl⟩; rw [Hx.out])
        go_ret2
        exact ⟨ret_two HN.out.symm HE.out.symm, HBR.out⟩
  · rw [if_neg (fun h => hin ((has4 _ _ _ _ _).1 h))] at hnf
    have HE := hide hnf
    have HN : Hid (dgN s = 0) := by show _ = _; unfold dgN; rw [HE.out]; rfl
    have n7 := neq_yes (n := s.size) (k := 7) (fun h => hin (Or.inl h))
    have n11 := neq_yes (n := s.size) (k := 11) (fun h => hin (Or.inr (Or.inl h)))
    have n12 := neq_yes (n := s.size) (k := 12) (fun h => hin (Or.inr (Or.inr (Or.inl h))))
    have n13 := neq_yes (n := s.size) (k := 13) (fun h => hin (Or.inr (Or.inr (Or.inr h))))
    clear hin hnf
    go_enter Tryz.func29, Tryz.ntmps29
    go_wp2
    go_ret2
    exact ⟨ret_two HN.out.symm HE.out.symm, HBR.out⟩
end Go.Proofs.YtnlklhjmhienkaaGreatDoor.A
