/- The reference's Gtin: its contract. -/
import Derived.Test.YtnlklhjmhienkaaGreatDoorADg
namespace Go.Proofs.YtnlklhjmhienkaaGreatDoor.A
open Go.RowKit

set_option maxRecDepth 100000 in
set_option maxHeartbeats 3200000 in
theorem refGtin_any (s : ByteArray) (w : World) (hs : s.size ≤ maxLen) :
    Calls Tryz.prog 31 #[.string s] w fun e w' => e = .returned (.tuple #[.int .i64 (gtN s), .int .i64 (gtE s)]) ∧ Below w.heap.size w w' := by
  have HS := hide hs
  unfold maxLen at hs
  have HBR : Hid (Below w.heap.size w w) := Below.refl _ _
  by_cases h0 : s.size = 0
  · have hn : nf s [8, 12, 13, 14] = 20 := by unfold nf; rw [if_pos h0]
    have HE : Hid (gtE s = 20) := by show _ = _; unfold gtE; rw [hn]; rfl
    have HN : Hid (gtN s = 0) := by show _ = _; unfold gtN; rw [HE.out]; rfl
    have h0' : ((s.size : Int) == 0) = true := by rw [h0]; rfl
    clear hn
    go_enter Tryz.func31, Tryz.ntmps31
    go_wp2
    go_ret2
    exact ⟨ret_two HN.out.symm HE.out.symm, HBR.out⟩
  have h0' : ((s.size : Int) == 0) = false := by rw [beq_eq_false_iff_ne]; omega
  have hpos : s.size - 1 < s.size := by omega
  have hposI : (1 : Int) ≤ s.size := by omega
  by_cases h14 : 14 < s.size
  · have hn : nf s [8, 12, 13, 14] = 21 := by unfold nf; rw [if_neg h0, if_pos (show ([8, 12, 13, 14] : List Int).getD 3 0 < (s.size : Int) by show (14 : Int) < _; omega)]
    have HE : Hid (gtE s = 21) := by show _ = _; unfold gtE; rw [hn]; rfl
    have HN : Hid (gtN s = 0) := by show _ = _; unfold gtN; rw [HE.out]; rfl
    have h14' : (14 : Int) < s.size := by omega
    clear hn
    go_enter Tryz.func31, Tryz.ntmps31
    go_wp2
    go_ret2
    exact ⟨ret_two HN.out.symm HE.out.symm, HBR.out⟩
  have h14' : ¬ (14 : Int) < s.size := by omega
  have hnf : nf s [8, 12, 13, 14] = if has [8, 12, 13, 14] (s.size : Int) = true then (if allDig s = true then 0 else 22) else 2 := by
    unfold nf; rw [if_neg h0, if_neg (show ¬ ([8, 12, 13, 14] : List Int).getD 3 0 < (s.size : Int) by show ¬ (14 : Int) < _; omega)]
  by_cases hin : (s.size : Int) = 8 ∨ (s.size : Int) = 12 ∨ (s.size : Int) = 13 ∨ (s.size : Int) = 14
  · rw [if_pos ((has4 _ _ _ _ _).2 hin)] at hnf
    have HNF := hide hnf
    clear hnf
    obtain ⟨x, Hx⟩ : ∃ x, Hid (allDig s = x) := ⟨allDig s, rfl⟩
    cases x with
    | true =>
      have H0 : Hid (nf s [8, 12, 13, 14] = 0) := by show _ = _; rw [HNF.out, if_pos Hx.out]
      have HL := hide (lastD_at s (by omega))
      have hdg := allDig_at s Hx.out (s.size - 1) (by omega)
      have HC := hide (cutL_dig s Hx.out)
      obtain ⟨d, hdE⟩ : ∃ d : Int, ((s[s.size - 1]'hpos).toNat : Int) = d := ⟨_, rfl⟩
      rw [hdE] at hdg HL
      obtain ⟨q, HX⟩ : ∃ q : Int, Hid (chk (cutL s) = q) := ⟨_, rfl⟩
      have HK : Hid (∀ W : World, Calls Tryz.prog 59 #[.string (s.extract 0 (s.size - 1))] W fun e w' => e = .returned (.int .i64 q) ∧ Below W.heap.size W w') := fun W => by
        have h := check_any (cutL s) W (by rw [cutL_size]; omega) HC.out
        rw [HX.out] at h
        exact h
      have hA : (1 : Int) ≤ s.size := by omega
      have hw8 := wrap8 (d - 48) (by omega) (by omega)
      have hw64 := wrap64' (d - 48) (by omega) (by omega)
      have hz : ((s.size : Int) - 1).toNat = s.size - 1 := by omega
      have hwn : IntKind.i64.wrap ((s.size : Int) - 1) = (s.size : Int) - 1 := by rw [IntKind.wrap_i64]; omega
      by_cases hx : q = d - 48
      · have HE : Hid (gtE s = 0) := by show _ = _; unfold gtE; rw [if_pos H0.out, HX.out, HL.out, if_pos hx]
        have HN : Hid (gtN s = s.size) := by show _ = _; unfold gtN; rw [if_pos HE.out]
        clear HX HL HC
        subst hx
        rcases hin with h | h | h | h
        · have q8 : ((s.size : Int) != 8) = false := by rw [h]; rfl
          have q12 : ((s.size : Int) != 12) = true := by rw [h]; rfl
          have q13 : ((s.size : Int) != 13) = true := by rw [h]; rfl
          have q14 : ((s.size : Int) != 14) = true := by rw [h]; rfl
          clear h
          go_enter Tryz.func31, Tryz.ntmps31
          go_wp2_with (go_at_call 58; refine (digits_any s _ HS.out).mono ?_; rintro e w1 ⟨rfl, rfl⟩; rw [Hx.out])
          go_region_with (go_at_call 59; refine (HK.out _).mono ?_; rintro e w2 ⟨rfl, hb2⟩)
          all_goals
            go_wp2
            go_ret2
            exact ⟨ret_two HN.out.symm HE.out.symm, ⟨hb2.os, hb2.tape, hb2.output, hb2.size, hb2.block⟩⟩
        · have q8 : ((s.size : Int) != 8) = true := by rw [h]; rfl
          have q12 : ((s.size : Int) != 12) = false := by rw [h]; rfl
          have q13 : ((s.size : Int) != 13) = true := by rw [h]; rfl
          have q14 : ((s.size : Int) != 14) = true := by rw [h]; rfl
          clear h
          go_enter Tryz.func31, Tryz.ntmps31
          go_wp2_with (go_at_call 58; refine (digits_any s _ HS.out).mono ?_; rintro e w1 ⟨rfl, rfl⟩; rw [Hx.out])
          go_region_with (go_at_call 59; refine (HK.out _).mono ?_; rintro e w2 ⟨rfl, hb2⟩)
          all_goals
            go_wp2
            go_ret2
            exact ⟨ret_two HN.out.symm HE.out.symm, ⟨hb2.os, hb2.tape, hb2.output, hb2.size, hb2.block⟩⟩
        · have q8 : ((s.size : Int) != 8) = true := by rw [h]; rfl
          have q12 : ((s.size : Int) != 12) = true := by rw [h]; rfl
          have q13 : ((s.size : Int) != 13) = false := by rw [h]; rfl
          have q14 : ((s.size : Int) != 14) = true := by rw [h]; rfl
          clear h
          go_enter Tryz.func31, Tryz.ntmps31
          go_wp2_with (go_at_call 58; refine (digits_any s _ HS.out).mono ?_; rintro e w1 ⟨rfl, rfl⟩; rw [Hx.out])
          go_region_with (go_at_call 59; refine (HK.out _).mono ?_; rintro e w2 ⟨rfl, hb2⟩)
          all_goals
            go_wp2
            go_ret2
            exact ⟨ret_two HN.out.symm HE.out.symm, ⟨hb2.os, hb2.tape, hb2.output, hb2.size, hb2.block⟩⟩
        · have q8 : ((s.size : Int) != 8) = true := by rw [h]; rfl
          have q12 : ((s.size : Int) != 12) = true := by rw [h]; rfl
          have q13 : ((s.size : Int) != 13) = true := by rw [h]; rfl
          have q14 : ((s.size : Int) != 14) = false := by rw [h]; rfl
          clear h
          go_enter Tryz.func31, Tryz.ntmps31
          go_wp2_with (go_at_call 58; refine (digits_any s _ HS.out).mono ?_; rintro e w1 ⟨rfl, rfl⟩; rw [Hx.out])
          go_region_with (go_at_call 59; refine (HK.out _).mono ?_; rintro e w2 ⟨rfl, hb2⟩)
          all_goals
            go_wp2
            go_ret2
            exact ⟨ret_two HN.out.symm HE.out.symm, ⟨hb2.os, hb2.tape, hb2.output, hb2.size, hb2.block⟩⟩
      · have hx' : (q == d - 48) = false := by simpa using hx
        have HE : Hid (gtE s = 23) := by show _ = _; unfold gtE; rw [if_pos H0.out, HX.out, HL.out, if_neg hx]
        have HN : Hid (gtN s = 0) := by show _ = _; unfold gtN; rw [HE.out]; rfl
        clear HX HL HC hx
        rcases hin with h | h | h | h
        · have q8 : ((s.size : Int) != 8) = false := by rw [h]; rfl
          have q12 : ((s.size : Int) != 12) = true := by rw [h]; rfl
          have q13 : ((s.size : Int) != 13) = true := by rw [h]; rfl
          have q14 : ((s.size : Int) != 14) = true := by rw [h]; rfl
          clear h
          go_enter Tryz.func31, Tryz.ntmps31
          go_wp2_with (go_at_call 58; refine (digits_any s _ HS.out).mono ?_; rintro e w1 ⟨rfl, rfl⟩; rw [Hx.out])
          go_region_with (go_at_call 59; refine (HK.out _).mono ?_; rintro e w2 ⟨rfl, hb2⟩)
          all_goals
            go_wp2
            go_ret2
            exact ⟨ret_two HN.out.symm HE.out.symm, ⟨hb2.os, hb2.tape, hb2.output, hb2.size, hb2.block⟩⟩
        · have q8 : ((s.size : Int) != 8) = true := by rw [h]; rfl
          have q12 : ((s.size : Int) != 12) = false := by rw [h]; rfl
          have q13 : ((s.size : Int) != 13) = true := by rw [h]; rfl
          have q14 : ((s.size : Int) != 14) = true := by rw [h]; rfl
          clear h
          go_enter Tryz.func31, Tryz.ntmps31
          go_wp2_with (go_at_call 58; refine (digits_any s _ HS.out).mono ?_; rintro e w1 ⟨rfl, rfl⟩; rw [Hx.out])
          go_region_with (go_at_call 59; refine (HK.out _).mono ?_; rintro e w2 ⟨rfl, hb2⟩)
          all_goals
            go_wp2
            go_ret2
            exact ⟨ret_two HN.out.symm HE.out.symm, ⟨hb2.os, hb2.tape, hb2.output, hb2.size, hb2.block⟩⟩
        · have q8 : ((s.size : Int) != 8) = true := by rw [h]; rfl
          have q12 : ((s.size : Int) != 12) = true := by rw [h]; rfl
          have q13 : ((s.size : Int) != 13) = false := by rw [h]; rfl
          have q14 : ((s.size : Int) != 14) = true := by rw [h]; rfl
          clear h
          go_enter Tryz.func31, Tryz.ntmps31
          go_wp2_with (go_at_call 58; refine (digits_any s _ HS.out).mono ?_; rintro e w1 ⟨rfl, rfl⟩; rw [Hx.out])
          go_region_with (go_at_call 59; refine (HK.out _).mono ?_; rintro e w2 ⟨rfl, hb2⟩)
          all_goals
            go_wp2
            go_ret2
            exact ⟨ret_two HN.out.symm HE.out.symm, ⟨hb2.os, hb2.tape, hb2.output, hb2.size, hb2.block⟩⟩
        · have q8 : ((s.size : Int) != 8) = true := by rw [h]; rfl
          have q12 : ((s.size : Int) != 12) = true := by rw [h]; rfl
          have q13 : ((s.size : Int) != 13) = true := by rw [h]; rfl
          have q14 : ((s.size : Int) != 14) = false := by rw [h]; rfl
          clear h
          go_enter Tryz.func31, Tryz.ntmps31
          go_wp2_with (go_at_call 58; refine (digits_any s _ HS.out).mono ?_; rintro e w1 ⟨rfl, rfl⟩; rw [Hx.out])
          go_region_with (go_at_call 59; refine (HK.out _).mono ?_; rintro e w2 ⟨rfl, hb2⟩)
          all_goals
            go_wp2
            go_ret2
            exact ⟨ret_two HN.out.symm HE.out.symm, ⟨hb2.os, hb2.tape, hb2.output, hb2.size, hb2.block⟩⟩
    | false =>
      have HE : Hid (gtE s = 22) := by show _ = _; unfold gtE; simp [HNF.out, Hx.out]
      have HN : Hid (gtN s = 0) := by show _ = _; unfold gtN; rw [HE.out]; rfl
      rcases hin with h | h | h | h
      · have q8 : ((s.size : Int) != 8) = false := by rw [h]; rfl
        have q12 : ((s.size : Int) != 12) = true := by rw [h]; rfl
        have q13 : ((s.size : Int) != 13) = true := by rw [h]; rfl
        have q14 : ((s.size : Int) != 14) = true := by rw [h]; rfl
        clear h
        go_enter Tryz.func31, Tryz.ntmps31
        go_wp2_with (go_at_call 58; refine (digits_any s _ HS.out).mono ?_; rintro e w1 ⟨rfl, rfl⟩; rw [Hx.out])
        go_ret2
        exact ⟨ret_two HN.out.symm HE.out.symm, HBR.out⟩
      · have q8 : ((s.size : Int) != 8) = true := by rw [h]; rfl
        have q12 : ((s.size : Int) != 12) = false := by rw [h]; rfl
        have q13 : ((s.size : Int) != 13) = true := by rw [h]; rfl
        have q14 : ((s.size : Int) != 14) = true := by rw [h]; rfl
        clear h
        go_enter Tryz.func31, Tryz.ntmps31
        go_wp2_with (go_at_call 58; refine (digits_any s _ HS.out).mono ?_; rintro e w1 ⟨rfl, rfl⟩; rw [Hx.out])
        go_ret2
        exact ⟨ret_two HN.out.symm HE.out.symm, HBR.out⟩
      · have q8 : ((s.size : Int) != 8) = true := by rw [h]; rfl
        have q12 : ((s.size : Int) != 12) = true := by rw [h]; rfl
        have q13 : ((s.size : Int) != 13) = false := by rw [h]; rfl
        have q14 : ((s.size : Int) != 14) = true := by rw [h]; rfl
        clear h
        go_enter Tryz.func31, Tryz.ntmps31
        go_wp2_with (go_at_call 58; refine (digits_any s _ HS.out).mono ?_; rintro e w1 ⟨rfl, rfl⟩; rw [Hx.out])
        go_ret2
        exact ⟨ret_two HN.out.symm HE.out.symm, HBR.out⟩
      · have q8 : ((s.size : Int) != 8) = true := by rw [h]; rfl
        have q12 : ((s.size : Int) != 12) = true := by rw [h]; rfl
        have q13 : ((s.size : Int) != 13) = true := by rw [h]; rfl
        have q14 : ((s.size : Int) != 14) = false := by rw [h]; rfl
        clear h
        go_enter Tryz.func31, Tryz.ntmps31
        go_wp2_with (go_at_call 58; refine (digits_any s _ HS.out).mono ?_; rintro e w1 ⟨rfl, rfl⟩; rw [Hx.out])
        go_ret2
        exact ⟨ret_two HN.out.symm HE.out.symm, HBR.out⟩
  · rw [if_neg (fun h => hin ((has4 _ _ _ _ _).1 h))] at hnf
    have HE : Hid (gtE s = 2) := by show _ = _; unfold gtE; rw [hnf]; rfl
    have HN : Hid (gtN s = 0) := by show _ = _; unfold gtN; rw [HE.out]; rfl
    have n8 := neq_yes (n := s.size) (k := 8) (fun h => hin (Or.inl h))
    have n12 := neq_yes (n := s.size) (k := 12) (fun h => hin (Or.inr (Or.inl h)))
    have n13 := neq_yes (n := s.size) (k := 13) (fun h => hin (Or.inr (Or.inr (Or.inl h))))
    have n14 := neq_yes (n := s.size) (k := 14) (fun h => hin (Or.inr (Or.inr (Or.inr h))))
    clear hin hnf
    go_enter Tryz.func31, Tryz.ntmps31
    go_wp2
    go_ret2
    exact ⟨ret_two HN.out.symm HE.out.symm, HBR.out⟩
end Go.Proofs.YtnlklhjmhienkaaGreatDoor.A
