/- The reference's Check of acts. -/
import Derived.Test.YtojpjakpcihacaaGreatGCd
namespace Go.Proofs.YtojpjakpcihacaaGreat
open Go.RowKit
attribute [local go_sem ↓] ldP_eq stP_eq ldAc_eq stAc_eq
attribute [local go_sem] cells_PV PC_size cells_AcV AcC_size

set_option maxRecDepth 100000 in
theorem refCheck_lo (k : Int) (s : ByteArray) (q : Int) (p : Pv) (w : World) (hS : PSrc w p) (hs : s.size ≤ maxLen) (hb : k < 1) : Calls Tryz.prog 7 #[AcV (mkA k s q p)] w fun e w' => GivA w w' e k p.P s q := by
  have HA : Hid (AckOf k p.P s q 7) := by obtain ⟨b, hb'⟩ := BIf.ex (InForm p.P); exact ⟨b, hb', by unfold ackF; rw [if_pos (by omega)]⟩
  have HX := hide (AcBox_new w (mkA k s q p))
  have HBK := hide (below_new w (.cells (AcC (mkA k s q p)) 27))
  have HS := hide (hS.below HBK.out)
  obtain ⟨wk, hwk⟩ : ∃ wk, w.alloc (.cells (AcC (mkA k s q p)) 27) = wk := ⟨_, rfl⟩
  rw [hwk] at HX HBK HS
  obtain ⟨c0, c1, c2⟩ := HX.out.k
  have lp := run_ldP HX.out.past
  have HSz := hide hs
  clear hS hs
  go_enter Tryz.func7, Tryz.ntmps7
  go_wp2_with fail
  go_ret
  exact ⟨_, rfl, HA.out, HBK.out⟩
set_option maxRecDepth 100000 in
theorem refCheck_hi (k : Int) (s : ByteArray) (q : Int) (p : Pv) (w : World) (hS : PSrc w p) (hs : s.size ≤ maxLen) (hb : 6 < k) : Calls Tryz.prog 7 #[AcV (mkA k s q p)] w fun e w' => GivA w w' e k p.P s q := by
  have HA : Hid (AckOf k p.P s q 7) := by obtain ⟨b, hb'⟩ := BIf.ex (InForm p.P); exact ⟨b, hb', by unfold ackF; rw [if_pos (by omega)]⟩
  have HX := hide (AcBox_new w (mkA k s q p))
  have HBK := hide (below_new w (.cells (AcC (mkA k s q p)) 27))
  have HS := hide (hS.below HBK.out)
  obtain ⟨wk, hwk⟩ : ∃ wk, w.alloc (.cells (AcC (mkA k s q p)) 27) = wk := ⟨_, rfl⟩
  rw [hwk] at HX HBK HS
  obtain ⟨c0, c1, c2⟩ := HX.out.k
  have lp := run_ldP HX.out.past
  have HSz := hide hs
  clear hS hs
  have h1 : ¬ k < 1 := by omega
  go_enter Tryz.func7, Tryz.ntmps7
  go_wp2_with fail
  go_ret
  exact ⟨_, rfl, HA.out, HBK.out⟩
set_option maxRecDepth 100000 in
set_option maxHeartbeats 1600000 in
theorem refCheck_1 (s : ByteArray) (q : Int) (p : Pv) (w : World) (hS : PSrc w p) (hs : s.size ≤ maxLen) : Calls Tryz.prog 7 #[AcV (mkA 1 s q p)] w fun e w' => GivA w w' e 1 p.P s q := by
  have HX := hide (AcBox_new w (mkA 1 s q p))
  have HBK := hide (below_new w (.cells (AcC (mkA 1 s q p)) 27))
  have HS := hide (hS.below HBK.out)
  obtain ⟨wk, hwk⟩ : ∃ wk, w.alloc (.cells (AcC (mkA 1 s q p)) 27) = wk := ⟨_, rfl⟩
  rw [hwk] at HX HBK HS
  obtain ⟨c0, c1, c2⟩ := HX.out.k
  have lp := run_ldP HX.out.past
  have HSz := hide hs
  clear hS hs
  go_enter Tryz.func7, Tryz.ntmps7
  obtain ⟨b, hb⟩ := BIf.ex (InForm p.P)
  have HBf := hide hb
  clear hb
  go_wp2_with fail
  refine (K.refGood_any s _ HSz.out).mono ?_
  rintro e w' ⟨rfl, rfl⟩
  cases hg : K.good s.data.toList with
  | false =>
    have HA : Hid (AckOf 1 p.P s q 5) := ⟨b, HBf.out, by unfold ackF; simp [hg]⟩
    go_wp2_with fail
    go_ret
    exact ⟨_, rfl, HA.out, HBK.out⟩
  | true =>
    have HG := hide hg
    clear hg
    by_cases h1 : q < 1
    · have HA : Hid (AckOf 1 p.P s q 6) := ⟨b, HBf.out, by unfold ackF; simp [h1, HG.out]⟩
      go_wp2_with fail
      go_ret
      exact ⟨_, rfl, HA.out, HBK.out⟩
    · by_cases h2 : (1000000 : Int) < q
      · have HA : Hid (AckOf 1 p.P s q 6) := ⟨b, HBf.out, by unfold ackF; simp [h2, HG.out]⟩
        go_wp2_with fail
        go_ret
        exact ⟨_, rfl, HA.out, HBK.out⟩
      · have HA : Hid (AckOf 1 p.P s q 0) := ⟨b, HBf.out, by unfold ackF; simp [h1, h2, HG.out]⟩
        go_wp2_with fail
        go_ret
        exact ⟨_, rfl, HA.out, HBK.out⟩
set_option maxRecDepth 100000 in
set_option maxHeartbeats 1600000 in
theorem refCheck_2 (s : ByteArray) (q : Int) (p : Pv) (w : World) (hS : PSrc w p) (hs : s.size ≤ maxLen) : Calls Tryz.prog 7 #[AcV (mkA 2 s q p)] w fun e w' => GivA w w' e 2 p.P s q := by
  have HX := hide (AcBox_new w (mkA 2 s q p))
  have HBK := hide (below_new w (.cells (AcC (mkA 2 s q p)) 27))
  have HS := hide (hS.below HBK.out)
  obtain ⟨wk, hwk⟩ : ∃ wk, w.alloc (.cells (AcC (mkA 2 s q p)) 27) = wk := ⟨_, rfl⟩
  rw [hwk] at HX HBK HS
  obtain ⟨c0, c1, c2⟩ := HX.out.k
  have lp := run_ldP HX.out.past
  have HSz := hide hs
  clear hS hs
  go_enter Tryz.func7, Tryz.ntmps7
  obtain ⟨b, hb⟩ := BIf.ex (InForm p.P)
  have HBf := hide hb
  clear hb
  go_wp2_with fail
  refine (K.refGood_any s _ HSz.out).mono ?_
  rintro e w' ⟨rfl, rfl⟩
  cases hg : K.good s.data.toList with
  | false =>
    have HA : Hid (AckOf 2 p.P s q 5) := ⟨b, HBf.out, by unfold ackF; simp [hg]⟩
    go_wp2_with fail
    go_ret
    exact ⟨_, rfl, HA.out, HBK.out⟩
  | true =>
    have HG := hide hg
    clear hg
    by_cases h1 : q < 1
    · have HA : Hid (AckOf 2 p.P s q 6) := ⟨b, HBf.out, by unfold ackF; simp [h1, HG.out]⟩
      go_wp2_with fail
      go_ret
      exact ⟨_, rfl, HA.out, HBK.out⟩
    · by_cases h2 : (1000000 : Int) < q
      · have HA : Hid (AckOf 2 p.P s q 6) := ⟨b, HBf.out, by unfold ackF; simp [h2, HG.out]⟩
        go_wp2_with fail
        go_ret
        exact ⟨_, rfl, HA.out, HBK.out⟩
      · have HA : Hid (AckOf 2 p.P s q 0) := ⟨b, HBf.out, by unfold ackF; simp [h1, h2, HG.out]⟩
        go_wp2_with fail
        go_ret
        exact ⟨_, rfl, HA.out, HBK.out⟩
set_option maxRecDepth 100000 in
set_option maxHeartbeats 1600000 in
theorem refCheck_3 (s : ByteArray) (q : Int) (p : Pv) (w : World) (hS : PSrc w p) (hs : s.size ≤ maxLen) : Calls Tryz.prog 7 #[AcV (mkA 3 s q p)] w fun e w' => GivA w w' e 3 p.P s q := by
  have HX := hide (AcBox_new w (mkA 3 s q p))
  have HBK := hide (below_new w (.cells (AcC (mkA 3 s q p)) 27))
  have HS := hide (hS.below HBK.out)
  obtain ⟨wk, hwk⟩ : ∃ wk, w.alloc (.cells (AcC (mkA 3 s q p)) 27) = wk := ⟨_, rfl⟩
  rw [hwk] at HX HBK HS
  obtain ⟨c0, c1, c2⟩ := HX.out.k
  have lp := run_ldP HX.out.past
  have HSz := hide hs
  clear hS hs
  go_enter Tryz.func7, Tryz.ntmps7
  obtain ⟨b, hb⟩ := BIf.ex (InForm p.P)
  have HBf := hide hb
  clear hb
  go_wp2_with fail
  refine (K.refGood_any s _ HSz.out).mono ?_
  rintro e w' ⟨rfl, rfl⟩
  cases hg : K.good s.data.toList with
  | false =>
    have HA : Hid (AckOf 3 p.P s q 5) := ⟨b, HBf.out, by unfold ackF; simp [hg]⟩
    go_wp2_with fail
    go_ret
    exact ⟨_, rfl, HA.out, HBK.out⟩
  | true =>
    have HG := hide hg
    clear hg
    have HA : Hid (AckOf 3 p.P s q 0) := ⟨b, HBf.out, by unfold ackF; simp [HG.out]⟩
    go_wp2_with fail
    go_ret
    exact ⟨_, rfl, HA.out, HBK.out⟩
set_option maxRecDepth 100000 in
set_option maxHeartbeats 1600000 in
theorem refCheck_4 (s : ByteArray) (q : Int) (p : Pv) (w : World) (hS : PSrc w p) (hs : s.size ≤ maxLen) : Calls Tryz.prog 7 #[AcV (mkA 4 s q p)] w fun e w' => GivA w w' e 4 p.P s q := by
  have HX := hide (AcBox_new w (mkA 4 s q p))
  have HBK := hide (below_new w (.cells (AcC (mkA 4 s q p)) 27))
  have HS := hide (hS.below HBK.out)
  obtain ⟨wk, hwk⟩ : ∃ wk, w.alloc (.cells (AcC (mkA 4 s q p)) 27) = wk := ⟨_, rfl⟩
  rw [hwk] at HX HBK HS
  obtain ⟨c0, c1, c2⟩ := HX.out.k
  have lp := run_ldP HX.out.past
  have HSz := hide hs
  clear hS hs
  go_enter Tryz.func7, Tryz.ntmps7
  go_wp2_with fail
  refine (refIsNorm_any p _ HS.out).mono ?_
  rintro e w3 ⟨b, rfl, hb, b3⟩
  have HBf := hide hb
  have HB3 := hide (HBK.out.trans (b3.mono HBK.out.size))
  have HX3 := hide (HX.out.below b3)
  clear hb c0 c1 c2 lp
  obtain ⟨c0, c1, c2⟩ := HX3.out.k
  clear b3
  cases b with
  | false =>
    have HA : Hid (AckOf 4 p.P s q 1) := ⟨false, HBf.out, by unfold ackF; simp⟩
    go_wp2_with fail
    go_ret
    exact ⟨_, rfl, HA.out, HB3.out⟩
  | true =>
    go_wp2_with fail
    refine (K.refGood_any s _ HSz.out).mono ?_
    rintro e w' ⟨rfl, rfl⟩
    cases hg : K.good s.data.toList with
    | false =>
      have HA : Hid (AckOf 4 p.P s q 5) := ⟨true, HBf.out, by unfold ackF; simp [hg]⟩
      go_wp2_with fail
      go_ret
      exact ⟨_, rfl, HA.out, HB3.out⟩
    | true =>
      have HG := hide hg
      clear hg
      have HA : Hid (AckOf 4 p.P s q 0) := ⟨true, HBf.out, by unfold ackF; simp [HG.out]⟩
      go_wp2_with fail
      go_ret
      exact ⟨_, rfl, HA.out, HB3.out⟩
set_option maxRecDepth 100000 in
set_option maxHeartbeats 1600000 in
theorem refCheck_5 (s : ByteArray) (q : Int) (p : Pv) (w : World) (hS : PSrc w p) (hs : s.size ≤ maxLen) : Calls Tryz.prog 7 #[AcV (mkA 5 s q p)] w fun e w' => GivA w w' e 5 p.P s q := by
  have HX := hide (AcBox_new w (mkA 5 s q p))
  have HBK := hide (below_new w (.cells (AcC (mkA 5 s q p)) 27))
  have HS := hide (hS.below HBK.out)
  obtain ⟨wk, hwk⟩ : ∃ wk, w.alloc (.cells (AcC (mkA 5 s q p)) 27) = wk := ⟨_, rfl⟩
  rw [hwk] at HX HBK HS
  obtain ⟨c0, c1, c2⟩ := HX.out.k
  have lp := run_ldP HX.out.past
  have HSz := hide hs
  clear hS hs
  go_enter Tryz.func7, Tryz.ntmps7
  obtain ⟨b, hb⟩ := BIf.ex (InForm p.P)
  have HBf := hide hb
  clear hb
  have HA : Hid (AckOf 5 p.P s q 0) := ⟨b, HBf.out, by unfold ackF; simp⟩
  go_wp2_with fail
  go_ret
  exact ⟨_, rfl, HA.out, HBK.out⟩
set_option maxRecDepth 100000 in
set_option maxHeartbeats 1600000 in
theorem refCheck_6 (s : ByteArray) (q : Int) (p : Pv) (w : World) (hS : PSrc w p) (hs : s.size ≤ maxLen) : Calls Tryz.prog 7 #[AcV (mkA 6 s q p)] w fun e w' => GivA w w' e 6 p.P s q := by
  have HX := hide (AcBox_new w (mkA 6 s q p))
  have HBK := hide (below_new w (.cells (AcC (mkA 6 s q p)) 27))
  have HS := hide (hS.below HBK.out)
  obtain ⟨wk, hwk⟩ : ∃ wk, w.alloc (.cells (AcC (mkA 6 s q p)) 27) = wk := ⟨_, rfl⟩
  rw [hwk] at HX HBK HS
  obtain ⟨c0, c1, c2⟩ := HX.out.k
  have lp := run_ldP HX.out.past
  have HSz := hide hs
  clear hS hs
  go_enter Tryz.func7, Tryz.ntmps7
  go_wp2_with fail
  refine (refIsNorm_any p _ HS.out).mono ?_
  rintro e w3 ⟨b, rfl, hb, b3⟩
  have HBf := hide hb
  have HB3 := hide (HBK.out.trans (b3.mono HBK.out.size))
  have HX3 := hide (HX.out.below b3)
  clear hb c0 c1 c2 lp
  obtain ⟨c0, c1, c2⟩ := HX3.out.k
  clear b3
  cases b with
  | false =>
    have HA : Hid (AckOf 6 p.P s q 1) := ⟨false, HBf.out, by unfold ackF; simp⟩
    go_wp2_with fail
    go_ret
    exact ⟨_, rfl, HA.out, HB3.out⟩
  | true =>
    have HA : Hid (AckOf 6 p.P s q 0) := ⟨true, HBf.out, by unfold ackF; simp⟩
    go_wp2_with fail
    go_ret
    exact ⟨_, rfl, HA.out, HB3.out⟩
theorem refActCheck_any (k : Int) (s : ByteArray) (q : Int) (p : Pv) (w : World) (hS : PSrc w p) (hs : s.size ≤ maxLen) : Calls Tryz.prog 7 #[AcV (mkA k s q p)] w fun e w' => GivA w w' e k p.P s q := by
  by_cases hb : k < 1
  · exact refCheck_lo k s q p w hS hs hb
  by_cases hb2 : 6 < k
  · exact refCheck_hi k s q p w hS hs hb2
  have : k = 1 ∨ k = 2 ∨ k = 3 ∨ k = 4 ∨ k = 5 ∨ k = 6 := by omega
  rcases this with rfl | rfl | rfl | rfl | rfl | rfl
  · exact refCheck_1 s q p w hS hs
  · exact refCheck_2 s q p w hS hs
  · exact refCheck_3 s q p w hS hs
  · exact refCheck_4 s q p w hS hs
  · exact refCheck_5 s q p w hS hs
  · exact refCheck_6 s q p w hS hs
end Go.Proofs.YtojpjakpcihacaaGreat
