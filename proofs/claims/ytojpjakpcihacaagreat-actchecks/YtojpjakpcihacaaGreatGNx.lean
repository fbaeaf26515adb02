/- Next of act and of its reference. -/
import Derived.Test.YtojpjakpcihacaaGreatGIn
import Derived.Test.YtojpjakpcihacaaGreatQNy
namespace Go.Proofs.YtojpjakpcihacaaGreat
open Go.RowKit
attribute [local go_sem ↓] ldP_eq stP_eq ldD_eq stD_eq
attribute [local go_sem] zero_PC cells_PV fold_PC PC_size cells_RV RC_size zero_RC fold_RC build_D

/-- what act's Next answers -/
def NxF (P : Pst) (r lim : Int) (d : Rn) (x : Int) : Prop := (¬ InForm P ∧ d = rn0 ∧ x = 1) ∨ (InForm P ∧ NxtOf P r lim d x)
theorem NxF.unique {P : Pst} {r lim : Int} {d d' : Rn} {x x' : Int} (h : NxF P r lim d x) (h' : NxF P r lim d' x') : d = d' ∧ x = x' := by
  rcases h with ⟨h1, h2, h3⟩ | ⟨h1, h2⟩ <;> rcases h' with ⟨g1, g2, g3⟩ | ⟨g1, g2⟩
  · exact ⟨h2.trans g2.symm, h3.trans g3.symm⟩
  · exact absurd g1 h1
  · exact absurd h1 g1
  · exact h2.unique g2
def GivX (w w' : World) (e : Ending) (P : Pst) (r lim : Int) : Prop := ∃ d x, e = .returned (.tuple #[RV d, .int .i64 x]) ∧ NxF P r lim d x ∧ Below w.heap.size w w'
set_option maxRecDepth 100000 in
set_option maxHeartbeats 800000 in
theorem actNext_any (a : Pv) (r lim : Int) (w : World) (hS : PSrc w a) : Calls Tryz.prog 5 #[PV a, .int .i64 r, .int .i64 lim] w fun e w' => GivX w w' e a.P r lim := by
  have b1 := below_new w (.cells (PC a) 25)
  have b2 := below_new (w.alloc (.cells (PC a) 25)) (.cells (RC rn0) 29)
  have X2 := box_new (w.alloc (.cells (PC a) 25)) 29 rn0
  rw [World.size_alloc] at X2
  have HXA := hide ((pbox_new w a).below b2)
  have HX2 := hide X2
  have HBK := hide (b1.trans (b2.mono b1.size))
  have HS := hide (hS.below HBK.out)
  clear b1 b2 X2 hS
  obtain ⟨wk, hwk⟩ : ∃ wk, (w.alloc (.cells (PC a) 25)).alloc (.cells (RC rn0) 29) = wk := ⟨_, rfl⟩
  rw [hwk] at HXA HX2 HBK HS
  have l1 := run_ldP HXA.out.at
  go_enter Tryz.func5, Tryz.ntmps5
  go_wp2_with fail
  clear hwk
  refine (isNormP_any a _ HS.out).mono ?_
  rintro e w2 ⟨x, rfl, hx, b3⟩
  have HB3 := hide (HBK.out.trans (b3.mono HBK.out.size))
  have HX3 := hide (HX2.out.below b3)
  have l2 := run_ldP (HXA.out.below b3).at
  have HS3 := hide (HS.out.below b3)
  clear l1 b3 HX2 HBK HXA HS
  cases x with
  | false =>
    have HN : Hid (¬ InForm a.P) := fun h => by have := hx.out.2 h; cases this
    have s1 := run_stD (r' := rn0) HX3.out
    have HE : Hid (Box (w2.setRow (w.heap.size + 1) (RC rn0)) (w.heap.size + 1) 29 rn0) := HX3.out.setRow
    have HBE := hide (below_setRow (cs := RC rn0) HB3.out (show w.heap.size ≤ w.heap.size + 1 by omega))
    clear hx
    go_wp2_with fail
    exact bodyPost_ret (res2D Tryz.results5 rfl rfl HE.out) rfl ⟨_, _, rfl, Or.inl ⟨HN.out, rfl, rfl⟩, HBE.out⟩
  | true =>
    have HY : Hid (InForm a.P) := hx.out.1 rfl
    clear hx
    go_wp2_with fail
    refine (pastNextF_any a r lim _ HS3.out).mono ?_
    rintro e w4 ⟨d, x, rfl, hd, b4⟩
    have HD := hide hd
    have HX4 := hide (HX3.out.below b4)
    have s1 := run_stD (r' := d) HX4.out
    have HE : Hid (Box (w4.setRow (w.heap.size + 1) (RC d)) (w.heap.size + 1) 29 d) := HX4.out.setRow
    have HBE := hide (below_setRow (cs := RC d) (HB3.out.trans (b4.mono HB3.out.size)) (show w.heap.size ≤ w.heap.size + 1 by omega))
    clear hd b4 l2
    go_wp2_with fail
    exact bodyPost_ret (res2D Tryz.results5 rfl rfl HE.out) rfl ⟨_, _, rfl, Or.inr ⟨HY.out, HD.out⟩, HBE.out⟩
set_option maxRecDepth 100000 in
set_option maxHeartbeats 1600000 in
theorem refActNext_any (a : Pv) (r lim : Int) (w : World) (hS : PSrc w a) : Calls Tryz.prog 8 #[PV a, .int .i64 r, .int .i64 lim] w fun e w' => GivX w w' e a.P r lim := by
  have b1 := below_new w (.cells (PC a) 25)
  have b2 := below_new (w.alloc (.cells (PC a) 25)) (.cells (RC rn0) 29)
  have X2 := box_new (w.alloc (.cells (PC a) 25)) 29 rn0
  rw [World.size_alloc] at X2
  have HXA := hide ((pbox_new w a).below b2)
  have HX2 := hide X2
  have HBK := hide (b1.trans (b2.mono b1.size))
  have HS := hide (hS.below HBK.out)
  clear b1 b2 X2 hS
  obtain ⟨wk, hwk⟩ : ∃ wk, (w.alloc (.cells (PC a) 25)).alloc (.cells (RC rn0) 29) = wk := ⟨_, rfl⟩
  rw [hwk] at HXA HX2 HBK HS
  have l1 := run_ldP HXA.out.at
  go_enter Tryz.func8, Tryz.ntmps8
  go_wp2_with fail
  clear hwk
  refine (refIsNorm_any a _ HS.out).mono ?_
  rintro e w2 ⟨x, rfl, hx, b3⟩
  have HB3 := hide (HBK.out.trans (b3.mono HBK.out.size))
  have HX3 := hide (HX2.out.below b3)
  have l2 := run_ldP (HXA.out.below b3).at
  have HS3 := hide (HS.out.below b3)
  clear l1 b3 HX2 HBK HXA HS
  cases x with
  | false =>
    have HN : Hid (¬ InForm a.P) := fun h => by have := hx.out.2 h; cases this
    have s1 := run_stD (r' := rn0) HX3.out
    have HE : Hid (Box (w2.setRow (w.heap.size + 1) (RC rn0)) (w.heap.size + 1) 29 rn0) := HX3.out.setRow
    have HBE := hide (below_setRow (cs := RC rn0) HB3.out (show w.heap.size ≤ w.heap.size + 1 by omega))
    clear hx
    go_wp2_with fail
    exact bodyPost_ret (res2D Tryz.results8 rfl rfl HE.out) rfl ⟨_, _, rfl, Or.inl ⟨HN.out, rfl, rfl⟩, HBE.out⟩
  | true =>
    have HY : Hid (InForm a.P) := hx.out.1 rfl
    clear hx
    obtain ⟨x, HR⟩ : ∃ x, Hid (V.isR r = x) := ⟨_, rfl⟩
    cases x with
    | false =>
      by_cases hr0 : r < 0
      · skip
        have s1 := run_stD (r' := rn0) HX3.out
        have HE : Hid (Box (w2.setRow (w.heap.size + 1) (RC rn0)) (w.heap.size + 1) 29 rn0) := HX3.out.setRow
        have HBE := hide (below_setRow (cs := RC rn0) HB3.out (show w.heap.size ≤ w.heap.size + 1 by omega))
        have HFN : Hid (NxtOf a.P r lim rn0 3) := Or.inl ⟨HR.out, rfl, rfl⟩
        go_wp2_with fail
        exact bodyPost_ret (res2D Tryz.results8 rfl rfl HE.out) rfl ⟨_, _, rfl, Or.inr ⟨HY.out, HFN.out⟩, HBE.out⟩
      · have hr1 : (16 : Int) ≤ r := by have := HR.out; simp [V.isR] at this; omega
        have s1 := run_stD (r' := rn0) HX3.out
        have HE : Hid (Box (w2.setRow (w.heap.size + 1) (RC rn0)) (w.heap.size + 1) 29 rn0) := HX3.out.setRow
        have HBE := hide (below_setRow (cs := RC rn0) HB3.out (show w.heap.size ≤ w.heap.size + 1 by omega))
        have HFN : Hid (NxtOf a.P r lim rn0 3) := Or.inl ⟨HR.out, rfl, rfl⟩
        go_wp2_with fail
        exact bodyPost_ret (res2D Tryz.results8 rfl rfl HE.out) rfl ⟨_, _, rfl, Or.inr ⟨HY.out, HFN.out⟩, HBE.out⟩
    | true =>
      have hrr : ¬ r < 0 := by have := HR.out; simp [V.isR] at this; omega
      have hrq : ¬ (16 : Int) ≤ r := by have := HR.out; simp [V.isR] at this; omega
      go_wp2_with fail
      refine (refLast_any a r _ HS3.out).mono ?_
      rintro e w4 ⟨k, rfl, hk, b4⟩
      have HK := hide hk
      have hkb := hk.bd'
      have HX4 := hide (HX3.out.below b4)
      have HB4 := hide (HB3.out.trans (b4.mono HB3.out.size))
      clear l2 b4 HX3 HB3 HS3 hk
      by_cases h8 : lim ≤ k
      · skip
        have s1 := run_stD (r' := rn0) HX4.out
        have HE : Hid (Box (w4.setRow (w.heap.size + 1) (RC rn0)) (w.heap.size + 1) 29 rn0) := HX4.out.setRow
        have HBE := hide (below_setRow (cs := RC rn0) HB4.out (show w.heap.size ≤ w.heap.size + 1 by omega))
        have HFN : Hid (NxtOf a.P r lim rn0 9) := Or.inr ⟨HR.out, k, HK.out, Or.inl ⟨by omega, rfl, rfl⟩⟩
        go_wp2_with fail
        exact bodyPost_ret (res2D Tryz.results8 rfl rfl HE.out) rfl ⟨_, _, rfl, Or.inr ⟨HY.out, HFN.out⟩, HBE.out⟩
      · by_cases h9 : (1000000000 : Int) ≤ k
        · skip
          have s1 := run_stD (r' := rn0) HX4.out
          have HE : Hid (Box (w4.setRow (w.heap.size + 1) (RC rn0)) (w.heap.size + 1) 29 rn0) := HX4.out.setRow
          have HBE := hide (below_setRow (cs := RC rn0) HB4.out (show w.heap.size ≤ w.heap.size + 1 by omega))
          have HFN : Hid (NxtOf a.P r lim rn0 9) := Or.inr ⟨HR.out, k, HK.out, Or.inl ⟨by omega, rfl, rfl⟩⟩
          go_wp2_with fail
          exact bodyPost_ret (res2D Tryz.results8 rfl rfl HE.out) rfl ⟨_, _, rfl, Or.inr ⟨HY.out, HFN.out⟩, HBE.out⟩
        · have hw : wrap64 (k + 1) = k + 1 := by unfold wrap64; omega
          have s1 := run_stD (r' := ⟨r, k + 1⟩) HX4.out
          have HE : Hid (Box (w4.setRow (w.heap.size + 1) (RC ⟨r, k + 1⟩)) (w.heap.size + 1) 29 ⟨r, k + 1⟩) := HX4.out.setRow
          have HBE := hide (below_setRow (cs := RC ⟨r, k + 1⟩) HB4.out (show w.heap.size ≤ w.heap.size + 1 by omega))
          have HFN : Hid (NxtOf a.P r lim ⟨r, k + 1⟩ 0) := Or.inr ⟨HR.out, k, HK.out, Or.inr ⟨by omega, rfl, rfl⟩⟩
          go_wp2_with fail
          exact bodyPost_ret (res2D Tryz.results8 rfl rfl HE.out) rfl ⟨_, _, rfl, Or.inr ⟨HY.out, HFN.out⟩, HBE.out⟩
end Go.Proofs.YtojpjakpcihacaaGreat
