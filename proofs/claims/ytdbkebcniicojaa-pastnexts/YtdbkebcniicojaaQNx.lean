/- Next of past and of the reference, for any replica and any limit: their contracts. -/
import Derived.Test.YtdbkebcniicojaaQLa
import Derived.Test.YtdbkebcniicojaaPDk
namespace Go.Proofs.Ytdbkebcniicojaa
open Go.RowKit
attribute [local go_sem ↓] ldP_eq stP_eq ldD_eq stD_eq
attribute [local go_sem] zero_PC cells_PV fold_PC PC_size cells_RV RC_size zero_RC fold_RC

theorem build_D (x y : Int) : ((RC rn0).setIfInBounds 0 (.int .i64 x)).setIfInBounds 1 (.int .i64 y) = RC ⟨x, y⟩ := rfl
attribute [local go_sem] build_D
theorem res2D {fn : Func} {p q : Tmp} {w : World} {g : Nat} {T : TypeId} {d : Rn} {v : Value} (h : fn.results = #[.cell p 40, .tmp q]) {tmps : Array Value} (hp : tmps.getD p undef = .pointer (some ⟨g, 0, none⟩)) (hq : tmps.getD q undef = v) (A : Box w g T d) :
    (results fn tmps).run Try.prog w = .ok (.tuple #[RV d, v]) w := by
  have hl : (loadVar 40 ⟨g, 0, none⟩).run Try.prog w = .ok (RV d) w := run_ldD A.at
  simp only [results, h]
  rw [Array.getD_eq_getD_getElem?] at hp hq
  simp [hp, hq, asAddr, hl]
/-- what Next answers -/
def NxtOf (P : Pst) (r lim : Int) (d : Rn) (x : Int) : Prop := (V.isR r = false ∧ d = rn0 ∧ x = 3) ∨ (V.isR r = true ∧ ∃ k, LastOf P r k ∧ ((min lim 1000000000 ≤ k ∧ d = rn0 ∧ x = 9) ∨ (k < min lim 1000000000 ∧ d = ⟨r, k + 1⟩ ∧ x = 0)))
theorem NxtOf.unique {P : Pst} {r lim : Int} {d d' : Rn} {x x' : Int} (h : NxtOf P r lim d x) (h' : NxtOf P r lim d' x') : d = d' ∧ x = x' := by
  rcases h with ⟨h1, h2, h3⟩ | ⟨h1, k, hk, h4⟩ <;> rcases h' with ⟨g1, g2, g3⟩ | ⟨g1, l, hl, g4⟩
  · exact ⟨h2.trans g2.symm, h3.trans g3.symm⟩
  · rw [h1] at g1; cases g1
  · rw [h1] at g1; cases g1
  · obtain rfl := hk.unique hl
    rcases h4 with ⟨a1, a2, a3⟩ | ⟨a1, a2, a3⟩ <;> rcases g4 with ⟨b1, b2, b3⟩ | ⟨b1, b2, b3⟩
    · exact ⟨a2.trans b2.symm, a3.trans b3.symm⟩
    · omega
    · omega
    · exact ⟨a2.trans b2.symm, a3.trans b3.symm⟩
def GivN (w w' : World) (e : Ending) (P : Pst) (r lim : Int) : Prop := ∃ d x, e = .returned (.tuple #[RV d, .int .i64 x]) ∧ NxtOf P r lim d x ∧ Below w.heap.size w w'
theorem LastOf.bd' {P : Pst} {r k : Int} (h : LastOf P r k) : 0 ≤ k ∧ k ≤ 1000000000 := by
  rcases h with ⟨_, h⟩ | ⟨_, h⟩
  · exact h.bd
  · omega
set_option maxRecDepth 100000 in
theorem pastNextF_any (a : Pv) (r lim : Int) (w : World) (hS : PSrc w a) : Calls Try.prog 22 #[PV a, .int .i64 r, .int .i64 lim] w fun e w' => GivN w w' e a.P r lim := by
  have b1 := below_new w (.cells (PC a) 25)
  have b2 := below_new (w.alloc (.cells (PC a) 25)) (.cells (RC rn0) 40)
  have X2 := box_new (w.alloc (.cells (PC a) 25)) 40 rn0
  rw [World.size_alloc] at X2
  have HXA := hide ((pbox_new w a).below b2)
  have HX2 := hide X2
  have HBK := hide (b1.trans (b2.mono b1.size))
  have HS := hide (hS.below HBK.out)
  clear b1 b2 X2 hS
  obtain ⟨wk, hwk⟩ : ∃ wk, (w.alloc (.cells (PC a) 25)).alloc (.cells (RC rn0) 40) = wk := ⟨_, rfl⟩
  rw [hwk] at HXA HX2 HBK HS
  have l1 := run_ldP HXA.out.at
  obtain ⟨x, HR⟩ : ∃ x, Hid (V.isR r = x) := ⟨_, rfl⟩
  cases x with
  | false =>
    have HFN : Hid (NxtOf a.P r lim rn0 3) := Or.inl ⟨HR.out, rfl, rfl⟩
    have s1 := run_stD (r' := rn0) HX2.out
    have HE : Hid (Box (wk.setRow (w.heap.size + 1) (RC rn0)) (w.heap.size + 1) 40 rn0) := HX2.out.setRow
    have HBE := hide (below_setRow (cs := RC rn0) HBK.out (show w.heap.size ≤ w.heap.size + 1 by omega))
    go_enter Try.func22, Try.ntmps22
    go_wp2_with (go_at_call 51; refine (isRepP_any r _).mono ?_; rintro e w' ⟨rfl, rfl⟩; rw [HR.out])
    exact bodyPost_ret (res2D Try.results22 rfl rfl HE.out) rfl ⟨_, _, rfl, HFN.out, HBE.out⟩
  | true =>
    have hrr : ¬ r < 0 := by have := HR.out; simp [V.isR] at this; omega
    have hrq : ¬ (16 : Int) ≤ r := by have := HR.out; simp [V.isR] at this; omega
    go_enter Try.func22, Try.ntmps22
    go_wp2_with (go_at_call 51; refine (isRepP_any r _).mono ?_; rintro e w' ⟨rfl, rfl⟩; rw [HR.out])
    clear hwk
    refine (pastLast_any a r _ HS.out).mono ?_
    rintro e w1 ⟨k, rfl, hk, b3⟩
    have HK := hide hk
    have hkb := hk.bd'
    have HX1 := hide (HX2.out.below b3)
    have HB1 := hide (HBK.out.trans (b3.mono HBK.out.size))
    clear l1 b3 HX2 HBK HXA HS hk
    by_cases hl : 1000000000 < lim
    · by_cases h9 : 1000000000 ≤ k
      · skip
        have s1 := run_stD (r' := rn0) HX1.out
        have HE : Hid (Box (w1.setRow (w.heap.size + 1) (RC rn0)) (w.heap.size + 1) 40 rn0) := HX1.out.setRow
        have HBE := hide (below_setRow (cs := RC rn0) HB1.out (show w.heap.size ≤ w.heap.size + 1 by omega))
        have HFN : Hid (NxtOf a.P r lim rn0 9) := Or.inr ⟨HR.out, k, HK.out, Or.inl ⟨by omega, rfl, rfl⟩⟩
        go_wp2_with fail
        exact bodyPost_ret (res2D Try.results22 rfl rfl HE.out) rfl ⟨_, _, rfl, HFN.out, HBE.out⟩
      · skip
        have s1 := run_stD (r' := ⟨r, k + 1⟩) HX1.out
        have HE : Hid (Box (w1.setRow (w.heap.size + 1) (RC ⟨r, k + 1⟩)) (w.heap.size + 1) 40 ⟨r, k + 1⟩) := HX1.out.setRow
        have HBE := hide (below_setRow (cs := RC ⟨r, k + 1⟩) HB1.out (show w.heap.size ≤ w.heap.size + 1 by omega))
        have HFN : Hid (NxtOf a.P r lim ⟨r, k + 1⟩ 0) := Or.inr ⟨HR.out, k, HK.out, Or.inr ⟨by omega, rfl, rfl⟩⟩
        go_wp2_with fail
        exact bodyPost_ret (res2D Try.results22 rfl rfl HE.out) rfl ⟨_, _, rfl, HFN.out, HBE.out⟩
    · by_cases h9 : lim ≤ k
      · skip
        have s1 := run_stD (r' := rn0) HX1.out
        have HE : Hid (Box (w1.setRow (w.heap.size + 1) (RC rn0)) (w.heap.size + 1) 40 rn0) := HX1.out.setRow
        have HBE := hide (below_setRow (cs := RC rn0) HB1.out (show w.heap.size ≤ w.heap.size + 1 by omega))
        have HFN : Hid (NxtOf a.P r lim rn0 9) := Or.inr ⟨HR.out, k, HK.out, Or.inl ⟨by omega, rfl, rfl⟩⟩
        go_wp2_with fail
        exact bodyPost_ret (res2D Try.results22 rfl rfl HE.out) rfl ⟨_, _, rfl, HFN.out, HBE.out⟩
      · skip
        have s1 := run_stD (r' := ⟨r, k + 1⟩) HX1.out
        have HE : Hid (Box (w1.setRow (w.heap.size + 1) (RC ⟨r, k + 1⟩)) (w.heap.size + 1) 40 ⟨r, k + 1⟩) := HX1.out.setRow
        have HBE := hide (below_setRow (cs := RC ⟨r, k + 1⟩) HB1.out (show w.heap.size ≤ w.heap.size + 1 by omega))
        have HFN : Hid (NxtOf a.P r lim ⟨r, k + 1⟩ 0) := Or.inr ⟨HR.out, k, HK.out, Or.inr ⟨by omega, rfl, rfl⟩⟩
        go_wp2_with fail
        exact bodyPost_ret (res2D Try.results22 rfl rfl HE.out) rfl ⟨_, _, rfl, HFN.out, HBE.out⟩
set_option maxRecDepth 100000 in
theorem refNext_any (a : Pv) (r lim : Int) (w : World) (hS : PSrc w a) : Calls Try.prog 23 #[PV a, .int .i64 r, .int .i64 lim] w fun e w' => GivN w w' e a.P r lim := by
  have b1 := below_new w (.cells (PC a) 25)
  have b2 := below_new (w.alloc (.cells (PC a) 25)) (.cells (RC rn0) 40)
  have X2 := box_new (w.alloc (.cells (PC a) 25)) 40 rn0
  rw [World.size_alloc] at X2
  have HXA := hide ((pbox_new w a).below b2)
  have HX2 := hide X2
  have HBK := hide (b1.trans (b2.mono b1.size))
  have HS := hide (hS.below HBK.out)
  clear b1 b2 X2 hS
  obtain ⟨wk, hwk⟩ : ∃ wk, (w.alloc (.cells (PC a) 25)).alloc (.cells (RC rn0) 40) = wk := ⟨_, rfl⟩
  rw [hwk] at HXA HX2 HBK HS
  have l1 := run_ldP HXA.out.at
  obtain ⟨x, HR⟩ : ∃ x, Hid (V.isR r = x) := ⟨_, rfl⟩
  cases x with
  | false =>
    have HFN : Hid (NxtOf a.P r lim rn0 3) := Or.inl ⟨HR.out, rfl, rfl⟩
    have s1 := run_stD (r' := rn0) HX2.out
    have HE : Hid (Box (wk.setRow (w.heap.size + 1) (RC rn0)) (w.heap.size + 1) 40 rn0) := HX2.out.setRow
    have HBE := hide (below_setRow (cs := RC rn0) HBK.out (show w.heap.size ≤ w.heap.size + 1 by omega))
    by_cases hr0 : r < 0
    · skip
      go_enter Try.func23, Try.ntmps23
      go_wp2_with fail
      exact bodyPost_ret (res2D Try.results23 rfl rfl HE.out) rfl ⟨_, _, rfl, HFN.out, HBE.out⟩
    · have hr1 : (16 : Int) ≤ r := by have := HR.out; simp [V.isR] at this; omega
      go_enter Try.func23, Try.ntmps23
      go_wp2_with fail
      exact bodyPost_ret (res2D Try.results23 rfl rfl HE.out) rfl ⟨_, _, rfl, HFN.out, HBE.out⟩
  | true =>
    have hrr : ¬ r < 0 := by have := HR.out; simp [V.isR] at this; omega
    have hrq : ¬ (16 : Int) ≤ r := by have := HR.out; simp [V.isR] at this; omega
    go_enter Try.func23, Try.ntmps23
    go_wp2_with fail
    clear hwk
    refine (refLast_any a r _ HS.out).mono ?_
    rintro e w1 ⟨k, rfl, hk, b3⟩
    have HK := hide hk
    have hkb := hk.bd'
    have HX1 := hide (HX2.out.below b3)
    have HB1 := hide (HBK.out.trans (b3.mono HBK.out.size))
    clear l1 b3 HX2 HBK HXA HS hk
    by_cases hl : 1000000000 < lim
    · by_cases h9 : 1000000000 ≤ k
      · skip
        have s1 := run_stD (r' := rn0) HX1.out
        have HE : Hid (Box (w1.setRow (w.heap.size + 1) (RC rn0)) (w.heap.size + 1) 40 rn0) := HX1.out.setRow
        have HBE := hide (below_setRow (cs := RC rn0) HB1.out (show w.heap.size ≤ w.heap.size + 1 by omega))
        have HFN : Hid (NxtOf a.P r lim rn0 9) := Or.inr ⟨HR.out, k, HK.out, Or.inl ⟨by omega, rfl, rfl⟩⟩
        go_wp2_with fail
        exact bodyPost_ret (res2D Try.results23 rfl rfl HE.out) rfl ⟨_, _, rfl, HFN.out, HBE.out⟩
      · skip
        have s1 := run_stD (r' := ⟨r, k + 1⟩) HX1.out
        have HE : Hid (Box (w1.setRow (w.heap.size + 1) (RC ⟨r, k + 1⟩)) (w.heap.size + 1) 40 ⟨r, k + 1⟩) := HX1.out.setRow
        have HBE := hide (below_setRow (cs := RC ⟨r, k + 1⟩) HB1.out (show w.heap.size ≤ w.heap.size + 1 by omega))
        have HFN : Hid (NxtOf a.P r lim ⟨r, k + 1⟩ 0) := Or.inr ⟨HR.out, k, HK.out, Or.inr ⟨by omega, rfl, rfl⟩⟩
        go_wp2_with fail
        exact bodyPost_ret (res2D Try.results23 rfl rfl HE.out) rfl ⟨_, _, rfl, HFN.out, HBE.out⟩
    · by_cases h9 : lim ≤ k
      · skip
        have s1 := run_stD (r' := rn0) HX1.out
        have HE : Hid (Box (w1.setRow (w.heap.size + 1) (RC rn0)) (w.heap.size + 1) 40 rn0) := HX1.out.setRow
        have HBE := hide (below_setRow (cs := RC rn0) HB1.out (show w.heap.size ≤ w.heap.size + 1 by omega))
        have HFN : Hid (NxtOf a.P r lim rn0 9) := Or.inr ⟨HR.out, k, HK.out, Or.inl ⟨by omega, rfl, rfl⟩⟩
        go_wp2_with fail
        exact bodyPost_ret (res2D Try.results23 rfl rfl HE.out) rfl ⟨_, _, rfl, HFN.out, HBE.out⟩
      · skip
        have s1 := run_stD (r' := ⟨r, k + 1⟩) HX1.out
        have HE : Hid (Box (w1.setRow (w.heap.size + 1) (RC ⟨r, k + 1⟩)) (w.heap.size + 1) 40 ⟨r, k + 1⟩) := HX1.out.setRow
        have HBE := hide (below_setRow (cs := RC ⟨r, k + 1⟩) HB1.out (show w.heap.size ≤ w.heap.size + 1 by omega))
        have HFN : Hid (NxtOf a.P r lim ⟨r, k + 1⟩ 0) := Or.inr ⟨HR.out, k, HK.out, Or.inr ⟨by omega, rfl, rfl⟩⟩
        go_wp2_with fail
        exact bodyPost_ret (res2D Try.results23 rfl rfl HE.out) rfl ⟨_, _, rfl, HFN.out, HBE.out⟩
end Go.Proofs.Ytdbkebcniicojaa
