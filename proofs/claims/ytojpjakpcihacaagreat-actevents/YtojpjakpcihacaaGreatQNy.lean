/- Next of past and of the reference, for any replica and any limit: their contracts. -/
import Derived.Test.YtojpjakpcihacaaGreatQRn
import Derived.Test.YtojpjakpcihacaaGreatPLs
import Derived.Test.YtojpjakpcihacaaGreatPDk

namespace Go.Proofs.YtojpjakpcihacaaGreat
open Go.RowKit
attribute [local go_sem ↓] ldP_eq stP_eq ldJ_eq stJ_eq
attribute [local go_sem] zeros_JA cells_JAv zero_PC cells_PV fold_PC PC_size fold_PC1

theorem tn_most {G N : List Rn} (h : NormOf G N) : (N = [] ∧ Most G 0) ∨ (N ≠ [] ∧ ∃ t, (tn N).length = t + 2 ∧ Most G ((tn N).getD (t + 1) 0 - 1)) := by
  rcases List.eq_nil_or_concat N with e | ⟨i, r, e⟩
  · subst e
    exact Or.inl ⟨rfl, (Most.start).congr h.2⟩
  · rw [List.concat_eq_append] at e
    subst e
    refine Or.inr ⟨by simp, 2 * i.length, by rw [tn_length]; simp; omega, ?_⟩
    have e2 : (tn (i ++ [r])).getD (2 * i.length + 1) 0 = r.hi + 1 := by
      rw [tn_snoc, ← tn_length]
      simp [List.getD]
    rw [e2, Int.add_sub_cancel]
    exact (Most.last h.1).congr h.2
set_option maxRecDepth 100000 in
set_option maxHeartbeats 400000 in
theorem refLast_any (a : Pv) (r : Int) (w : World) (hS : PSrc w a) : Calls Tryz.prog 22 #[PV a, .int .i64 r] w fun e w' => GivesZ w w' e (LastOf a.P r) := by
  have b1 := below_new w (.cells (PC a) 25)
  have HX := hide (pbox_new w a)
  have HBK := hide b1
  have HS := hide (hS.below b1)
  have l0 := run_ldP HX.out.at
  clear hS b1
  obtain ⟨wk, hwk⟩ : ∃ wk, w.alloc (.cells (PC a) 25) = wk := ⟨_, rfl⟩
  rw [hwk] at HBK HX HS l0
  by_cases hr0 : 0 ≤ r
  · by_cases hr1 : r < 16
    · obtain ⟨y, rfl⟩ : ∃ y : Nat, r = y := ⟨r.toNat, by omega⟩
      have hy : y < 16 := by omega
      have hrr : ¬ (y : Int) < 0 := by omega
      have hrq : ¬ (16 : Int) ≤ (y : Int) := by omega
      have HY : Hid (V.isR (y : Int) = true) := by show _ = _; simp [V.isR]; omega
      go_enter Tryz.func22, Tryz.ntmps22
      go_wp2_with fail
      clear hwk
      refine (one_any a _ HS.out).mono ?_
      rintro e w2 ⟨T, N, rfl, hT, b2⟩
      obtain ⟨h1, h2, h3⟩ := hT y hy
      have b3 := below_new w2 (.cells (JA fun _ => si0) 65)
      have X3 := isets_new w2 65 (fun _ => si0)
      have hst := run_stJ (F' := T) X3
      have X4 := ISets.setRow (F' := T) X3
      have b4 := below_setRow (cs := JA T) b3 (Nat.le_refl _)
      have HS4 := hide (h1.below b4)
      have HB4 := hide ((HBK.out.trans (b2.mono HBK.out.size)).trans (b4.mono (Nat.le_trans HBK.out.size b2.size)))
      have HN3 := hide h3
      have c4 := X4.cell y hy
      obtain ⟨ta, tt, tc, hf⟩ : ∃ ta tt tc, (T y).ao = ta ∧ (T y).n = tt ∧ (T y).cap = tc := ⟨_, _, _, rfl, rfl, rfl⟩
      rw [hf.1, hf.2.1, hf.2.2] at HS4 c4
      have y0 : (0 : Int) ≤ (y : Int) := by omega
      have y1 : (y : Int) < 16 := by omega
      clear h1 h2 h3 hT b2 b3 b4 X3 X4 l0 hf
      have htl := HS4.out.1
      rcases tn_most HN3.out with ⟨e0, hm⟩ | ⟨e0, t, ht, hm⟩
      · rw [e0] at htl
        obtain rfl : tt = 0 := htl.symm
        have HF : Hid (LastOf a.P y 0) := Or.inl ⟨HY.out, hm⟩
        clear hm e0 htl
        go_wp2_with fail
        go_ret
        exact ⟨0, rfl, HF.out, HB4.out⟩
      · have htb : tt ≤ 1000000002 := by have h1 := form_small (Int.le_refl _) HN3.out.1; have h2 := tn_length (N y); omega
        obtain ⟨u, hu⟩ : ∃ u, u = t + 1 := ⟨_, rfl⟩
        rw [← hu] at hm
        obtain ⟨ad, had, cz⟩ := isrc_at HS4.out u (by omega)
        subst had
        have hzb := hm.bd
        obtain ⟨z, Hz⟩ : ∃ z, Hid ((tn (N y)).getD u 0 = z) := ⟨_, rfl⟩
        rw [Hz.out] at cz hm hzb
        have HF : Hid (LastOf a.P y (z - 1)) := Or.inl ⟨HY.out, hm⟩
        have ew : IntKind.i64.wrap ((tt : Int) - 1) = (u : Int) := by rw [IntKind.wrap_i64]; omega
        have ez : IntKind.i64.wrap (z - 1) = z - 1 := by rw [IntKind.wrap_i64]; omega
        have hn0 : ¬ (tt : Int) = 0 := by omega
        have hut : (u : Int) < (tt : Int) := by omega
        clear hm e0 ht htl hu t
        go_wp2_with fail
        go_ret
        exact ⟨z - 1, by first | rfl | rw [ez], HF.out, HB4.out⟩
    · have HF : Hid (LastOf a.P r 0) := Or.inr ⟨by simp [V.isR]; omega, rfl⟩
      have hrr : ¬ r < 0 := by omega
      have hrq : (16 : Int) ≤ r := by omega
      go_enter Tryz.func22, Tryz.ntmps22
      go_wp2_with fail
      go_ret
      exact ⟨0, rfl, HF.out, HBK.out⟩
  · have HF : Hid (LastOf a.P r 0) := Or.inr ⟨by simp [V.isR]; omega, rfl⟩
    have hrr : r < 0 := by omega
    go_enter Tryz.func22, Tryz.ntmps22
    go_wp2_with fail
    go_ret
    exact ⟨0, rfl, HF.out, HBK.out⟩
end Go.Proofs.YtojpjakpcihacaaGreat

namespace Go.Proofs.YtojpjakpcihacaaGreat
open Go.RowKit
attribute [local go_sem ↓] ldP_eq stP_eq ldD_eq stD_eq
attribute [local go_sem] zero_PC cells_PV fold_PC PC_size cells_RV RC_size zero_RC fold_RC

theorem build_D (x y : Int) : ((RC rn0).setIfInBounds 0 (.int .i64 x)).setIfInBounds 1 (.int .i64 y) = RC ⟨x, y⟩ := rfl
attribute [local go_sem] build_D
theorem res2D {fn : Func} {p q : Tmp} {w : World} {g : Nat} {T : TypeId} {d : Rn} {v : Value} (h : fn.results = #[.cell p 29, .tmp q]) {tmps : Array Value} (hp : tmps.getD p undef = .pointer (some ⟨g, 0, none⟩)) (hq : tmps.getD q undef = v) (A : Box w g T d) :
    (results fn tmps).run Tryz.prog w = .ok (.tuple #[RV d, v]) w := by
  have hl : (loadVar 29 ⟨g, 0, none⟩).run Tryz.prog w = .ok (RV d) w := run_ldD A.at
  simp only [results, h]
  rw [Array.getD_eq_getD_getElem?] at hp hq
  simp [hp, hq, asAddr, hl]
/-- what Next answers -/
def NxtOf (P : Pst) (r lim : Int) (d : Rn) (x : Int) : Prop := (V.isR r = false ∧ d = rn0 ∧ x = 3) ∨ (V.isR r = true ∧ ∃ k, LastOf P r k ∧ ((min lim 1000000000 ≤ k ∧ d = rn0 ∧ x = 9) ∨ (k < min lim 1000000000 ∧ d = ⟨r, k + 1⟩ ∧ x = 0)))
theorem NxtOf.unique {P : Pst} {r lim : Int} {d d' : Rn} {x x' : Int} (h : NxtOf P r lim d x) (h' : NxtOf P r lim d' x') : d = d' ∧ x = x' := by
  rcases h with ⟨h1, h2, h3⟩ | ⟨h1, k, hk, h4⟩ <;> rcases h' with ⟨g1, g2, g3⟩ | ⟨g1, l, hl, g4⟩
  · exact ⟨h2.trans g2.symm, h3.trans g3.symm⟩
  · rw [h1] at g1; cases g1
  · rw [h1] at g1; cases g1
  · obtain rfl := hk.unique hl
    rcases h4 with ⟨a1, a2, a3⟩ | ⟨a1, a2, a3⟩ <;> rcases g4 with ⟨b1, b2, b3⟩ | ⟨b1, b2, b3⟩
    · exact ⟨a2.trans b2.symm, a3.trans b3.symm⟩
    · omega
    · omega
    · exact ⟨a2.trans b2.symm, a3.trans b3.symm⟩
def GivN (w w' : World) (e : Ending) (P : Pst) (r lim : Int) : Prop := ∃ d x, e = .returned (.tuple #[RV d, .int .i64 x]) ∧ NxtOf P r lim d x ∧ Below w.heap.size w w'
theorem LastOf.bd' {P : Pst} {r k : Int} (h : LastOf P r k) : 0 ≤ k ∧ k ≤ 1000000000 := by
  rcases h with ⟨_, h⟩ | ⟨_, h⟩
  · exact h.bd
  · omega
set_option maxRecDepth 100000 in
theorem pastNextF_any (a : Pv) (r lim : Int) (w : World) (hS : PSrc w a) : Calls Tryz.prog 14 #[PV a, .int .i64 r, .int .i64 lim] w fun e w' => GivN w w' e a.P r lim := by
  have b1 := below_new w (.cells (PC a) 25)
  have b2 := below_new (w.alloc (.cells (PC a) 25)) (.cells (RC rn0) 29)
  have X2 := box_new (w.alloc (.cells (PC a) 25)) 29 rn0
  rw [World.size_alloc] at X2
  have HXA := hide ((pbox_new w a).below b2)
  have HX2 := hide X2
  have HBK := hide (b1.trans (b2.mono b1.size))
  have HS := hide (hS.below HBK.out)
  clear b1 b2 X2 hS
  obtain ⟨wk, hwk⟩ : ∃ wk, (w.alloc (.cells (PC a) 25)).alloc (.cells (RC rn0) 29) = wk := ⟨_, rfl⟩
  rw [hwk] at HXA HX2 HBK HS
  have l1 := run_ldP HXA.out.at
  obtain ⟨x, HR⟩ : ∃ x, Hid (V.isR r = x) := ⟨_, rfl⟩
  cases x with
  | false =>
    have HFN : Hid (NxtOf a.P r lim rn0 3) := Or.inl ⟨HR.out, rfl, rfl⟩
    have s1 := run_stD (r' := rn0) HX2.out
    have HE : Hid (Box (wk.setRow (w.heap.size + 1) (RC rn0)) (w.heap.size + 1) 29 rn0) := HX2.out.setRow
    have HBE := hide (below_setRow (cs := RC rn0) HBK.out (show w.heap.size ≤ w.heap.size + 1 by omega))
    go_enter Tryz.func14, Tryz.ntmps14
    go_wp2_with (go_at_call 31; refine (isRepP_any r _).mono ?_; rintro e w' ⟨rfl, rfl⟩; rw [HR.out])
    exact bodyPost_ret (res2D Tryz.results14 rfl rfl HE.out) rfl ⟨_, _, rfl, HFN.out, HBE.out⟩
  | true =>
    have hrr : ¬ r < 0 := by have := HR.out; simp [V.isR] at this; omega
    have hrq : ¬ (16 : Int) ≤ r := by have := HR.out; simp [V.isR] at this; omega
    go_enter Tryz.func14, Tryz.ntmps14
    go_wp2_with (go_at_call 31; refine (isRepP_any r _).mono ?_; rintro e w' ⟨rfl, rfl⟩; rw [HR.out])
    clear hwk
    refine (pastLast_any a r _ HS.out).mono ?_
    rintro e w1 ⟨k, rfl, hk, b3⟩
    have HK := hide hk
    have hkb := hk.bd'
    have HX1 := hide (HX2.out.below b3)
    have HB1 := hide (HBK.out.trans (b3.mono HBK.out.size))
    clear l1 b3 HX2 HBK HXA HS hk
    by_cases hl : 1000000000 < lim
    · by_cases h9 : 1000000000 ≤ k
      · skip
        have s1 := run_stD (r' := rn0) HX1.out
        have HE : Hid (Box (w1.setRow (w.heap.size + 1) (RC rn0)) (w.heap.size + 1) 29 rn0) := HX1.out.setRow
        have HBE := hide (below_setRow (cs := RC rn0) HB1.out (show w.heap.size ≤ w.heap.size + 1 by omega))
        have HFN : Hid (NxtOf a.P r lim rn0 9) := Or.inr ⟨HR.out, k, HK.out, Or.inl ⟨by omega, rfl, rfl⟩⟩
        go_wp2_with fail
        exact bodyPost_ret (res2D Tryz.results14 rfl rfl HE.out) rfl ⟨_, _, rfl, HFN.out, HBE.out⟩
      · skip
        have s1 := run_stD (r' := ⟨r, k + 1⟩) HX1.out
        have HE : Hid (Box (w1.setRow (w.heap.size + 1) (RC ⟨r, k + 1⟩)) (w.heap.size + 1) 29 ⟨r, k + 1⟩) := HX1.out.setRow
        have HBE := hide (below_setRow (cs := RC ⟨r, k + 1⟩) HB1.out (show w.heap.size ≤ w.heap.size + 1 by omega))
        have HFN : Hid (NxtOf a.P r lim ⟨r, k + 1⟩ 0) := Or.inr ⟨HR.out, k, HK.out, Or.inr ⟨by omega, rfl, rfl⟩⟩
        go_wp2_with fail
        exact bodyPost_ret (res2D Tryz.results14 rfl rfl HE.out) rfl ⟨_, _, rfl, HFN.out, HBE.out⟩
    · by_cases h9 : lim ≤ k
      · skip
        have s1 := run_stD (r' := rn0) HX1.out
        have HE : Hid (Box (w1.setRow (w.heap.size + 1) (RC rn0)) (w.heap.size + 1) 29 rn0) := HX1.out.setRow
        have HBE := hide (below_setRow (cs := RC rn0) HB1.out (show w.heap.size ≤ w.heap.size + 1 by omega))
        have HFN : Hid (NxtOf a.P r lim rn0 9) := Or.inr ⟨HR.out, k, HK.out, Or.inl ⟨by omega, rfl, rfl⟩⟩
        go_wp2_with fail
        exact bodyPost_ret (res2D Tryz.results14 rfl rfl HE.out) rfl ⟨_, _, rfl, HFN.out, HBE.out⟩
      · skip
        have s1 := run_stD (r' := ⟨r, k + 1⟩) HX1.out
        have HE : Hid (Box (w1.setRow (w.heap.size + 1) (RC ⟨r, k + 1⟩)) (w.heap.size + 1) 29 ⟨r, k + 1⟩) := HX1.out.setRow
        have HBE := hide (below_setRow (cs := RC ⟨r, k + 1⟩) HB1.out (show w.heap.size ≤ w.heap.size + 1 by omega))
        have HFN : Hid (NxtOf a.P r lim ⟨r, k + 1⟩ 0) := Or.inr ⟨HR.out, k, HK.out, Or.inr ⟨by omega, rfl, rfl⟩⟩
        go_wp2_with fail
        exact bodyPost_ret (res2D Tryz.results14 rfl rfl HE.out) rfl ⟨_, _, rfl, HFN.out, HBE.out⟩
end Go.Proofs.YtojpjakpcihacaaGreat
