/- The reference's one and Last: their contracts. -/
import Derived.Test.YtdbkebcniicojaaQMe
import Derived.Test.YtdbkebcniicojaaPLs
namespace Go.Proofs.Ytdbkebcniicojaa
open Go.RowKit
attribute [local go_sem ↓] ldP_eq stP_eq ldJ_eq stJ_eq
attribute [local go_sem] zeros_JA cells_JAv zero_PC cells_PV fold_PC PC_size fold_PC1

theorem tn_most {G N : List Rn} (h : NormOf G N) : (N = [] ∧ Most G 0) ∨ (N ≠ [] ∧ ∃ t, (tn N).length = t + 2 ∧ Most G ((tn N).getD (t + 1) 0 - 1)) := by
  rcases List.eq_nil_or_concat N with e | ⟨i, r, e⟩
  · subst e
    exact Or.inl ⟨rfl, (Most.start).congr h.2⟩
  · rw [List.concat_eq_append] at e
    subst e
    refine Or.inr ⟨by simp, 2 * i.length, by rw [tn_length]; simp; omega, ?_⟩
    have e2 : (tn (i ++ [r])).getD (2 * i.length + 1) 0 = r.hi + 1 := by
      rw [tn_snoc, ← tn_length]
      simp [List.getD]
    rw [e2, Int.add_sub_cancel]
    exact (Most.last h.1).congr h.2
set_option maxRecDepth 100000 in
set_option maxHeartbeats 400000 in
theorem one_any (a : Pv) (w : World) (hS : PSrc w a) : Calls Try.prog 38 #[PV a] w fun e w' => GivesSet w w' e (runsAt a.P) := by
  have b1 := below_new w (.cells (PC a) 25)
  have b2 := below_new (w.alloc (.cells (PC a) 25)) (.cells (JA fun _ => si0) 60)
  have X2 := isets_new (w.alloc (.cells (PC a) 25)) 60 (fun _ => si0)
  rw [World.size_alloc] at X2
  have HXA := hide ((pbox_new w a).below b2)
  have HX2 := hide X2
  have HBK := hide (b1.trans (b2.mono b1.size))
  have HS := hide (hS.below HBK.out)
  clear b1 b2 X2 hS
  obtain ⟨wk, hwk⟩ : ∃ wk, (w.alloc (.cells (PC a) 25)).alloc (.cells (JA fun _ => si0) 60) = wk := ⟨_, rfl⟩
  have HWZ : Hid (wk.heap.size = w.heap.size + 1 + 1) := by show _ = _; rw [← hwk]; simp
  rw [hwk] at HXA HX2 HBK HS
  have l1 := run_ldP HXA.out.at
  have b3 := below_new wk (.cells (PC a) 25)
  have HR := hide (prow_one wk a HS.out)
  have HWT := hide (wt_one HS.out)
  have HB3 := hide (HBK.out.trans (b3.mono HBK.out.size))
  have HX3 := hide (HX2.out.below b3)
  clear b3
  go_enter Try.func38, Try.ntmps38
  go_wp2_with fail
  clear hwk
  refine (mean_any _ 1 1 [a] _ HR.out HWT.out (by omega)).mono ?_
  rintro e w2 ⟨T, N, rfl, hT, b4⟩
  have HX4 := HX3.out.below b4
  have hst := run_stJ (F' := T) HX4
  have HRes := hide (ISets.setRow (F' := T) HX4)
  have HFin : Hid (GivesSet w (w2.setRow (w.heap.size + 1) (JA T)) (.returned (JAv T)) (runsAt a.P)) := by
    refine ⟨T, N, rfl, fun r hr => ?_, below_setRow (HB3.out.trans (b4.mono HB3.out.size)) (by omega)⟩
    obtain ⟨h1, h2, h3⟩ := hT r hr
    rw [runsOf_one] at h3
    simp only [World.size_alloc] at h2
    have hwz := HWZ.out
    exact ⟨src_off h1 (fun ad h => setRow_other _ _ _ _ (fun e => by have := h2 ad h; omega)), fun ad h => by have := h2 ad h; omega, h3⟩
  clear hT b4 HX4 l1
  go_wp2_with fail
  exact bodyPost_ret (v := JAv T) (resJ Try.results38 rfl HRes.out) rfl HFin.out
set_option maxRecDepth 100000 in
set_option maxHeartbeats 400000 in
theorem refLast_any (a : Pv) (r : Int) (w : World) (hS : PSrc w a) : Calls Try.prog 53 #[PV a, .int .i64 r] w fun e w' => GivesZ w w' e (LastOf a.P r) := by
  have b1 := below_new w (.cells (PC a) 25)
  have HX := hide (pbox_new w a)
  have HBK := hide b1
  have HS := hide (hS.below b1)
  have l0 := run_ldP HX.out.at
  clear hS b1
  obtain ⟨wk, hwk⟩ : ∃ wk, w.alloc (.cells (PC a) 25) = wk := ⟨_, rfl⟩
  rw [hwk] at HBK HX HS l0
  by_cases hr0 : 0 ≤ r
  · by_cases hr1 : r < 16
    · obtain ⟨y, rfl⟩ : ∃ y : Nat, r = y := ⟨r.toNat, by omega⟩
      have hy : y < 16 := by omega
      have hrr : ¬ (y : Int) < 0 := by omega
      have hrq : ¬ (16 : Int) ≤ (y : Int) := by omega
      have HY : Hid (V.isR (y : Int) = true) := by show _ = _; simp [V.isR]; omega
      go_enter Try.func53, Try.ntmps53
      go_wp2_with fail
      clear hwk
      refine (one_any a _ HS.out).mono ?_
      rintro e w2 ⟨T, N, rfl, hT, b2⟩
      obtain ⟨h1, h2, h3⟩ := hT y hy
      have b3 := below_new w2 (.cells (JA fun _ => si0) 60)
      have X3 := isets_new w2 60 (fun _ => si0)
      have hst := run_stJ (F' := T) X3
      have X4 := ISets.setRow (F' := T) X3
      have b4 := below_setRow (cs := JA T) b3 (Nat.le_refl _)
      have HS4 := hide (h1.below b4)
      have HB4 := hide ((HBK.out.trans (b2.mono HBK.out.size)).trans (b4.mono (Nat.le_trans HBK.out.size b2.size)))
      have HN3 := hide h3
      have c4 := X4.cell y hy
      obtain ⟨ta, tt, tc, hf⟩ : ∃ ta tt tc, (T y).ao = ta ∧ (T y).n = tt ∧ (T y).cap = tc := ⟨_, _, _, rfl, rfl, rfl⟩
      rw [hf.1, hf.2.1, hf.2.2] at HS4 c4
      have y0 : (0 : Int) ≤ (y : Int) := by omega
      have y1 : (y : Int) < 16 := by omega
      clear h1 h2 h3 hT b2 b3 b4 X3 X4 l0 hf
      have htl := HS4.out.1
      rcases tn_most HN3.out with ⟨e0, hm⟩ | ⟨e0, t, ht, hm⟩
      · rw [e0] at htl
        obtain rfl : tt = 0 := htl.symm
        have HF : Hid (LastOf a.P y 0) := Or.inl ⟨HY.out, hm⟩
        clear hm e0 htl
        go_wp2_with fail
        go_ret
        exact ⟨0, rfl, HF.out, HB4.out⟩
      · have htb : tt ≤ 1000000002 := by have h1 := form_small (Int.le_refl _) HN3.out.1; have h2 := tn_length (N y); omega
        obtain ⟨u, hu⟩ : ∃ u, u = t + 1 := ⟨_, rfl⟩
        rw [← hu] at hm
        obtain ⟨ad, had, cz⟩ := isrc_at HS4.out u (by omega)
        subst had
        have hzb := hm.bd
        obtain ⟨z, Hz⟩ : ∃ z, Hid ((tn (N y)).getD u 0 = z) := ⟨_, rfl⟩
        rw [Hz.out] at cz hm hzb
        have HF : Hid (LastOf a.P y (z - 1)) := Or.inl ⟨HY.out, hm⟩
        have ew : IntKind.i64.wrap ((tt : Int) - 1) = (u : Int) := by rw [IntKind.wrap_i64]; omega
        have ez : IntKind.i64.wrap (z - 1) = z - 1 := by rw [IntKind.wrap_i64]; omega
        have hn0 : ¬ (tt : Int) = 0 := by omega
        have hut : (u : Int) < (tt : Int) := by omega
        clear hm e0 ht htl hu t
        go_wp2_with fail
        go_ret
        exact ⟨z - 1, by first | rfl | rw [ez], HF.out, HB4.out⟩
    · have HF : Hid (LastOf a.P r 0) := Or.inr ⟨by simp [V.isR]; omega, rfl⟩
      have hrr : ¬ r < 0 := by omega
      have hrq : (16 : Int) ≤ r := by omega
      go_enter Try.func53, Try.ntmps53
      go_wp2_with fail
      go_ret
      exact ⟨0, rfl, HF.out, HBK.out⟩
  · have HF : Hid (LastOf a.P r 0) := Or.inr ⟨by simp [V.isR]; omega, rfl⟩
    have hrr : r < 0 := by omega
    go_enter Try.func53, Try.ntmps53
    go_wp2_with fail
    go_ret
    exact ⟨0, rfl, HF.out, HBK.out⟩
end Go.Proofs.Ytdbkebcniicojaa
