/- The law's ask, the kinds 6, 7, 8 and the others. -/
import Derived.Test.YtflinfmhmokfhaaUAk
import Derived.Test.YtflinfmhmokfhaaURl
namespace Go.Proofs.Ytflinfmhmokfhaa
open Go.RowKit
attribute [local go_sem ↓] ldG_eq stG_eq
attribute [local go_sem] GC_size KC_size to_GC to_KC GC_s0 GC_s1 GC_s2
variable {w w' w2 w3 wq : World} {g : Nat} {ro so : Option Addr} {rn rc sn sc : Nat} {Z : List Int}

theorem left_ok (R : RL w g ro rn rc Z) (_ : True) : Calls Try.prog 30 #[ptr g] w fun r w' => r = .returned (.int .i64 (Z.length : Int)) ∧ Mv w w' g ro rn 0 Z := by
  refine (left_any R.r).mono ?_
  rintro r w2 ⟨rfl, rfl⟩
  exact ⟨by rw [R.len], ro, rc, R, rfl, Kg.refl _ _⟩
theorem fail_bad (R : RL w g ro rn rc Z) {n e : Int} (h : orE n = e) (_ : e ≠ 0) : Calls Try.prog 31 #[ptr g, .int .i64 n] w fun r w' => r = .panicked (ups g) ∧ Gave w w' g e := by
  rw [← h]
  exact fail_live R n
set_option maxRecDepth 100000 in
theorem ask6_ok (R : RL w g ro rn rc Z) {n : Int} (h : True) : Calls Try.prog 8 #[ptr g, .agg (KC ⟨6, n⟩)] w fun r w' => r = .returned (.agg (GC ⟨(Z.length : Int), false, ⟨#[]⟩⟩)) ∧ Mv w w' g ro rn (0) Z := by
  obtain ⟨g3, hg3⟩ : ∃ g3, w.heap.size = g3 := ⟨_, rfl⟩
  obtain ⟨wa, hwa⟩ : ∃ wa, w.alloc (.cells (KC ⟨6, n⟩) 32) = wa := ⟨_, rfl⟩
  obtain ⟨wb, hwb⟩ : ∃ wb, wa.alloc (.cells (GC ⟨0, false, ⟨#[]⟩⟩) 29) = wb := ⟨_, rfl⟩
  have hsa : wa.heap.size = g3 + 1 := by rw [← hwa, World.size_alloc, hg3]
  have hsb : wb.heap.size = g3 + 2 := by rw [← hwb, World.size_alloc, hsa]
  obtain ⟨wq, hst, M5, b5, z5⟩ := madeG wb ⟨0, false, ⟨#[]⟩⟩ (g3 + 2) hsb
  simp only [g0] at hst
  have hA := ab_made 6 n hwa hwb hg3 hsa hsb M5 b5 z5
  have HA := hide hA
  have HG : Hid (g < w.heap.size) := R.r.lt
  have HR : Hid (rn ≠ 0 → ∀ k, blk ro = some k → k < w.heap.size) := fun h0 k e => src_lt R.s h0 k e
  have x0 := hA.k.c0
  have x1 := hA.k.c1
  simp only at x0 x1
  have RQ := R.kg_below hA.bel
  clear M5 b5 z5
  have HC := hide (left_ok RQ h)
  clear hA RQ R h
  go_enter Try.func8, Try.ntmps8
  go_wp2_with fail
  refine HC.out.mono ?_
  rintro r w2 ⟨rfl, M2⟩
  have HM := hide M2
  obtain ⟨B0, B1, B2, B3⟩ := HA.out.fin (m' := ⟨(Z.length : Int), false, ⟨#[]⟩⟩) (i := 0) (v := .int .i64 (Z.length : Int)) HM.out.kg HG.out rfl
  have y0 := B0.c0
  have hl := run_ldG B1
  have hs := run_stG (m' := ⟨(Z.length : Int), false, ⟨#[]⟩⟩) B2
  have HX := hide (B2.setRow (m' := ⟨(Z.length : Int), false, ⟨#[]⟩⟩))
  have HE := hide ((HM.out.pre HA.out.bel).low B3 (Nat.le_refl _) HG.out HR.out)
  have hz : w2.frozen? ⟨g3 + 2, 0, none⟩ = false := by unfold GBox at B0; simp [World.frozen?, B0]
  clear M2 B0 B1 B2 B3 HC
  go_wp2_with fail
  refine bodyPost_ret (v := GV ⟨(Z.length : Int), false, ⟨#[]⟩⟩) ?_ rfl ⟨rfl, HE.out⟩
  exact res1G Try.results8 rfl HX.out
set_option maxRecDepth 100000 in
theorem ask7_bad (R : RL w g ro rn rc Z) {n e : Int} (h : orE n = e) (he : e ≠ 0) : Calls Try.prog 8 #[ptr g, .agg (KC ⟨7, n⟩)] w fun r w' => r = .panicked (ups g) ∧ Gave w w' g e := by
  obtain ⟨g3, hg3⟩ : ∃ g3, w.heap.size = g3 := ⟨_, rfl⟩
  obtain ⟨wa, hwa⟩ : ∃ wa, w.alloc (.cells (KC ⟨7, n⟩) 32) = wa := ⟨_, rfl⟩
  obtain ⟨wb, hwb⟩ : ∃ wb, wa.alloc (.cells (GC ⟨0, false, ⟨#[]⟩⟩) 29) = wb := ⟨_, rfl⟩
  have hsa : wa.heap.size = g3 + 1 := by rw [← hwa, World.size_alloc, hg3]
  have hsb : wb.heap.size = g3 + 2 := by rw [← hwb, World.size_alloc, hsa]
  obtain ⟨wq, hst, M5, b5, z5⟩ := madeG wb ⟨0, false, ⟨#[]⟩⟩ (g3 + 2) hsb
  simp only [g0] at hst
  have hA := ab_made 7 n hwa hwb hg3 hsa hsb M5 b5 z5
  have HA := hide hA
  have HG : Hid (g < w.heap.size) := R.r.lt
  have HR : Hid (rn ≠ 0 → ∀ k, blk ro = some k → k < w.heap.size) := fun h0 k e => src_lt R.s h0 k e
  have x0 := hA.k.c0
  have x1 := hA.k.c1
  simp only at x0 x1
  have RQ := R.kg_below hA.bel
  clear M5 b5 z5
  have HC := hide (fail_bad RQ h he)
  clear hA RQ R h
  go_enter Try.func8, Try.ntmps8
  go_wp2_with fail
  refine HC.out.mono ?_
  rintro r w2 ⟨rfl, hG⟩
  have HE := hide (hG.pre HA.out.bel)
  clear hG HC
  go_wp2_with fail
  exact ⟨rfl, rfl, HE.out⟩
set_option maxRecDepth 100000 in
theorem askN_ok (R : RL w g ro rn rc Z) {k n : Int} (hk : ¬ k = 1 ∧ ¬ k = 2 ∧ ¬ k = 3 ∧ ¬ k = 4 ∧ ¬ k = 5 ∧ ¬ k = 6 ∧ ¬ k = 7 ∧ ¬ k = 8) : Calls Try.prog 8 #[ptr g, .agg (KC ⟨k, n⟩)] w fun r w' => r = .returned (.agg (GC ⟨0, false, ⟨#[]⟩⟩)) ∧ Mv w w' g ro rn 0 Z := by
  obtain ⟨g3, hg3⟩ : ∃ g3, w.heap.size = g3 := ⟨_, rfl⟩
  obtain ⟨wa, hwa⟩ : ∃ wa, w.alloc (.cells (KC ⟨k, n⟩) 32) = wa := ⟨_, rfl⟩
  obtain ⟨wb, hwb⟩ : ∃ wb, wa.alloc (.cells (GC ⟨0, false, ⟨#[]⟩⟩) 29) = wb := ⟨_, rfl⟩
  have hsa : wa.heap.size = g3 + 1 := by rw [← hwa, World.size_alloc, hg3]
  have hsb : wb.heap.size = g3 + 2 := by rw [← hwb, World.size_alloc, hsa]
  obtain ⟨wq, hst, M5, b5, z5⟩ := madeG wb ⟨0, false, ⟨#[]⟩⟩ (g3 + 2) hsb
  simp only [g0] at hst
  have hA := ab_made k n hwa hwb hg3 hsa hsb M5 b5 z5
  have HA := hide hA
  have HG : Hid (g < w.heap.size) := R.r.lt
  have HR : Hid (rn ≠ 0 → ∀ k, blk ro = some k → k < w.heap.size) := fun h0 k e => src_lt R.s h0 k e
  have x0 := hA.k.c0
  have x1 := hA.k.c1
  simp only at x0 x1
  have RQ := R.kg_below hA.bel
  clear M5 b5 z5
  obtain ⟨k1, k2, k3, k4, k5, k6, k7, k8⟩ := hk
  have e1 : (k == 1) = false := by simpa using k1
  have e2 : (k == 2) = false := by simpa using k2
  have e3 : (k == 3) = false := by simpa using k3
  have e4 : (k == 4) = false := by simpa using k4
  have e5 : (k == 5) = false := by simpa using k5
  have e6 : (k == 6) = false := by simpa using k6
  have e7 : (k == 7) = false := by simpa using k7
  have e8 : (k == 8) = false := by simpa using k8
  have hl := run_ldG hA.v
  have hs := run_stG (m' := ⟨0, false, ⟨#[]⟩⟩) hA.r
  have HX := hide (GBox.setRow (m' := ⟨0, false, ⟨#[]⟩⟩) hA.r)
  have M2 : Mv w wq g ro rn 0 Z := ⟨ro, rc, by rw [List.drop_zero]; exact RQ, rfl, Kg.of_below hA.bel⟩
  have HE := hide (M2.low (below_setRow (cs := GC ⟨0, false, ⟨#[]⟩⟩) (Below.refl w.heap.size wq) (show w.heap.size ≤ g3 + 1 by omega)) (Nat.le_refl _) HG.out HR.out)
  clear hA RQ R M2 k1 k2 k3 k4 k5 k6 k7 k8
  go_enter Try.func8, Try.ntmps8
  go_wp2_with fail
  refine bodyPost_ret (v := GV ⟨0, false, ⟨#[]⟩⟩) ?_ rfl ⟨rfl, HE.out⟩
  exact res1G Try.results8 rfl HX.out
end Go.Proofs.Ytflinfmhmokfhaa
