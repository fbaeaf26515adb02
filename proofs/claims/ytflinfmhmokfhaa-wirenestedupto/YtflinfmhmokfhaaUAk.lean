/- The law's ask. -/
import Derived.Test.YtflinfmhmokfhaaUAb
namespace Go.Proofs.Ytflinfmhmokfhaa
open Go.RowKit
attribute [local go_sem ↓] ldG_eq stG_eq
attribute [local go_sem] GC_size KC_size to_GC to_KC GC_s0 GC_s1 GC_s2
variable {w w' w2 w3 wq : World} {g : Nat} {ro so : Option Addr} {rn rc sn sc : Nat} {Z : List Int}

/-- a flag, read -/
def flV (Z : List Int) : Bool := Z.getD 0 0 == 1
theorem flagV_ok (R : RL w g ro rn rc Z) (h : flE Z = 0) : Calls Try.prog 26 #[ptr g] w fun r w' => r = .returned (.bool (flV Z)) ∧ Mv w w' g ro rn 1 Z := flag_ok R h
theorem Mv.kg {k : Nat} (h : Mv w w2 g ro rn k Z) : Kg w w2 g := by obtain ⟨_, _, _, _, K⟩ := h; exact K
set_option maxRecDepth 100000 in
theorem ask1_ok (R : RL w g ro rn rc Z) {n : Int} (h : nmE Z n = 0) : Calls Try.prog 8 #[ptr g, .agg (KC ⟨1, n⟩)] w fun r w' => r = .returned (.agg (GC ⟨(nmV Z : Int), false, ⟨#[]⟩⟩)) ∧ Mv w w' g ro rn (nmK Z) Z := by
  obtain ⟨g3, hg3⟩ : ∃ g3, w.heap.size = g3 := ⟨_, rfl⟩
  obtain ⟨wa, hwa⟩ : ∃ wa, w.alloc (.cells (KC ⟨1, n⟩) 32) = wa := ⟨_, rfl⟩
  obtain ⟨wb, hwb⟩ : ∃ wb, wa.alloc (.cells (GC ⟨0, false, ⟨#[]⟩⟩) 29) = wb := ⟨_, rfl⟩
  have hsa : wa.heap.size = g3 + 1 := by rw [← hwa, World.size_alloc, hg3]
  have hsb : wb.heap.size = g3 + 2 := by rw [← hwb, World.size_alloc, hsa]
  obtain ⟨wq, hst, M5, b5, z5⟩ := madeG wb ⟨0, false, ⟨#[]⟩⟩ (g3 + 2) hsb
  simp only [g0] at hst
  have hA := ab_made 1 n hwa hwb hg3 hsa hsb M5 b5 z5
  have HA := hide hA
  have HG : Hid (g < w.heap.size) := R.r.lt
  have HR : Hid (rn ≠ 0 → ∀ k, blk ro = some k → k < w.heap.size) := fun h0 k e => src_lt R.s h0 k e
  have x0 := hA.k.c0
  have x1 := hA.k.c1
  simp only at x0 x1
  have RQ := R.kg_below hA.bel
  clear M5 b5 z5
  have HC := hide (Num_ok RQ h)
  clear hA RQ R h
  go_enter Try.func8, Try.ntmps8
  go_wp2_with fail
  refine HC.out.mono ?_
  rintro r w2 ⟨rfl, M2⟩
  have HM := hide M2
  obtain ⟨B0, B1, B2, B3⟩ := HA.out.fin (m' := ⟨(nmV Z : Int), false, ⟨#[]⟩⟩) (i := 0) (v := .int .i64 (nmV Z : Int)) HM.out.kg HG.out rfl
  have y0 := B0.c0
  have hl := run_ldG B1
  have hs := run_stG (m' := ⟨(nmV Z : Int), false, ⟨#[]⟩⟩) B2
  have HX := hide (B2.setRow (m' := ⟨(nmV Z : Int), false, ⟨#[]⟩⟩))
  have HE := hide ((HM.out.pre HA.out.bel).low B3 (Nat.le_refl _) HG.out HR.out)
  have hz : w2.frozen? ⟨g3 + 2, 0, none⟩ = false := by unfold GBox at B0; simp [World.frozen?, B0]
  clear M2 B0 B1 B2 B3 HC
  go_wp2_with fail
  refine bodyPost_ret (v := GV ⟨(nmV Z : Int), false, ⟨#[]⟩⟩) ?_ rfl ⟨rfl, HE.out⟩
  exact res1G Try.results8 rfl HX.out
set_option maxRecDepth 100000 in
theorem ask1_bad (R : RL w g ro rn rc Z) {n e : Int} (h : nmE Z n = e) (he : e ≠ 0) : Calls Try.prog 8 #[ptr g, .agg (KC ⟨1, n⟩)] w fun r w' => r = .panicked (ups g) ∧ Gave w w' g e := by
  obtain ⟨g3, hg3⟩ : ∃ g3, w.heap.size = g3 := ⟨_, rfl⟩
  obtain ⟨wa, hwa⟩ : ∃ wa, w.alloc (.cells (KC ⟨1, n⟩) 32) = wa := ⟨_, rfl⟩
  obtain ⟨wb, hwb⟩ : ∃ wb, wa.alloc (.cells (GC ⟨0, false, ⟨#[]⟩⟩) 29) = wb := ⟨_, rfl⟩
  have hsa : wa.heap.size = g3 + 1 := by rw [← hwa, World.size_alloc, hg3]
  have hsb : wb.heap.size = g3 + 2 := by rw [← hwb, World.size_alloc, hsa]
  obtain ⟨wq, hst, M5, b5, z5⟩ := madeG wb ⟨0, false, ⟨#[]⟩⟩ (g3 + 2) hsb
  simp only [g0] at hst
  have hA := ab_made 1 n hwa hwb hg3 hsa hsb M5 b5 z5
  have HA := hide hA
  have HG : Hid (g < w.heap.size) := R.r.lt
  have HR : Hid (rn ≠ 0 → ∀ k, blk ro = some k → k < w.heap.size) := fun h0 k e => src_lt R.s h0 k e
  have x0 := hA.k.c0
  have x1 := hA.k.c1
  simp only at x0 x1
  have RQ := R.kg_below hA.bel
  clear M5 b5 z5
  have HC := hide (num_bad RQ h he)
  clear hA RQ R h
  go_enter Try.func8, Try.ntmps8
  go_wp2_with fail
  refine HC.out.mono ?_
  rintro r w2 ⟨rfl, hG⟩
  have HE := hide (hG.pre HA.out.bel)
  clear hG HC
  go_wp2_with fail
  exact ⟨rfl, rfl, HE.out⟩
set_option maxRecDepth 100000 in
theorem ask2_ok (R : RL w g ro rn rc Z) {n : Int} (h : flE Z = 0) : Calls Try.prog 8 #[ptr g, .agg (KC ⟨2, n⟩)] w fun r w' => r = .returned (.agg (GC ⟨0, flV Z, ⟨#[]⟩⟩)) ∧ Mv w w' g ro rn (1) Z := by
  obtain ⟨g3, hg3⟩ : ∃ g3, w.heap.size = g3 := ⟨_, rfl⟩
  obtain ⟨wa, hwa⟩ : ∃ wa, w.alloc (.cells (KC ⟨2, n⟩) 32) = wa := ⟨_, rfl⟩
  obtain ⟨wb, hwb⟩ : ∃ wb, wa.alloc (.cells (GC ⟨0, false, ⟨#[]⟩⟩) 29) = wb := ⟨_, rfl⟩
  have hsa : wa.heap.size = g3 + 1 := by rw [← hwa, World.size_alloc, hg3]
  have hsb : wb.heap.size = g3 + 2 := by rw [← hwb, World.size_alloc, hsa]
  obtain ⟨wq, hst, M5, b5, z5⟩ := madeG wb ⟨0, false, ⟨#[]⟩⟩ (g3 + 2) hsb
  simp only [g0] at hst
  have hA := ab_made 2 n hwa hwb hg3 hsa hsb M5 b5 z5
  have HA := hide hA
  have HG : Hid (g < w.heap.size) := R.r.lt
  have HR : Hid (rn ≠ 0 → ∀ k, blk ro = some k → k < w.heap.size) := fun h0 k e => src_lt R.s h0 k e
  have x0 := hA.k.c0
  have x1 := hA.k.c1
  simp only at x0 x1
  have RQ := R.kg_below hA.bel
  clear M5 b5 z5
  have HC := hide (flagV_ok RQ h)
  clear hA RQ R h
  go_enter Try.func8, Try.ntmps8
  go_wp2_with fail
  refine HC.out.mono ?_
  rintro r w2 ⟨rfl, M2⟩
  have HM := hide M2
  obtain ⟨B0, B1, B2, B3⟩ := HA.out.fin (m' := ⟨0, flV Z, ⟨#[]⟩⟩) (i := 1) (v := .bool (flV Z)) HM.out.kg HG.out rfl
  have y0 := B0.c1
  have hl := run_ldG B1
  have hs := run_stG (m' := ⟨0, flV Z, ⟨#[]⟩⟩) B2
  have HX := hide (B2.setRow (m' := ⟨0, flV Z, ⟨#[]⟩⟩))
  have HE := hide ((HM.out.pre HA.out.bel).low B3 (Nat.le_refl _) HG.out HR.out)
  have hz : w2.frozen? ⟨g3 + 2, 1, none⟩ = false := by unfold GBox at B0; simp [World.frozen?, B0]
  clear M2 B0 B1 B2 B3 HC
  go_wp2_with fail
  refine bodyPost_ret (v := GV ⟨0, flV Z, ⟨#[]⟩⟩) ?_ rfl ⟨rfl, HE.out⟩
  exact res1G Try.results8 rfl HX.out
set_option maxRecDepth 100000 in
theorem ask2_bad (R : RL w g ro rn rc Z) {n e : Int} (h : flE Z = e) (he : e ≠ 0) : Calls Try.prog 8 #[ptr g, .agg (KC ⟨2, n⟩)] w fun r w' => r = .panicked (ups g) ∧ Gave w w' g e := by
  obtain ⟨g3, hg3⟩ : ∃ g3, w.heap.size = g3 := ⟨_, rfl⟩
  obtain ⟨wa, hwa⟩ : ∃ wa, w.alloc (.cells (KC ⟨2, n⟩) 32) = wa := ⟨_, rfl⟩
  obtain ⟨wb, hwb⟩ : ∃ wb, wa.alloc (.cells (GC ⟨0, false, ⟨#[]⟩⟩) 29) = wb := ⟨_, rfl⟩
  have hsa : wa.heap.size = g3 + 1 := by rw [← hwa, World.size_alloc, hg3]
  have hsb : wb.heap.size = g3 + 2 := by rw [← hwb, World.size_alloc, hsa]
  obtain ⟨wq, hst, M5, b5, z5⟩ := madeG wb ⟨0, false, ⟨#[]⟩⟩ (g3 + 2) hsb
  simp only [g0] at hst
  have hA := ab_made 2 n hwa hwb hg3 hsa hsb M5 b5 z5
  have HA := hide hA
  have HG : Hid (g < w.heap.size) := R.r.lt
  have HR : Hid (rn ≠ 0 → ∀ k, blk ro = some k → k < w.heap.size) := fun h0 k e => src_lt R.s h0 k e
  have x0 := hA.k.c0
  have x1 := hA.k.c1
  simp only at x0 x1
  have RQ := R.kg_below hA.bel
  clear M5 b5 z5
  have HC := hide (flag_bad RQ h he)
  clear hA RQ R h
  go_enter Try.func8, Try.ntmps8
  go_wp2_with fail
  refine HC.out.mono ?_
  rintro r w2 ⟨rfl, hG⟩
  have HE := hide (hG.pre HA.out.bel)
  clear hG HC
  go_wp2_with fail
  exact ⟨rfl, rfl, HE.out⟩
set_option maxRecDepth 100000 in
theorem ask3_ok (R : RL w g ro rn rc Z) {n : Int} (h : pcE Z n = 0) : Calls Try.prog 8 #[ptr g, .agg (KC ⟨3, n⟩)] w fun r w' => r = .returned (.agg (GC ⟨0, false, strOfNums ((Z.drop (nmK Z)).take (nmV Z))⟩)) ∧ Mv w w' g ro rn (nmK Z + nmV Z) Z := by
  obtain ⟨g3, hg3⟩ : ∃ g3, w.heap.size = g3 := ⟨_, rfl⟩
  obtain ⟨wa, hwa⟩ : ∃ wa, w.alloc (.cells (KC ⟨3, n⟩) 32) = wa := ⟨_, rfl⟩
  obtain ⟨wb, hwb⟩ : ∃ wb, wa.alloc (.cells (GC ⟨0, false, ⟨#[]⟩⟩) 29) = wb := ⟨_, rfl⟩
  have hsa : wa.heap.size = g3 + 1 := by rw [← hwa, World.size_alloc, hg3]
  have hsb : wb.heap.size = g3 + 2 := by rw [← hwb, World.size_alloc, hsa]
  obtain ⟨wq, hst, M5, b5, z5⟩ := madeG wb ⟨0, false, ⟨#[]⟩⟩ (g3 + 2) hsb
  simp only [g0] at hst
  have hA := ab_made 3 n hwa hwb hg3 hsa hsb M5 b5 z5
  have HA := hide hA
  have HG : Hid (g < w.heap.size) := R.r.lt
  have HR : Hid (rn ≠ 0 → ∀ k, blk ro = some k → k < w.heap.size) := fun h0 k e => src_lt R.s h0 k e
  have x0 := hA.k.c0
  have x1 := hA.k.c1
  simp only at x0 x1
  have RQ := R.kg_below hA.bel
  clear M5 b5 z5
  have HC := hide (text_ok RQ h)
  clear hA RQ R h
  go_enter Try.func8, Try.ntmps8
  go_wp2_with fail
  refine HC.out.mono ?_
  rintro r w2 ⟨rfl, M2⟩
  have HM := hide M2
  obtain ⟨B0, B1, B2, B3⟩ := HA.out.fin (m' := ⟨0, false, strOfNums ((Z.drop (nmK Z)).take (nmV Z))⟩) (i := 2) (v := .string (strOfNums ((Z.drop (nmK Z)).take (nmV Z)))) HM.out.kg HG.out rfl
  have y0 := B0.c2
  have hl := run_ldG B1
  have hs := run_stG (m' := ⟨0, false, strOfNums ((Z.drop (nmK Z)).take (nmV Z))⟩) B2
  have HX := hide (B2.setRow (m' := ⟨0, false, strOfNums ((Z.drop (nmK Z)).take (nmV Z))⟩))
  have HE := hide ((HM.out.pre HA.out.bel).low B3 (Nat.le_refl _) HG.out HR.out)
  have hz : w2.frozen? ⟨g3 + 2, 2, none⟩ = false := by unfold GBox at B0; simp [World.frozen?, B0]
  clear M2 B0 B1 B2 B3 HC
  go_wp2_with fail
  refine bodyPost_ret (v := GV ⟨0, false, strOfNums ((Z.drop (nmK Z)).take (nmV Z))⟩) ?_ rfl ⟨rfl, HE.out⟩
  exact res1G Try.results8 rfl HX.out
set_option maxRecDepth 100000 in
theorem ask3_bad (R : RL w g ro rn rc Z) {n e : Int} (h : pcE Z n = e) (he : e ≠ 0) : Calls Try.prog 8 #[ptr g, .agg (KC ⟨3, n⟩)] w fun r w' => r = .panicked (ups g) ∧ Gave w w' g e := by
  obtain ⟨g3, hg3⟩ : ∃ g3, w.heap.size = g3 := ⟨_, rfl⟩
  obtain ⟨wa, hwa⟩ : ∃ wa, w.alloc (.cells (KC ⟨3, n⟩) 32) = wa := ⟨_, rfl⟩
  obtain ⟨wb, hwb⟩ : ∃ wb, wa.alloc (.cells (GC ⟨0, false, ⟨#[]⟩⟩) 29) = wb := ⟨_, rfl⟩
  have hsa : wa.heap.size = g3 + 1 := by rw [← hwa, World.size_alloc, hg3]
  have hsb : wb.heap.size = g3 + 2 := by rw [← hwb, World.size_alloc, hsa]
  obtain ⟨wq, hst, M5, b5, z5⟩ := madeG wb ⟨0, false, ⟨#[]⟩⟩ (g3 + 2) hsb
  simp only [g0] at hst
  have hA := ab_made 3 n hwa hwb hg3 hsa hsb M5 b5 z5
  have HA := hide hA
  have HG : Hid (g < w.heap.size) := R.r.lt
  have HR : Hid (rn ≠ 0 → ∀ k, blk ro = some k → k < w.heap.size) := fun h0 k e => src_lt R.s h0 k e
  have x0 := hA.k.c0
  have x1 := hA.k.c1
  simp only at x0 x1
  have RQ := R.kg_below hA.bel
  clear M5 b5 z5
  have HC := hide (text_bad RQ h he)
  clear hA RQ R h
  go_enter Try.func8, Try.ntmps8
  go_wp2_with fail
  refine HC.out.mono ?_
  rintro r w2 ⟨rfl, hG⟩
  have HE := hide (hG.pre HA.out.bel)
  clear hG HC
  go_wp2_with fail
  exact ⟨rfl, rfl, HE.out⟩
set_option maxRecDepth 100000 in
theorem ask4_ok (R : RL w g ro rn rc Z) {n : Int} (h : pcE Z n = 0) : Calls Try.prog 8 #[ptr g, .agg (KC ⟨4, n⟩)] w fun r w' => r = .returned (.agg (GC ⟨0, false, strOfNums ((Z.drop (nmK Z)).take (nmV Z))⟩)) ∧ Mv w w' g ro rn (nmK Z + nmV Z) Z := by
  obtain ⟨g3, hg3⟩ : ∃ g3, w.heap.size = g3 := ⟨_, rfl⟩
  obtain ⟨wa, hwa⟩ : ∃ wa, w.alloc (.cells (KC ⟨4, n⟩) 32) = wa := ⟨_, rfl⟩
  obtain ⟨wb, hwb⟩ : ∃ wb, wa.alloc (.cells (GC ⟨0, false, ⟨#[]⟩⟩) 29) = wb := ⟨_, rfl⟩
  have hsa : wa.heap.size = g3 + 1 := by rw [← hwa, World.size_alloc, hg3]
  have hsb : wb.heap.size = g3 + 2 := by rw [← hwb, World.size_alloc, hsa]
  obtain ⟨wq, hst, M5, b5, z5⟩ := madeG wb ⟨0, false, ⟨#[]⟩⟩ (g3 + 2) hsb
  simp only [g0] at hst
  have hA := ab_made 4 n hwa hwb hg3 hsa hsb M5 b5 z5
  have HA := hide hA
  have HG : Hid (g < w.heap.size) := R.r.lt
  have HR : Hid (rn ≠ 0 → ∀ k, blk ro = some k → k < w.heap.size) := fun h0 k e => src_lt R.s h0 k e
  have x0 := hA.k.c0
  have x1 := hA.k.c1
  simp only at x0 x1
  have RQ := R.kg_below hA.bel
  clear M5 b5 z5
  have HC := hide (frame_ok RQ h)
  clear hA RQ R h
  go_enter Try.func8, Try.ntmps8
  go_wp2_with fail
  refine HC.out.mono ?_
  rintro r w2 ⟨po, pc, rfl, B, -, M2⟩
  have hcv := B.bs.str
  clear B
  have HM := hide M2
  obtain ⟨B0, B1, B2, B3⟩ := HA.out.fin (m' := ⟨0, false, strOfNums ((Z.drop (nmK Z)).take (nmV Z))⟩) (i := 2) (v := .string (strOfNums ((Z.drop (nmK Z)).take (nmV Z)))) HM.out.kg HG.out rfl
  have y0 := B0.c2
  have hl := run_ldG B1
  have hs := run_stG (m' := ⟨0, false, strOfNums ((Z.drop (nmK Z)).take (nmV Z))⟩) B2
  have HX := hide (B2.setRow (m' := ⟨0, false, strOfNums ((Z.drop (nmK Z)).take (nmV Z))⟩))
  have HE := hide ((HM.out.pre HA.out.bel).low B3 (Nat.le_refl _) HG.out HR.out)
  have hz : w2.frozen? ⟨g3 + 2, 2, none⟩ = false := by unfold GBox at B0; simp [World.frozen?, B0]
  clear M2 B0 B1 B2 B3 HC
  go_wp2_with fail
  refine bodyPost_ret (v := GV ⟨0, false, strOfNums ((Z.drop (nmK Z)).take (nmV Z))⟩) ?_ rfl ⟨rfl, HE.out⟩
  exact res1G Try.results8 rfl HX.out
set_option maxRecDepth 100000 in
theorem ask4_bad (R : RL w g ro rn rc Z) {n e : Int} (h : pcE Z n = e) (he : e ≠ 0) : Calls Try.prog 8 #[ptr g, .agg (KC ⟨4, n⟩)] w fun r w' => r = .panicked (ups g) ∧ Gave w w' g e := by
  obtain ⟨g3, hg3⟩ : ∃ g3, w.heap.size = g3 := ⟨_, rfl⟩
  obtain ⟨wa, hwa⟩ : ∃ wa, w.alloc (.cells (KC ⟨4, n⟩) 32) = wa := ⟨_, rfl⟩
  obtain ⟨wb, hwb⟩ : ∃ wb, wa.alloc (.cells (GC ⟨0, false, ⟨#[]⟩⟩) 29) = wb := ⟨_, rfl⟩
  have hsa : wa.heap.size = g3 + 1 := by rw [← hwa, World.size_alloc, hg3]
  have hsb : wb.heap.size = g3 + 2 := by rw [← hwb, World.size_alloc, hsa]
  obtain ⟨wq, hst, M5, b5, z5⟩ := madeG wb ⟨0, false, ⟨#[]⟩⟩ (g3 + 2) hsb
  simp only [g0] at hst
  have hA := ab_made 4 n hwa hwb hg3 hsa hsb M5 b5 z5
  have HA := hide hA
  have HG : Hid (g < w.heap.size) := R.r.lt
  have HR : Hid (rn ≠ 0 → ∀ k, blk ro = some k → k < w.heap.size) := fun h0 k e => src_lt R.s h0 k e
  have x0 := hA.k.c0
  have x1 := hA.k.c1
  simp only at x0 x1
  have RQ := R.kg_below hA.bel
  clear M5 b5 z5
  have HC := hide (frame_bad RQ h he)
  clear hA RQ R h
  go_enter Try.func8, Try.ntmps8
  go_wp2_with fail
  refine HC.out.mono ?_
  rintro r w2 ⟨rfl, hG⟩
  have HE := hide (hG.pre HA.out.bel)
  clear hG HC
  go_wp2_with fail
  exact ⟨rfl, rfl, HE.out⟩
set_option maxRecDepth 100000 in
theorem ask5_ok (R : RL w g ro rn rc Z) {n : Int} (h : ctE Z n = 0) : Calls Try.prog 8 #[ptr g, .agg (KC ⟨5, n⟩)] w fun r w' => r = .returned (.agg (GC ⟨(nmV Z : Int), false, ⟨#[]⟩⟩)) ∧ Mv w w' g ro rn (nmK Z) Z := by
  obtain ⟨g3, hg3⟩ : ∃ g3, w.heap.size = g3 := ⟨_, rfl⟩
  obtain ⟨wa, hwa⟩ : ∃ wa, w.alloc (.cells (KC ⟨5, n⟩) 32) = wa := ⟨_, rfl⟩
  obtain ⟨wb, hwb⟩ : ∃ wb, wa.alloc (.cells (GC ⟨0, false, ⟨#[]⟩⟩) 29) = wb := ⟨_, rfl⟩
  have hsa : wa.heap.size = g3 + 1 := by rw [← hwa, World.size_alloc, hg3]
  have hsb : wb.heap.size = g3 + 2 := by rw [← hwb, World.size_alloc, hsa]
  obtain ⟨wq, hst, M5, b5, z5⟩ := madeG wb ⟨0, false, ⟨#[]⟩⟩ (g3 + 2) hsb
  simp only [g0] at hst
  have hA := ab_made 5 n hwa hwb hg3 hsa hsb M5 b5 z5
  have HA := hide hA
  have HG : Hid (g < w.heap.size) := R.r.lt
  have HR : Hid (rn ≠ 0 → ∀ k, blk ro = some k → k < w.heap.size) := fun h0 k e => src_lt R.s h0 k e
  have x0 := hA.k.c0
  have x1 := hA.k.c1
  simp only at x0 x1
  have RQ := R.kg_below hA.bel
  clear M5 b5 z5
  have HC := hide (count_ok RQ h)
  clear hA RQ R h
  go_enter Try.func8, Try.ntmps8
  go_wp2_with fail
  refine HC.out.mono ?_
  rintro r w2 ⟨rfl, M2⟩
  have HM := hide M2
  obtain ⟨B0, B1, B2, B3⟩ := HA.out.fin (m' := ⟨(nmV Z : Int), false, ⟨#[]⟩⟩) (i := 0) (v := .int .i64 (nmV Z : Int)) HM.out.kg HG.out rfl
  have y0 := B0.c0
  have hl := run_ldG B1
  have hs := run_stG (m' := ⟨(nmV Z : Int), false, ⟨#[]⟩⟩) B2
  have HX := hide (B2.setRow (m' := ⟨(nmV Z : Int), false, ⟨#[]⟩⟩))
  have HE := hide ((HM.out.pre HA.out.bel).low B3 (Nat.le_refl _) HG.out HR.out)
  have hz : w2.frozen? ⟨g3 + 2, 0, none⟩ = false := by unfold GBox at B0; simp [World.frozen?, B0]
  clear M2 B0 B1 B2 B3 HC
  go_wp2_with fail
  refine bodyPost_ret (v := GV ⟨(nmV Z : Int), false, ⟨#[]⟩⟩) ?_ rfl ⟨rfl, HE.out⟩
  exact res1G Try.results8 rfl HX.out
set_option maxRecDepth 100000 in
theorem ask5_bad (R : RL w g ro rn rc Z) {n e : Int} (h : ctE Z n = e) (he : e ≠ 0) : Calls Try.prog 8 #[ptr g, .agg (KC ⟨5, n⟩)] w fun r w' => r = .panicked (ups g) ∧ Gave w w' g e := by
  obtain ⟨g3, hg3⟩ : ∃ g3, w.heap.size = g3 := ⟨_, rfl⟩
  obtain ⟨wa, hwa⟩ : ∃ wa, w.alloc (.cells (KC ⟨5, n⟩) 32) = wa := ⟨_, rfl⟩
  obtain ⟨wb, hwb⟩ : ∃ wb, wa.alloc (.cells (GC ⟨0, false, ⟨#[]⟩⟩) 29) = wb := ⟨_, rfl⟩
  have hsa : wa.heap.size = g3 + 1 := by rw [← hwa, World.size_alloc, hg3]
  have hsb : wb.heap.size = g3 + 2 := by rw [← hwb, World.size_alloc, hsa]
  obtain ⟨wq, hst, M5, b5, z5⟩ := madeG wb ⟨0, false, ⟨#[]⟩⟩ (g3 + 2) hsb
  simp only [g0] at hst
  have hA := ab_made 5 n hwa hwb hg3 hsa hsb M5 b5 z5
  have HA := hide hA
  have HG : Hid (g < w.heap.size) := R.r.lt
  have HR : Hid (rn ≠ 0 → ∀ k, blk ro = some k → k < w.heap.size) := fun h0 k e => src_lt R.s h0 k e
  have x0 := hA.k.c0
  have x1 := hA.k.c1
  simp only at x0 x1
  have RQ := R.kg_below hA.bel
  clear M5 b5 z5
  have HC := hide (count_bad RQ h he)
  clear hA RQ R h
  go_enter Try.func8, Try.ntmps8
  go_wp2_with fail
  refine HC.out.mono ?_
  rintro r w2 ⟨rfl, hG⟩
  have HE := hide (hG.pre HA.out.bel)
  clear hG HC
  go_wp2_with fail
  exact ⟨rfl, rfl, HE.out⟩
end Go.Proofs.Ytflinfmhmokfhaa
