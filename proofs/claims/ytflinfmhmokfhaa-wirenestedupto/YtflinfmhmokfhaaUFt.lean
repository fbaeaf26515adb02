/- The law's fitting. -/
import Derived.Test.YtflinfmhmokfhaaUBp
namespace Go.Proofs.Ytflinfmhmokfhaa
open Go.RowKit
theorem KC_s0 (k n z : Int) : (KC ⟨k, n⟩).setIfInBounds 0 (.int .i64 z) = KC ⟨z, n⟩ := rfl
theorem KC_s1 (k n z : Int) : (KC ⟨k, n⟩).setIfInBounds 1 (.int .i64 z) = KC ⟨k, z⟩ := rfl
attribute [local go_sem ↓] ldK_eq stK_eq ldQ_eq stQ_eq
attribute [local go_sem] KC_size QC_size to_KC KC_s0 KC_s1
variable {w w' w2 w3 wq : World} {g : Nat}

theorem KBox.set1 {k n z : Int} (h : KBox w g ⟨k, n⟩) : KBox (w.setCell ⟨g, 1, none⟩ (.int .i64 z)) g ⟨k, z⟩ := by
  have := set_heap w g _ _ _ 1 (.int .i64 z) h
  unfold KBox
  rw [this]
  rfl
theorem KBox.z {m : Ask} (h : KBox w g m) (j : Nat) : w.frozen? ⟨g, j, none⟩ = false := by unfold KBox at h; simp [World.frozen?, h]
/-- fitting's variables -/
structure FB (w wq : World) (g3 : Nat) (s : Stp) (m : Ask) : Prop where
  q : QBox wq g3 s
  r : KBox wq (g3 + 1) ⟨0, 0⟩
  v : KBox wq (g3 + 2) m
  bel : Below w.heap.size w wq
  pos : g3 = w.heap.size
theorem FB.set {g3 : Nat} {s : Stp} {k n z : Int} (h : FB w wq g3 s ⟨k, n⟩) : FB w (wq.setCell ⟨g3 + 2, 1, none⟩ (.int .i64 z)) g3 s ⟨k, z⟩ := by
  have hp := h.pos
  refine ⟨(set_other wq (g3 + 2) 1 g3 _ (by omega)).trans h.q, (set_other wq (g3 + 2) 1 (g3 + 1) _ (by omega)).trans h.r, h.v.set1, ?_, hp⟩
  exact ⟨(setCell_os _ _ _).trans h.bel.os, (setCell_tape _ _ _).trans h.bel.tape, (setCell_output _ _ _).trans h.bel.output, by rw [set_size]; exact h.bel.size, fun j hj => (set_other wq (g3 + 2) 1 j _ (by omega)).trans (h.bel.block j hj)⟩
theorem fb_made {wa wb : World} {g3 : Nat} (s : Stp) (m : Ask) (hwa : w.alloc (.cells (QC s) 42) = wa) (hwb : wa.alloc (.cells (KC ⟨0, 0⟩) 32) = wb) (hg : w.heap.size = g3) (ha : wa.heap.size = g3 + 1)
    (M : KBox wq (g3 + 2) m) (b : Below wb.heap.size wb wq) : FB w wq g3 s m := by
  have b1 := below_new w (.cells (QC s) 42)
  have h1 : QBox (w.alloc (.cells (QC s) 42)) w.heap.size s := QBox_new w _
  rw [hwa] at b1 h1
  have b2 := below_new wa (.cells (KC ⟨0, 0⟩) 32)
  have h2 : KBox (wa.alloc (.cells (KC ⟨0, 0⟩) 32)) wa.heap.size ⟨0, 0⟩ := KBox_new wa _
  rw [hwb] at b2 h2
  rw [hg] at h1
  rw [ha] at h2
  exact ⟨(h1.below b2).below b, h2.below b, M, b1.trans ((b2.trans (b.mono b2.size)).mono b1.size), hg.symm⟩
set_option maxRecDepth 100000 in
theorem fit1a (z n : Int) (b : Bool) (s : ByteArray) (wide : Int) (w : World) (h0 : 0 ≤ n) (h : n < 4611686018427387904) : Calls Try.prog 38 #[.agg (QC ⟨z, 1, n, b, s⟩), .int .i64 wide] w fun r w' => r = .returned (.agg (KC ⟨1, n + moreN wide⟩)) ∧ Below w.heap.size w w' := by
  obtain ⟨g3, hg3⟩ : ∃ g3, w.heap.size = g3 := ⟨_, rfl⟩
  obtain ⟨wa, hwa⟩ : ∃ wa, w.alloc (.cells (QC ⟨z, 1, n, b, s⟩) 42) = wa := ⟨_, rfl⟩
  obtain ⟨wb, hwb⟩ : ∃ wb, wa.alloc (.cells (KC ⟨0, 0⟩) 32) = wb := ⟨_, rfl⟩
  have hsa : wa.heap.size = g3 + 1 := by rw [← hwa, World.size_alloc, hg3]
  have hsb : wb.heap.size = g3 + 2 := by rw [← hwb, World.size_alloc, hsa]
  obtain ⟨wq, hst, M5, b5, z5⟩ := madeK wb ⟨1, 0⟩ (g3 + 2) hsb
  simp only [k0] at hst
  have hA := fb_made ⟨z, 1, n, b, s⟩ ⟨1, 0⟩ hwa hwb hg3 hsa M5 b5
  have hwz : QBox (wb.alloc (.cells (KC ⟨0, 0⟩) 32)) g3 ⟨z, 1, n, b, s⟩ := by
    have b1 := below_new wb (.cells (KC ⟨0, 0⟩) 32)
    have h1 : QBox (w.alloc (.cells (QC ⟨z, 1, n, b, s⟩) 42)) w.heap.size ⟨z, 1, n, b, s⟩ := QBox_new w _
    rw [hwa, hg3] at h1
    have b2 := below_new wa (.cells (KC ⟨0, 0⟩) 32)
    rw [hwb] at b2
    exact (h1.below b2).below b1
  have hwz1 : QBox wb g3 ⟨z, 1, n, b, s⟩ := by
    have h1 : QBox (w.alloc (.cells (QC ⟨z, 1, n, b, s⟩) 42)) w.heap.size ⟨z, 1, n, b, s⟩ := QBox_new w _
    rw [hwa, hg3] at h1
    have b2 := below_new wa (.cells (KC ⟨0, 0⟩) 32)
    rw [hwb] at b2
    exact h1.below b2
  have u1 := hwz.c1
  have u2 := hwz1.c1
  have x1 := hA.q.c1
  have x2 := hA.q.c2
  have x4 := hA.q.c4
  simp only at x1 x2 x4 u1 u2
  have y1 := hA.v.c1
  have yz := hA.v.z 1
  clear M5 b5 z5 hwz hwz1
  obtain ⟨mo, hmo⟩ : ∃ mo, moreN wide = mo := ⟨_, rfl⟩
  have hbm := moreN_bd wide
  rw [hmo] at hbm
  rw [hmo]
  unfold moreN at hmo
  have hB := hA.set (z := n)
  have hC := hB.set (z := n + mo)
  have hw : wrap64 (n + mo) = n + mo := w64 (by omega) (by omega)
  have v1 := hB.q.c1
  have v2 := hB.q.c2
  simp only at v1 v2
  have t1 := hB.v.c1
  have tz := hB.v.z 1
  have hl := run_ldK hC.v
  have hs := run_stK (m' := ⟨1, n + mo⟩) hC.r
  have HX := hide (KBox.setRow (m' := ⟨1, n + mo⟩) hC.r)
  have HE := hide (below_setRow (cs := KC ⟨1, n + mo⟩) hC.bel (show w.heap.size ≤ g3 + 1 by have := hC.pos; omega))
  clear hA hB hC hbm
  go_enter Try.func38, Try.ntmps38
  go_wp2_with fail
  refine bodyPost_ret (v := KV ⟨1, n + mo⟩) ?_ rfl ⟨rfl, HE.out⟩
  exact res1K Try.results38 rfl HX.out
set_option maxRecDepth 100000 in
theorem fit1b (z n : Int) (b : Bool) (s : ByteArray) (wide : Int) (w : World) (h : ¬ n < 4611686018427387904) : Calls Try.prog 38 #[.agg (QC ⟨z, 1, n, b, s⟩), .int .i64 wide] w fun r w' => r = .returned (.agg (KC ⟨1, n⟩)) ∧ Below w.heap.size w w' := by
  obtain ⟨g3, hg3⟩ : ∃ g3, w.heap.size = g3 := ⟨_, rfl⟩
  obtain ⟨wa, hwa⟩ : ∃ wa, w.alloc (.cells (QC ⟨z, 1, n, b, s⟩) 42) = wa := ⟨_, rfl⟩
  obtain ⟨wb, hwb⟩ : ∃ wb, wa.alloc (.cells (KC ⟨0, 0⟩) 32) = wb := ⟨_, rfl⟩
  have hsa : wa.heap.size = g3 + 1 := by rw [← hwa, World.size_alloc, hg3]
  have hsb : wb.heap.size = g3 + 2 := by rw [← hwb, World.size_alloc, hsa]
  obtain ⟨wq, hst, M5, b5, z5⟩ := madeK wb ⟨1, 0⟩ (g3 + 2) hsb
  simp only [k0] at hst
  have hA := fb_made ⟨z, 1, n, b, s⟩ ⟨1, 0⟩ hwa hwb hg3 hsa M5 b5
  have hwz : QBox (wb.alloc (.cells (KC ⟨0, 0⟩) 32)) g3 ⟨z, 1, n, b, s⟩ := by
    have b1 := below_new wb (.cells (KC ⟨0, 0⟩) 32)
    have h1 : QBox (w.alloc (.cells (QC ⟨z, 1, n, b, s⟩) 42)) w.heap.size ⟨z, 1, n, b, s⟩ := QBox_new w _
    rw [hwa, hg3] at h1
    have b2 := below_new wa (.cells (KC ⟨0, 0⟩) 32)
    rw [hwb] at b2
    exact (h1.below b2).below b1
  have hwz1 : QBox wb g3 ⟨z, 1, n, b, s⟩ := by
    have h1 : QBox (w.alloc (.cells (QC ⟨z, 1, n, b, s⟩) 42)) w.heap.size ⟨z, 1, n, b, s⟩ := QBox_new w _
    rw [hwa, hg3] at h1
    have b2 := below_new wa (.cells (KC ⟨0, 0⟩) 32)
    rw [hwb] at b2
    exact h1.below b2
  have u1 := hwz.c1
  have u2 := hwz1.c1
  have x1 := hA.q.c1
  have x2 := hA.q.c2
  have x4 := hA.q.c4
  simp only at x1 x2 x4 u1 u2
  have y1 := hA.v.c1
  have yz := hA.v.z 1
  clear M5 b5 z5 hwz hwz1
  have hB := hA.set (z := n)
  have v1 := hB.q.c1
  have v2 := hB.q.c2
  simp only at v1 v2
  have hl := run_ldK hB.v
  have hs := run_stK (m' := ⟨1, n⟩) hB.r
  have HX := hide (KBox.setRow (m' := ⟨1, n⟩) hB.r)
  have HE := hide (below_setRow (cs := KC ⟨1, n⟩) hB.bel (show w.heap.size ≤ g3 + 1 by have := hB.pos; omega))
  clear hA hB
  go_enter Try.func38, Try.ntmps38
  go_wp2_with fail
  refine bodyPost_ret (v := KV ⟨1, n⟩) ?_ rfl ⟨rfl, HE.out⟩
  exact res1K Try.results38 rfl HX.out
set_option maxRecDepth 100000 in
theorem fit2 (z n : Int) (b : Bool) (s : ByteArray) (wide : Int) (w : World) : Calls Try.prog 38 #[.agg (QC ⟨z, 2, n, b, s⟩), .int .i64 wide] w fun r w' => r = .returned (.agg (KC ⟨2, 0⟩)) ∧ Below w.heap.size w w' := by
  obtain ⟨g3, hg3⟩ : ∃ g3, w.heap.size = g3 := ⟨_, rfl⟩
  obtain ⟨wa, hwa⟩ : ∃ wa, w.alloc (.cells (QC ⟨z, 2, n, b, s⟩) 42) = wa := ⟨_, rfl⟩
  obtain ⟨wb, hwb⟩ : ∃ wb, wa.alloc (.cells (KC ⟨0, 0⟩) 32) = wb := ⟨_, rfl⟩
  have hsa : wa.heap.size = g3 + 1 := by rw [← hwa, World.size_alloc, hg3]
  have hsb : wb.heap.size = g3 + 2 := by rw [← hwb, World.size_alloc, hsa]
  obtain ⟨wq, hst, M5, b5, z5⟩ := madeK wb ⟨2, 0⟩ (g3 + 2) hsb
  simp only [k0] at hst
  have hA := fb_made ⟨z, 2, n, b, s⟩ ⟨2, 0⟩ hwa hwb hg3 hsa M5 b5
  have hwz : QBox (wb.alloc (.cells (KC ⟨0, 0⟩) 32)) g3 ⟨z, 2, n, b, s⟩ := by
    have b1 := below_new wb (.cells (KC ⟨0, 0⟩) 32)
    have h1 : QBox (w.alloc (.cells (QC ⟨z, 2, n, b, s⟩) 42)) w.heap.size ⟨z, 2, n, b, s⟩ := QBox_new w _
    rw [hwa, hg3] at h1
    have b2 := below_new wa (.cells (KC ⟨0, 0⟩) 32)
    rw [hwb] at b2
    exact (h1.below b2).below b1
  have hwz1 : QBox wb g3 ⟨z, 2, n, b, s⟩ := by
    have h1 : QBox (w.alloc (.cells (QC ⟨z, 2, n, b, s⟩) 42)) w.heap.size ⟨z, 2, n, b, s⟩ := QBox_new w _
    rw [hwa, hg3] at h1
    have b2 := below_new wa (.cells (KC ⟨0, 0⟩) 32)
    rw [hwb] at b2
    exact h1.below b2
  have u1 := hwz.c1
  have u2 := hwz1.c1
  have x1 := hA.q.c1
  have x2 := hA.q.c2
  have x4 := hA.q.c4
  simp only at x1 x2 x4 u1 u2
  have y1 := hA.v.c1
  have yz := hA.v.z 1
  clear M5 b5 z5 hwz hwz1
  have hl := run_ldK hA.v
  have hs := run_stK (m' := ⟨2, 0⟩) hA.r
  have HX := hide (KBox.setRow (m' := ⟨2, 0⟩) hA.r)
  have HE := hide (below_setRow (cs := KC ⟨2, 0⟩) hA.bel (show w.heap.size ≤ g3 + 1 by have := hA.pos; omega))
  clear hA
  go_enter Try.func38, Try.ntmps38
  go_wp2_with fail
  refine bodyPost_ret (v := KV ⟨2, 0⟩) ?_ rfl ⟨rfl, HE.out⟩
  exact res1K Try.results38 rfl HX.out
set_option maxRecDepth 100000 in
theorem fit3 (z n : Int) (b : Bool) (s : ByteArray) (wide : Int) (w : World) (h : s.size ≤ 1048576) : Calls Try.prog 38 #[.agg (QC ⟨z, 3, n, b, s⟩), .int .i64 wide] w fun r w' => r = .returned (.agg (KC ⟨3, (s.size : Int) + moreN wide⟩)) ∧ Below w.heap.size w w' := by
  obtain ⟨g3, hg3⟩ : ∃ g3, w.heap.size = g3 := ⟨_, rfl⟩
  obtain ⟨wa, hwa⟩ : ∃ wa, w.alloc (.cells (QC ⟨z, 3, n, b, s⟩) 42) = wa := ⟨_, rfl⟩
  obtain ⟨wb, hwb⟩ : ∃ wb, wa.alloc (.cells (KC ⟨0, 0⟩) 32) = wb := ⟨_, rfl⟩
  have hsa : wa.heap.size = g3 + 1 := by rw [← hwa, World.size_alloc, hg3]
  have hsb : wb.heap.size = g3 + 2 := by rw [← hwb, World.size_alloc, hsa]
  obtain ⟨wq, hst, M5, b5, z5⟩ := madeK wb ⟨3, 0⟩ (g3 + 2) hsb
  simp only [k0] at hst
  have hA := fb_made ⟨z, 3, n, b, s⟩ ⟨3, 0⟩ hwa hwb hg3 hsa M5 b5
  have hwz : QBox (wb.alloc (.cells (KC ⟨0, 0⟩) 32)) g3 ⟨z, 3, n, b, s⟩ := by
    have b1 := below_new wb (.cells (KC ⟨0, 0⟩) 32)
    have h1 : QBox (w.alloc (.cells (QC ⟨z, 3, n, b, s⟩) 42)) w.heap.size ⟨z, 3, n, b, s⟩ := QBox_new w _
    rw [hwa, hg3] at h1
    have b2 := below_new wa (.cells (KC ⟨0, 0⟩) 32)
    rw [hwb] at b2
    exact (h1.below b2).below b1
  have hwz1 : QBox wb g3 ⟨z, 3, n, b, s⟩ := by
    have h1 : QBox (w.alloc (.cells (QC ⟨z, 3, n, b, s⟩) 42)) w.heap.size ⟨z, 3, n, b, s⟩ := QBox_new w _
    rw [hwa, hg3] at h1
    have b2 := below_new wa (.cells (KC ⟨0, 0⟩) 32)
    rw [hwb] at b2
    exact h1.below b2
  have u1 := hwz.c1
  have u2 := hwz1.c1
  have x1 := hA.q.c1
  have x2 := hA.q.c2
  have x4 := hA.q.c4
  simp only at x1 x2 x4 u1 u2
  have y1 := hA.v.c1
  have yz := hA.v.z 1
  clear M5 b5 z5 hwz hwz1
  obtain ⟨mo, hmo⟩ : ∃ mo, moreN wide = mo := ⟨_, rfl⟩
  have hbm := moreN_bd wide
  rw [hmo] at hbm
  rw [hmo]
  unfold moreN at hmo
  have hB := hA.set (z := (s.size : Int) + mo)
  have hw : wrap64 ((s.size : Int) + mo) = (s.size : Int) + mo := w64 (by omega) (by omega)
  have hl := run_ldK hB.v
  have hs := run_stK (m' := ⟨3, (s.size : Int) + mo⟩) hB.r
  have HX := hide (KBox.setRow (m' := ⟨3, (s.size : Int) + mo⟩) hB.r)
  have HE := hide (below_setRow (cs := KC ⟨3, (s.size : Int) + mo⟩) hB.bel (show w.heap.size ≤ g3 + 1 by have := hB.pos; omega))
  clear hA hB hbm
  go_enter Try.func38, Try.ntmps38
  go_wp2_with fail
  refine bodyPost_ret (v := KV ⟨3, (s.size : Int) + mo⟩) ?_ rfl ⟨rfl, HE.out⟩
  exact res1K Try.results38 rfl HX.out
set_option maxRecDepth 100000 in
theorem fit4 (z n : Int) (b : Bool) (s : ByteArray) (wide : Int) (w : World) (h : s.size ≤ 1048576) : Calls Try.prog 38 #[.agg (QC ⟨z, 4, n, b, s⟩), .int .i64 wide] w fun r w' => r = .returned (.agg (KC ⟨4, (s.size : Int) + moreN wide⟩)) ∧ Below w.heap.size w w' := by
  obtain ⟨g3, hg3⟩ : ∃ g3, w.heap.size = g3 := ⟨_, rfl⟩
  obtain ⟨wa, hwa⟩ : ∃ wa, w.alloc (.cells (QC ⟨z, 4, n, b, s⟩) 42) = wa := ⟨_, rfl⟩
  obtain ⟨wb, hwb⟩ : ∃ wb, wa.alloc (.cells (KC ⟨0, 0⟩) 32) = wb := ⟨_, rfl⟩
  have hsa : wa.heap.size = g3 + 1 := by rw [← hwa, World.size_alloc, hg3]
  have hsb : wb.heap.size = g3 + 2 := by rw [← hwb, World.size_alloc, hsa]
  obtain ⟨wq, hst, M5, b5, z5⟩ := madeK wb ⟨4, 0⟩ (g3 + 2) hsb
  simp only [k0] at hst
  have hA := fb_made ⟨z, 4, n, b, s⟩ ⟨4, 0⟩ hwa hwb hg3 hsa M5 b5
  have hwz : QBox (wb.alloc (.cells (KC ⟨0, 0⟩) 32)) g3 ⟨z, 4, n, b, s⟩ := by
    have b1 := below_new wb (.cells (KC ⟨0, 0⟩) 32)
    have h1 : QBox (w.alloc (.cells (QC ⟨z, 4, n, b, s⟩) 42)) w.heap.size ⟨z, 4, n, b, s⟩ := QBox_new w _
    rw [hwa, hg3] at h1
    have b2 := below_new wa (.cells (KC ⟨0, 0⟩) 32)
    rw [hwb] at b2
    exact (h1.below b2).below b1
  have hwz1 : QBox wb g3 ⟨z, 4, n, b, s⟩ := by
    have h1 : QBox (w.alloc (.cells (QC ⟨z, 4, n, b, s⟩) 42)) w.heap.size ⟨z, 4, n, b, s⟩ := QBox_new w _
    rw [hwa, hg3] at h1
    have b2 := below_new wa (.cells (KC ⟨0, 0⟩) 32)
    rw [hwb] at b2
    exact h1.below b2
  have u1 := hwz.c1
  have u2 := hwz1.c1
  have x1 := hA.q.c1
  have x2 := hA.q.c2
  have x4 := hA.q.c4
  simp only at x1 x2 x4 u1 u2
  have y1 := hA.v.c1
  have yz := hA.v.z 1
  clear M5 b5 z5 hwz hwz1
  obtain ⟨mo, hmo⟩ : ∃ mo, moreN wide = mo := ⟨_, rfl⟩
  have hbm := moreN_bd wide
  rw [hmo] at hbm
  rw [hmo]
  unfold moreN at hmo
  have hB := hA.set (z := (s.size : Int) + mo)
  have hw : wrap64 ((s.size : Int) + mo) = (s.size : Int) + mo := w64 (by omega) (by omega)
  have hl := run_ldK hB.v
  have hs := run_stK (m' := ⟨4, (s.size : Int) + mo⟩) hB.r
  have HX := hide (KBox.setRow (m' := ⟨4, (s.size : Int) + mo⟩) hB.r)
  have HE := hide (below_setRow (cs := KC ⟨4, (s.size : Int) + mo⟩) hB.bel (show w.heap.size ≤ g3 + 1 by have := hB.pos; omega))
  clear hA hB hbm
  go_enter Try.func38, Try.ntmps38
  go_wp2_with fail
  refine bodyPost_ret (v := KV ⟨4, (s.size : Int) + mo⟩) ?_ rfl ⟨rfl, HE.out⟩
  exact res1K Try.results38 rfl HX.out
theorem fitting_any (s : Stp) (hs : OkS s) (wide : Int) (w : World) : Calls Try.prog 38 #[.agg (QC s), .int .i64 wide] w fun r w' => r = .returned (.agg (KC ⟨s.kind, fitN s wide⟩)) ∧ Below w.heap.size w w' := by
  obtain ⟨z, k, n, b, t⟩ := s
  have hk := hs.kind
  have hl := hs.len
  have hn := hs.num
  simp only at hk hl hn
  unfold fitN
  simp only
  rcases kinds4 hk with rfl | rfl | rfl | rfl
  · rw [if_pos rfl]
    split
    · exact fit1a z n b t wide w (hn rfl) (by assumption)
    · exact fit1b z n b t wide w (by assumption)
  · exact fit2 z n b t wide w
  · exact fit3 z n b t wide w hl
  · exact fit4 z n b t wide w hl
end Go.Proofs.Ytflinfmhmokfhaa
