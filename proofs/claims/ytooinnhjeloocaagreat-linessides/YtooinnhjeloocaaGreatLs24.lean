/- ONa -/
import Derived.Test.YtooinnhjeloocaaGreatLs20
import Derived.Test.YtooinnhjeloocaaGreatLs02
namespace Go.Proofs.YtooinnhjeloocaaGreat
open Go.RowKit

/-- a run against a dot -/
def nrC (s : Sn) (d : Rn) : Int := or2 (cmpI s.rep d.lo) (cmpI s.hi d.hi)
theorem nrC_neg (s : Sn) (d : Rn) : nrC s d < 0 ↔ s.rep < d.lo ∨ (s.rep = d.lo ∧ s.hi < d.hi) := by
  unfold nrC or2 cmpI
  by_cases h1 : s.rep < d.lo
  · simp [h1]
  · by_cases h2 : d.lo < s.rep
    · simp [h1, h2]; omega
    · have h3 : s.rep = d.lo := by omega
      by_cases h4 : s.hi < d.hi
      · simp [h3, h4]
      · by_cases h5 : d.hi < s.hi <;> simp [h3, h4, h5]
set_option maxRecDepth 100000 in
set_option maxHeartbeats 1600000 in
theorem nrC_any (s : Sn) (d : Rn) (w : World) : Calls Tryz.prog 57 #[SV s, RV d] w fun e w' => e = .returned (.int .i64 (nrC s d)) ∧ Below w.heap.size w w' := by
  have b1 := below_new w (.cells (SC s) 55)
  have x1 := sbox_new w s
  have s1 := World.size_alloc w (.cells (SC s) 55)
  obtain ⟨w1, hw1⟩ : ∃ w1, w.alloc (.cells (SC s) 55) = w1 := ⟨_, rfl⟩
  obtain ⟨g1, hg1⟩ : ∃ g1, w.heap.size = g1 := ⟨_, rfl⟩
  rw [hw1] at b1 x1 s1
  rw [hg1] at x1 s1
  have b2 := below_new w1 (.cells (RC d) 28)
  have x2 := box_new w1 28 d
  obtain ⟨w2, hw2⟩ : ∃ w2, w1.alloc (.cells (RC d) 28) = w2 := ⟨_, rfl⟩
  rw [hw2] at b2 x2
  rw [s1] at x2
  have HB := hide (b1.trans (b2.mono b1.size))
  have HX : Hid (SBox w2 g1 s ∧ Box w2 (g1 + 1) 28 d) := ⟨x1.below b2, x2⟩
  have HSt : Hid (∀ W, Below w2.heap.size w2 W → W.cell? ⟨g1, 0, none⟩ = some (.int .i64 s.rep) ∧ W.cell? ⟨g1, 2, none⟩ = some (.int .i64 s.hi) ∧ W.cell? ⟨g1 + 1, 0, none⟩ = some (.int .i64 d.lo) ∧ W.cell? ⟨g1 + 1, 1, none⟩ = some (.int .i64 d.hi)) := fun W hW => by
    obtain ⟨c0, -, c2⟩ := (HX.out.1.below hW).at
    have hd := (HX.out.2.below hW).at
    exact ⟨c0, c2, hd.c0, hd.c1⟩
  obtain ⟨p, Hp⟩ : ∃ p, Hid (cmpI s.rep d.lo = p) := ⟨_, rfl⟩
  obtain ⟨q, Hq⟩ : ∃ q, Hid (cmpI s.hi d.hi = q) := ⟨_, rfl⟩
  have HR : Hid (nrC s d = or2 p q) := by show _ = _; unfold nrC; rw [Hp.out, Hq.out]
  clear b1 b2 x1 x2
  go_enter Tryz.func57, Tryz.ntmps57
  go_wp2_with fail
  clear hw1 hw2 s1 hg1
  refine wp_region_held_drew (S := fun W => W.cell? ⟨g1, 0, none⟩ = some (.int .i64 s.rep) ∧ W.cell? ⟨g1, 2, none⟩ = some (.int .i64 s.hi) ∧ W.cell? ⟨g1 + 1, 0, none⟩ = some (.int .i64 d.lo) ∧ W.cell? ⟨g1 + 1, 1, none⟩ = some (.int .i64 d.hi)) (by kernel_rfl) (HSt.out _ (below_drew1 w2)) (fun hHeld => ?_)
  refine wpAnyH_take (i := 0) (oi := { dst := some 5, op := Op.fieldAddr 55 (Operand.tmp 2) 0, type := 0, pos := "picks.go:85", after := #[], guard := none }) (v := ?_) rfl (by kernel_rfl) (by kernel_rfl) (by kernel_rfl) (fun _ _ _ h => h) (Or.inl ⟨by rfl, ?_⟩) (by assumption) ?_
  rotate_left
  · (intro w hSw; (try dsimp only at hSw); go_simp); first | done | with_reducible rfl
  simp only [Act.put, List.setIfInBounds_toArray, List.set_cons_zero, List.set_cons_succ]
  refine wpAnyH_take (i := 1) (oi := { dst := some 6, op := Op.load 3 (Operand.tmp 5), type := 3, pos := "picks.go:85", after := #[{ on := 0, ground := Ground.data }], guard := none }) (v := ?_) rfl (by kernel_rfl) (by kernel_rfl) (by kernel_rfl) (fun _ _ _ h => h) (Or.inl ⟨by rfl, ?_⟩) (by assumption) ?_
  rotate_left
  · (intro w hSw; (try dsimp only at hSw); go_simp); first | done | with_reducible rfl
  simp only [Act.put, List.setIfInBounds_toArray, List.set_cons_zero, List.set_cons_succ]
  refine wpAnyH_take (i := 2) (oi := { dst := some 7, op := Op.fieldAddr 28 (Operand.tmp 3) 0, type := 0, pos := "picks.go:85", after := #[], guard := none }) (v := ?_) rfl (by kernel_rfl) (by kernel_rfl) (by kernel_rfl) (fun _ _ _ h => h) (Or.inl ⟨by rfl, ?_⟩) (by assumption) ?_
  rotate_left
  · (intro w hSw; (try dsimp only at hSw); go_simp); first | done | with_reducible rfl
  simp only [Act.put, List.setIfInBounds_toArray, List.set_cons_zero, List.set_cons_succ]
  refine wpAnyH_take (i := 3) (oi := { dst := some 8, op := Op.load 3 (Operand.tmp 7), type := 3, pos := "picks.go:85", after := #[{ on := 2, ground := Ground.data }], guard := none }) (v := ?_) rfl (by kernel_rfl) (by kernel_rfl) (by kernel_rfl) (fun _ _ _ h => h) (Or.inl ⟨by rfl, ?_⟩) (by assumption) ?_
  rotate_left
  · (intro w hSw; (try dsimp only at hSw); go_simp); first | done | with_reducible rfl
  simp only [Act.put, List.setIfInBounds_toArray, List.set_cons_zero, List.set_cons_succ]
  refine wpAnyH_take (i := 5) (oi := { dst := some 10, op := Op.fieldAddr 55 (Operand.tmp 2) 2, type := 0, pos := "picks.go:85", after := #[], guard := none }) (v := ?_) rfl (by kernel_rfl) (by kernel_rfl) (by kernel_rfl) (fun _ _ _ h => h) (Or.inl ⟨by rfl, ?_⟩) (by assumption) ?_
  rotate_left
  · (intro w hSw; (try dsimp only at hSw); go_simp); first | done | with_reducible rfl
  simp only [Act.put, List.setIfInBounds_toArray, List.set_cons_zero, List.set_cons_succ]
  refine wpAnyH_take (i := 6) (oi := { dst := some 11, op := Op.load 3 (Operand.tmp 10), type := 3, pos := "picks.go:85", after := #[{ on := 5, ground := Ground.data }], guard := none }) (v := ?_) rfl (by kernel_rfl) (by kernel_rfl) (by kernel_rfl) (fun _ _ _ h => h) (Or.inl ⟨by rfl, ?_⟩) (by assumption) ?_
  rotate_left
  · (intro w hSw; (try dsimp only at hSw); go_simp); first | done | with_reducible rfl
  simp only [Act.put, List.setIfInBounds_toArray, List.set_cons_zero, List.set_cons_succ]
  refine wpAnyH_take (i := 7) (oi := { dst := some 12, op := Op.fieldAddr 28 (Operand.tmp 3) 1, type := 0, pos := "picks.go:85", after := #[], guard := none }) (v := ?_) rfl (by kernel_rfl) (by kernel_rfl) (by kernel_rfl) (fun _ _ _ h => h) (Or.inl ⟨by rfl, ?_⟩) (by assumption) ?_
  rotate_left
  · (intro w hSw; (try dsimp only at hSw); go_simp); first | done | with_reducible rfl
  simp only [Act.put, List.setIfInBounds_toArray, List.set_cons_zero, List.set_cons_succ]
  refine wpAnyH_take (i := 8) (oi := { dst := some 13, op := Op.load 3 (Operand.tmp 12), type := 3, pos := "picks.go:85", after := #[{ on := 7, ground := Ground.data }], guard := none }) (v := ?_) rfl (by kernel_rfl) (by kernel_rfl) (by kernel_rfl) (fun _ _ _ h => h) (Or.inl ⟨by rfl, ?_⟩) (by assumption) ?_
  rotate_left
  · (intro w hSw; (try dsimp only at hSw); go_simp); first | done | with_reducible rfl
  simp only [Act.put, List.setIfInBounds_toArray, List.set_cons_zero, List.set_cons_succ]
  refine wpAnyH_ready (rs := [4]) (by kernel_rfl) (by simp) ?_
  refine AllReadyH.cons rfl (fun K hK => ?_) ?_
  rotate_left
  · exact AllReadyH.nil
  go_simp
  go_wp2_with fail
  refine (cmp_any s.rep d.lo _).mono ?_
  rintro e w' ⟨rfl, rfl⟩
  rw [Hp.out]
  refine hK.out _ _ (HSt.out _ (below_drew1 w2)) (fun hHeld => ?_)
  clear hK K
  refine wpAnyH_ready (rs := [9]) (by kernel_rfl) (by simp) ?_
  refine AllReadyH.cons rfl (fun K hK => ?_) ?_
  rotate_left
  · exact AllReadyH.nil
  go_simp
  go_wp2_with fail
  refine (cmp_any s.hi d.hi _).mono ?_
  rintro e w' ⟨rfl, rfl⟩
  rw [Hq.out]
  refine hK.out _ _ (HSt.out _ (below_drew1 w2)) (fun hHeld => ?_)
  clear hK K
  have HB3 := hide ((below_drew1 w2).trans (below_new w2.drew (.cells #[.int .i64 p, .int .i64 q] 3)))
  have HO := hide (or2_new p q w2.drew w2.heap.size rfl)
  refine wpAnyH_ready (rs := [10]) (by kernel_rfl) (by simp) ?_
  refine AllReadyH.cons rfl (fun K hK => ?_) ?_
  rotate_left
  · exact AllReadyH.nil
  go_simp
  refine hK.out _ _ (HSt.out _ HB3.out) (fun hHeld => ?_)
  clear hK K
  refine wpAnyH_ready (rs := [11]) (by kernel_rfl) (by simp) ?_
  refine AllReadyH.cons rfl (fun K hK => ?_) ?_
  rotate_left
  · exact AllReadyH.nil
  go_simp
  go_wp2_with fail
  refine HO.out.mono ?_
  rintro e w' ⟨rfl, rfl⟩
  refine hK.out _ _ (HSt.out _ HB3.out) (fun hHeld => ?_)
  clear hK K
  refine wpAnyH_take (i := 12) (oi := { dst := some 4, op := Op.assign (Operand.tmp 16), type := 3, pos := "picks.go:85", after := #[{ on := 11, ground := Ground.data }, { on := 11, ground := Ground.chain }, { on := 0, ground := Ground.phase }, { on := 1, ground := Ground.phase }, { on := 2, ground := Ground.phase }, { on := 3, ground := Ground.phase }, { on := 4, ground := Ground.phase }, { on := 5, ground := Ground.phase }, { on := 6, ground := Ground.phase }, { on := 7, ground := Ground.phase }, { on := 8, ground := Ground.phase }, { on := 9, ground := Ground.phase }, { on := 10, ground := Ground.phase }, { on := 11, ground := Ground.phase }], guard := none }) (v := ?_) rfl (by kernel_rfl) (by kernel_rfl) (by kernel_rfl) (fun _ _ _ h => h) (Or.inl ⟨by rfl, ?_⟩) (by assumption) ?_
  rotate_left
  · (intro w hSw; (try dsimp only at hSw); go_simp); first | done | with_reducible rfl
  simp only [Act.put, List.setIfInBounds_toArray, List.set_cons_zero, List.set_cons_succ]
  refine wpAnyH_done (by kernel_rfl) ?_ _
  clear hHeld
  go_wp2_with fail
  go_ret
  exact ⟨ret_int HR.out.symm, HB.out.trans (HB3.out.mono HB.out.size)⟩
end Go.Proofs.YtooinnhjeloocaaGreat
