/- The pool's calls: New, Put, Copy, Trim. -/
import Derived.Test.YthagachlilnjpaaXPd
import Derived.Carry
namespace Go.Proofs.Ythagachlilnjpaa
open Go.RowKit Go.Maps
variable {w w' w2 : World} {g mb made K : Nat} {M : Int → Option Ltr} {C : Int → List Int}
attribute [local go_sem ↓] ldT_eq stT_eq

theorem new_any (w : World) : Calls Try.prog 6 #[] w fun r w' => r = .returned (ptr (w.heap.size + 1)) ∧ Pl w' (w.heap.size + 1) w.heap.size 0 0 (fun _ => none) (fun _ => []) ∧ Below w.heap.size w w' := by
  have HP : Hid (Pl ((w.alloc (.map #[] 0)).alloc (.cells #[.int .i64 0, .map (some w.heap.size)] 61)) (w.heap.size + 1) w.heap.size 0 0 (fun _ => none) (fun _ => []) ∧ Below w.heap.size w ((w.alloc (.map #[] 0)).alloc (.cells #[.int .i64 0, .map (some w.heap.size)] 61))) := by
    have b1 := below_new w (.map #[] 0)
    have b2 := below_new (w.alloc (.map #[] 0)) (.cells #[.int .i64 0, .map (some w.heap.size)] 61)
    have hm := World.ownsMap_made w Try.prog 3 RT
    refine ⟨⟨?_, ⟨_, hm.alloc _, md_start⟩, (fun x l e => by cases e), (fun x l e => by cases e), by omega⟩, b1.trans (b2.mono b1.size)⟩
    have := heap_alloc_new (w.alloc (.map #[] 0)) (.cells #[.int .i64 0, .map (some w.heap.size)] 61)
    rw [World.size_alloc] at this
    exact this
  have hmm := @run_makeMap Try.prog
  go_enter Try.func6, Try.ntmps6
  go_wp2_with fail
  go_ret
  exact ⟨rfl, HP.out.1, HP.out.2⟩
theorem Pl.setMade (P : Pl w g mb made K M C) (m2 : Nat) (h : made ≤ m2) : Pl (w.setCell ⟨g, 0, none⟩ (.int .i64 (m2 : Int))) g mb m2 K M C ∧ Fw w (w.setCell ⟨g, 0, none⟩ (.int .i64 (m2 : Int))) g mb := by
  have F : Fw w (w.setCell ⟨g, 0, none⟩ (.int .i64 (m2 : Int))) g mb := ⟨rfl, rfl, rfl, by rw [set_size]; exact Nat.le_refl _, fun k _ h1 _ => set_other w g 0 k _ h1⟩
  obtain ⟨D, hm, hM⟩ := P.map
  refine ⟨⟨?_, ⟨D, owns_below hm (set_other w g 0 mb _ (Ne.symm P.ne)), hM⟩, fun x l e => (P.row x l e).keep F, fun x l e => ?_, P.ne⟩, F⟩
  · have := P.box
    simp [World.setCell, this, Array.getElem?_modify]
  · have := P.dom x l e
    exact ⟨this.1, by omega⟩
set_option maxRecDepth 100000 in
theorem put_any (P : Pl w g mb made K M C) (f t : Int) (o : Option Addr) (n c : Nat) (Z : List Int) (S : BS w o n c Z) (hne : ∀ k, blk o = some k → k ≠ g) (hn : n ≤ 140737488355328) (hm : made < 9223372036854775807) (hK : K < maxLen) :
    Calls Try.prog 8 #[ptr g, TV ⟨f, t, o, n, c⟩] w fun r w' => r = .returned (.int .i64 ((made + 1 : Nat) : Int)) ∧ ∃ bo cc, Pl w' g mb (made + 1) (K + 1) (mput M ((made + 1 : Nat) : Int) ⟨f, t, bo, n, cc⟩) (cput C ((made + 1 : Nat) : Int) Z) ∧ Fw w w' g mb ∧ ∀ k, blk bo = some k → w.heap.size ≤ k := by
  obtain ⟨w1, hw1⟩ : ∃ w1, w.alloc (.cells (TC ⟨f, t, o, n, c⟩) 40) = w1 := ⟨_, rfl⟩
  obtain ⟨g1, hg1⟩ : ∃ g1, w.heap.size = g1 := ⟨_, rfl⟩
  have b1 := below_new w (.cells (TC ⟨f, t, o, n, c⟩) 40)
  have T1 := TBox_new w ⟨f, t, o, n, c⟩
  rw [hw1] at b1
  rw [hw1, hg1] at T1
  have P1 := P.below b1
  have hlt := P.g_lt
  have hlm := P.mb_lt
  have x0 := P1.c0
  have f0 : w1.frozen? ⟨g, 0, none⟩ = false := frozen_of_box P1.box 0
  have ew : wrap64 ((made : Int) + 1) = ((made + 1 : Nat) : Int) := by rw [w64 (by omega) (by omega)]; rfl
  obtain ⟨m2, hm2⟩ : ∃ m2, made + 1 = m2 := ⟨_, rfl⟩
  rw [hm2] at ew
  obtain ⟨w2, hw2⟩ : ∃ w2, w1.setCell ⟨g, 0, none⟩ (.int .i64 (m2 : Int)) = w2 := ⟨_, rfl⟩
  obtain ⟨P2, F2⟩ := P1.setMade m2 (by omega)
  rw [hw2] at P2 F2
  have S2 : BS w2 o n c Z := by rw [← hw2]; exact (S.below b1).blkKeep fun k e => set_other w1 g 0 k _ (hne k e)
  have T2 : TBox w2 g1 ⟨f, t, o, n, c⟩ := by rw [← hw2]; exact (set_other w1 g 0 g1 _ (by omega)).trans T1
  have HC : Hid (∀ j, Calls Try.prog 27 #[TV ⟨f, t, o, n, c⟩] (w2.drewN j) fun r w' => ∃ bo cc, r = .returned (TV ⟨f, t, bo, n, cc⟩) ∧ BR w' bo n cc Z ∧ NewB (w2.drewN j) w' bo) := fun j => own_any f t o n c Z (w2.drewN j) (S2.below (below_drewN _ _)) hn
  have HS28 : Hid (w2.drew.cell? ⟨g, 1, none⟩ = some (.map (some mb)) ∧ w2.drew.cell? ⟨g, 0, none⟩ = some (.int .i64 (m2 : Int)) ∧ (ldT (.pointer (some ⟨g1, 0, none⟩))).run Try.prog w2.drew = .ok (.agg (TC ⟨f, t, o, n, c⟩)) w2.drew) := ⟨P2.c1, P2.c0, run_ldT (T2.below (below_drew1 _))⟩
  have HF : Hid (∀ (w3 : World) (bo : Option Addr) (cc : Nat), BR w3 bo n cc Z → NewB (w2.drewN 1) w3 bo → ∃ w4, (Instr.mapUpdate 59 (.map (some mb)) (.int .i64 (m2 : Int)) (.agg (TC ⟨f, t, bo, n, cc⟩))).run Try.prog w3 = .ok () w4 ∧
      (w3.cell? ⟨g, 1, none⟩ = some (.map (some mb)) ∧ w3.cell? ⟨g, 0, none⟩ = some (.int .i64 (m2 : Int)) ∧ (ldT (.pointer (some ⟨g1, 0, none⟩))).run Try.prog w3 = .ok (.agg (TC ⟨f, t, o, n, c⟩)) w3) ∧
      (w4.cell? ⟨g, 1, none⟩ = some (.map (some mb)) ∧ w4.cell? ⟨g, 0, none⟩ = some (.int .i64 (m2 : Int)) ∧ (ldT (.pointer (some ⟨g1, 0, none⟩))).run Try.prog w4 = .ok (.agg (TC ⟨f, t, o, n, c⟩)) w4) ∧
      Pl w4 g mb m2 (K + 1) (mput M (m2 : Int) ⟨f, t, bo, n, cc⟩) (cput C (m2 : Int) Z) ∧ Fw w w4 g mb ∧ ∀ k, blk bo = some k → w.heap.size ≤ k) := by
    intro w3 bo cc B3 N3
    have b23 : Below w2.heap.size w2 w3 := (below_drewN w2 1).trans N3.1
    have P3 := P2.below b23
    have hs2 := F2.size
    have hs1 := b1.size
    have R3 : Rw w3 g mb ⟨f, t, bo, n, cc⟩ Z := ⟨B3.bs, fun k e => ⟨by have h9 : w2.heap.size ≤ k := N3.2 k e; omega, by have h9 : w2.heap.size ≤ k := N3.2 k e; omega, B3.lt k e⟩, hn, B3.cap⟩
    obtain ⟨w4, hup, P4, N4⟩ := P3.put_run (x := (m2 : Int)) (by unfold i64ok; omega) (by omega) (by omega) R3 hK
    exact ⟨w4, hup, ⟨P3.c1, P3.c0, run_ldT (T2.below b23)⟩, ⟨P4.c1, P4.c0, run_ldT (show TBox w4 g1 _ from (N4.block g1 (by omega)).trans (T2.below b23))⟩, P4, (Fw.of_below b1).trans (F2.trans ((Fw.of_below b23).trans N4.fw)), fun k e => by have h9 : w2.heap.size ≤ k := N3.2 k e; omega⟩
  have HM2 := hide hm2
  clear P S hne hn b1 T1 P1 P2 F2 S2 T2 hK hlt hlm hm hm2
  go_enter Try.func8, Try.ntmps8
  go_wp2_with fail
  refine wp_region_held_drew (S := fun W => W.cell? ⟨g, 1, none⟩ = some (.map (some mb)) ∧ W.cell? ⟨g, 0, none⟩ = some (.int .i64 (m2 : Int)) ∧ (ldT (.pointer (some ⟨g1, 0, none⟩))).run Try.prog W = .ok (.agg (TC ⟨f, t, o, n, c⟩)) W) (by kernel_rfl) (HS28.out) (fun hHeld => ?_)
  refine wpAnyH_take (i := 0) (oi := { dst := some 12, op := Op.move (Operand.tmp 0), type := 24, pos := "pool.go:24", after := #[], guard := none }) (v := ?_) rfl (by kernel_rfl) (by kernel_rfl) (by kernel_rfl) (fun _ _ _ h => h) (Or.inl ⟨by rfl, ?_⟩) (by assumption) ?_
  rotate_left
  · (intro w hSw; (try dsimp only at hSw); go_simp); first | done | with_reducible rfl
  simp only [Act.put, List.setIfInBounds_toArray, List.set_cons_zero, List.set_cons_succ]
  refine wpAnyH_take (i := 1) (oi := { dst := some 13, op := Op.nilCheck (Operand.tmp 12), type := 0, pos := "pool.go:24", after := #[{ on := 0, ground := Ground.data }], guard := none }) (v := ?_) rfl (by kernel_rfl) (by kernel_rfl) (by kernel_rfl) (fun _ _ _ h => h) (Or.inl ⟨by rfl, ?_⟩) (by assumption) ?_
  rotate_left
  · (intro w hSw; (try dsimp only at hSw); go_simp); first | done | with_reducible rfl
  simp only [Act.put, List.setIfInBounds_toArray, List.set_cons_zero, List.set_cons_succ]
  refine wpAnyH_take (i := 2) (oi := { dst := some 14, op := Op.fieldAddr 61 (Operand.tmp 13) 1, type := 0, pos := "pool.go:24", after := #[{ on := 1, ground := Ground.data }], guard := none }) (v := ?_) rfl (by kernel_rfl) (by kernel_rfl) (by kernel_rfl) (fun _ _ _ h => h) (Or.inl ⟨by rfl, ?_⟩) (by assumption) ?_
  rotate_left
  · (intro w hSw; (try dsimp only at hSw); go_simp); first | done | with_reducible rfl
  simp only [Act.put, List.setIfInBounds_toArray, List.set_cons_zero, List.set_cons_succ]
  refine wpAnyH_take (i := 3) (oi := { dst := some 15, op := Op.load 59 (Operand.tmp 14), type := 59, pos := "pool.go:24", after := #[{ on := 2, ground := Ground.data }], guard := none }) (v := ?_) rfl (by kernel_rfl) (by kernel_rfl) (by kernel_rfl) (fun _ _ _ h => h) (Or.inl ⟨by rfl, ?_⟩) (by assumption) ?_
  rotate_left
  · (intro w hSw; (try dsimp only at hSw); go_simp); first | done | with_reducible rfl
  simp only [Act.put, List.setIfInBounds_toArray, List.set_cons_zero, List.set_cons_succ]
  refine wpAnyH_take (i := 4) (oi := { dst := some 16, op := Op.move (Operand.tmp 0), type := 24, pos := "pool.go:24", after := #[], guard := none }) (v := ?_) rfl (by kernel_rfl) (by kernel_rfl) (by kernel_rfl) (fun _ _ _ h => h) (Or.inl ⟨by rfl, ?_⟩) (by assumption) ?_
  rotate_left
  · (intro w hSw; (try dsimp only at hSw); go_simp); first | done | with_reducible rfl
  simp only [Act.put, List.setIfInBounds_toArray, List.set_cons_zero, List.set_cons_succ]
  refine wpAnyH_take (i := 5) (oi := { dst := some 17, op := Op.nilCheck (Operand.tmp 16), type := 0, pos := "pool.go:24", after := #[{ on := 4, ground := Ground.data }], guard := none }) (v := ?_) rfl (by kernel_rfl) (by kernel_rfl) (by kernel_rfl) (fun _ _ _ h => h) (Or.inl ⟨by rfl, ?_⟩) (by assumption) ?_
  rotate_left
  · (intro w hSw; (try dsimp only at hSw); go_simp); first | done | with_reducible rfl
  simp only [Act.put, List.setIfInBounds_toArray, List.set_cons_zero, List.set_cons_succ]
  refine wpAnyH_take (i := 6) (oi := { dst := some 18, op := Op.fieldAddr 61 (Operand.tmp 17) 0, type := 0, pos := "pool.go:24", after := #[{ on := 5, ground := Ground.data }], guard := none }) (v := ?_) rfl (by kernel_rfl) (by kernel_rfl) (by kernel_rfl) (fun _ _ _ h => h) (Or.inl ⟨by rfl, ?_⟩) (by assumption) ?_
  rotate_left
  · (intro w hSw; (try dsimp only at hSw); go_simp); first | done | with_reducible rfl
  simp only [Act.put, List.setIfInBounds_toArray, List.set_cons_zero, List.set_cons_succ]
  refine wpAnyH_take (i := 7) (oi := { dst := some 19, op := Op.load 3 (Operand.tmp 18), type := 3, pos := "pool.go:24", after := #[{ on := 6, ground := Ground.data }], guard := none }) (v := ?_) rfl (by kernel_rfl) (by kernel_rfl) (by kernel_rfl) (fun _ _ _ h => h) (Or.inl ⟨by rfl, ?_⟩) (by assumption) ?_
  rotate_left
  · (intro w hSw; (try dsimp only at hSw); go_simp); first | done | with_reducible rfl
  simp only [Act.put, List.setIfInBounds_toArray, List.set_cons_zero, List.set_cons_succ]
  refine wpAnyH_take (i := 8) (oi := { dst := some 20, op := Op.load 40 (Operand.tmp 3), type := 40, pos := "pool.go:24", after := #[], guard := none }) (v := ?_) rfl (by kernel_rfl) (by kernel_rfl) (by kernel_rfl) (fun _ _ _ h => h) (Or.inl ⟨by rfl, ?_⟩) (by assumption) ?_
  rotate_left
  · (intro w hSw; (try dsimp only at hSw); go_simp); first | done | with_reducible rfl
  simp only [Act.put, List.setIfInBounds_toArray, List.set_cons_zero, List.set_cons_succ]
  refine wpAnyH_ready (rs := [9]) (by kernel_rfl) (by simp) ?_
  refine AllReadyH.cons rfl (fun K hK => ?_) ?_
  rotate_left
  · exact AllReadyH.nil
  go_simp
  go_wp2_with fail
  refine (HC.out 1).mono ?_
  rintro r w3 ⟨bo, cc, rfl, B3, N3⟩
  obtain ⟨w4, hup, S3, S4, P4, F4, hk4⟩ := HF.out w3 bo cc B3 N3
  have HK4 := hide hk4
  have HP4 := hide P4
  have HF4 := hide F4
  refine hK.out _ _ S3 (fun hHeld => ?_)
  clear hK K
  refine wpAnyH_ready (rs := [10]) (by kernel_rfl) (by simp) ?_
  refine AllReadyH.cons rfl (fun K hK => ?_) ?_
  rotate_left
  · exact AllReadyH.nil
  go_simp
  refine hK.out _ _ S4 (fun hHeld => ?_)
  clear hK K
  refine wpAnyH_done (by kernel_rfl) ?_ _
  clear hHeld
  have x4 := HP4.out.c0
  clear S3 S4 P4 F4 B3 N3 hk4
  go_wp2_with fail
  go_ret
  obtain rfl := HM2.out
  exact ⟨rfl, bo, cc, HP4.out, HF4.out, HK4.out⟩
end Go.Proofs.Ythagachlilnjpaa
