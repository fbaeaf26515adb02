/- The reference's calls: Spend, Copy; the law's same. -/
import Derived.Test.YthagachlilnjpaaXRf
namespace Go.Proofs.Ythagachlilnjpaa
open Go.RowKit Go.Maps
variable {w w' w2 : World} {g r n c : Nat} {ao : Option Addr} {Q : List Mde}
attribute [local go_sem ↓] ldD_eq stD_eq ldT_eq stT_eq
attribute [local go_sem] DC_size

/-- a cell of the row is written -/
theorem Rp.set {b : Nat} (P : Rp w r (some ⟨b, 0, none⟩) n c Q) (j f : Nat) (hj : j < n) (hf : f < 4) (v : Value) (e2 : Mde) (he : (DC (Q.getD j d0)).toList.set f v = (DC e2).toList) :
    Rp (w.setCell ⟨b, j * 4 + f, none⟩ v) r (some ⟨b, 0, none⟩) n c (Q.set j e2) ∧ Kr w (w.setCell ⟨b, j * 4 + f, none⟩ v) r (some ⟨b, 0, none⟩) (some ⟨b, 0, none⟩) :=
  ⟨⟨(set_other w b _ r v (fun e => P.ne b rfl e.symm)).trans P.box, P.row.set j f hj hf v e2 he, P.ne⟩, ⟨rfl, rfl, rfl, by rw [set_size]; exact Nat.le_refl _, fun k _ _ h2 => set_other w b _ k v (fun e => h2 (by rw [e]; rfl)), Or.inl rfl⟩⟩
theorem Rp.fw {g mb : Nat} (P : Rp w r ao n c Q) (F : Fw w w' g mb) (h1 : r ≠ g ∧ r ≠ mb) (h2 : ∀ k, blk ao = some k → k ≠ g ∧ k ≠ mb) : Rp w' r ao n c Q :=
  ⟨(F.block r P.lt h1.1 h1.2).trans P.box, P.row.keep fun k e => F.block k (P.row.lt k e) (h2 k e).1 (h2 k e).2, P.ne⟩
theorem Kr.setRow {bo : Option Addr} (h : Kr w w' r ao bo) {g1 : Nat} (cs : Array Value) (hg : w.heap.size ≤ g1) : Kr w (w'.setRow g1 cs) r ao bo :=
  ⟨h.os, h.tape, h.output, by simp [World.setRow]; exact h.size, fun k hk h1 h2 => (setRow_other _ _ _ _ (by omega)).trans (h.block k hk h1 h2), h.lies⟩
theorem Rp.setRow (P : Rp w r ao n c Q) {g1 : Nat} (cs : Array Value) (h1 : g1 ≠ r) (h2 : blk ao ≠ some g1) : Rp (w.setRow g1 cs) r ao n c Q :=
  ⟨(setRow_other _ _ _ _ (Ne.symm h1)).trans P.box, P.row.keep fun k e => setRow_other _ _ _ _ (fun x => h2 (by rw [← x]; exact e)), P.ne⟩
set_option maxRecDepth 100000 in
theorem spend_no (P : Rp w r ao n c Q) {x : Int} (hx : i64ok x) (hu : und Q x = false) : Calls Try.prog 16 #[ptr r, .int .i64 x] w fun e w' => e = .returned (.tuple #[DV d0, .int .i64 15]) ∧ Below w.heap.size w w' := by
  obtain ⟨w1, hw1⟩ : ∃ w1, w.alloc (.cells #[.int .i64 0, .int .i64 0, .string ⟨#[]⟩, .bool false] 46) = w1 := ⟨_, rfl⟩
  obtain ⟨g1, hg1⟩ : ∃ g1, w.heap.size = g1 := ⟨_, rfl⟩
  have b1 := below_new w (.cells (DC d0) 46)
  have T1 := DBox_new w d0
  rw [d0_cells, hw1] at b1
  rw [d0_cells, hw1, hg1] at T1
  have HC := hide (rlook_no (P.below b1) hx hu)
  have HT := hide T1
  have HB := hide b1
  clear P hx hu b1 T1
  go_enter Try.func16, Try.ntmps16
  go_wp2_with fail
  refine HC.out.mono ?_
  rintro e w2 ⟨rfl, b2⟩
  obtain ⟨g3, hg3⟩ : ∃ g3, w2.heap.size = g3 := ⟨_, rfl⟩
  obtain ⟨w3, hst0, T3, b3, z3⟩ := madeD w2 d0 g3 hg3
  have hst : (stD (.pointer (some ⟨g3, 0, none⟩)) (.agg (DC d0))).run Try.prog (w2.alloc (.cells #[.int .i64 0, .int .i64 0, .string ⟨#[]⟩, .bool false] 46)) = .ok () w3 := hst0
  have hld := run_ldD T3
  have b23 := b2.trans (b3.mono b2.size)
  have T5 := HT.out.below b23
  have hst5 := run_stD (m' := d0) T5
  have HR := hide (T5.setRow (m' := d0))
  have HBB : Hid (Below w.heap.size w (w3.setRow g1 (DC d0))) := below_setRow (HB.out.trans (b23.mono HB.out.size)) (by omega)
  clear hst0 T3 b3 z3 b2 b23 T5 HC
  go_wp2_with fail
  refine bodyPost_ret (resDE rfl rfl rfl HR.out) rfl ?_
  exact ⟨rfl, HBB.out⟩
set_option maxRecDepth 100000 in
theorem spend_yes (P : Rp w r ao n c Q) {x : Int} (hx : i64ok x) {j : Nat} (hj : x = (j : Int) + 1) (hjn : j < n) {f t : Int} {s : ByteArray} (hQ : Q.getD j d0 = ⟨f, t, s, false⟩) : Calls Try.prog 16 #[ptr r, .int .i64 x] w fun e w' =>
    e = .returned (.tuple #[DV ⟨f, t, s, false⟩, .int .i64 0]) ∧ Rp w' r ao n c (Q.set j ⟨f, t, s, true⟩) ∧ Kr w w' r ao ao := by
  obtain ⟨w1, hw1⟩ : ∃ w1, w.alloc (.cells #[.int .i64 0, .int .i64 0, .string ⟨#[]⟩, .bool false] 46) = w1 := ⟨_, rfl⟩
  obtain ⟨g1, hg1⟩ : ∃ g1, w.heap.size = g1 := ⟨_, rfl⟩
  have b1 := below_new w (.cells (DC d0) 46)
  have T1 := DBox_new w d0
  rw [d0_cells, hw1] at b1
  rw [d0_cells, hw1, hg1] at T1
  have hC := rlook_yes (P.below b1) hx hj hjn (by rw [hQ])
  rw [hQ] at hC
  have HC := hide hC
  have HP := hide (P.below b1)
  have HT := hide T1
  have HB := hide b1
  have hsub : wrap64 (x - 1) = (j : Int) := by unfold i64ok at hx; rw [w64 (by omega) (by omega)]; omega
  have HQ := hide hQ
  have HLT : Hid (r < w.heap.size ∧ ∀ k, blk ao = some k → k < w.heap.size) := ⟨P.lt, fun k e => P.row.lt k e⟩
  clear P hx b1 T1 hC hQ hj
  go_enter Try.func16, Try.ntmps16
  go_wp2_with fail
  refine HC.out.mono ?_
  rintro e w2 ⟨rfl, b2⟩
  obtain ⟨g3, hg3⟩ : ∃ g3, w2.heap.size = g3 := ⟨_, rfl⟩
  obtain ⟨w3, hst, T3, b3, z3⟩ := madeD w2 ⟨f, t, s, false⟩ g3 hg3
  rw [d0_cells] at hst
  have b23 := b2.trans (b3.mono b2.size)
  have P3 := HP.out.below b23
  have x0 := P3.c0
  obtain ⟨b, rfl, D, fz⟩ := P3.row.at j hjn
  have d3 := D.c3
  rw [Addr.add_lit, HQ.out] at d3
  simp only at d3
  have f3 := fz (j * 4 + 3)
  obtain ⟨P4, K4⟩ := P3.set j 3 hjn (by omega) (.bool true) ⟨f, t, s, true⟩ (by rw [HQ.out]; rfl)
  obtain ⟨w4, hw4⟩ : ∃ w4, w3.setCell ⟨b, j * 4 + 3, none⟩ (.bool true) = w4 := ⟨_, rfl⟩
  rw [hw4] at P4 K4
  have hs1 := HB.out.size
  have hs2 := b23.size
  have hbl := HLT.out.2 b rfl
  have T4 : DBox w4 g3 ⟨f, t, s, false⟩ := by rw [← hw4]; exact (set_other w3 b _ g3 _ (by have := b2.size; omega)).trans T3
  have hld := run_ldD T4
  have T5 : DBox w4 g1 d0 := by rw [← hw4]; exact (set_other w3 b _ g1 _ (by omega)).trans (HT.out.below b23)
  have hst5 := run_stD (m' := ⟨f, t, s, false⟩) T5
  have HR := hide (T5.setRow (m' := ⟨f, t, s, false⟩))
  have HF : Hid (Rp (w4.setRow g1 (DC ⟨f, t, s, false⟩)) r (some ⟨b, 0, none⟩) n c (Q.set j ⟨f, t, s, true⟩) ∧ Kr w (w4.setRow g1 (DC ⟨f, t, s, false⟩)) r (some ⟨b, 0, none⟩) (some ⟨b, 0, none⟩)) :=
    ⟨P4.setRow _ (by have := HLT.out.1; omega) (fun e => by have : b = g1 := Option.some.inj e; omega), ((Kr.of_below (HB.out.trans (b23.mono hs1))).trans K4).setRow _ (by omega)⟩
  clear T3 b3 z3 b2 b23 P3 P4 K4 T4 T5 HC D fz hs1 hs2 hbl
  go_wp2_with fail
  refine bodyPost_ret (resDE rfl rfl rfl HR.out) rfl ?_
  exact ⟨rfl, HF.out.1, HF.out.2⟩
set_option maxRecDepth 100000 in
theorem rcopy_no (P : Rp w r ao n c Q) {x : Int} (hx : i64ok x) (hu : und Q x = false) : Calls Try.prog 23 #[ptr r, .int .i64 x] w fun e w' => e = .returned (.tuple #[.int .i64 0, .int .i64 15]) ∧ Below w.heap.size w w' := by
  have HC := hide (rlook_no P hx hu)
  clear P hx hu
  go_enter Try.func23, Try.ntmps23
  go_wp2_with fail
  refine HC.out.mono ?_
  rintro e w2 ⟨rfl, b2⟩
  obtain ⟨g3, hg3⟩ : ∃ g3, w2.heap.size = g3 := ⟨_, rfl⟩
  obtain ⟨w3, hst0, T3, b3, z3⟩ := madeD w2 d0 g3 hg3
  have hst : (stD (.pointer (some ⟨g3, 0, none⟩)) (.agg (DC d0))).run Try.prog (w2.alloc (.cells #[.int .i64 0, .int .i64 0, .string ⟨#[]⟩, .bool false] 46)) = .ok () w3 := hst0
  have HB := hide (b2.trans (b3.mono b2.size))
  clear hst0 T3 b3 z3 b2 HC
  go_wp2_with fail
  go_ret2
  exact ⟨rfl, HB.out⟩
set_option maxRecDepth 100000 in
theorem rcopy_yes (P : Rp w r ao n c Q) {x : Int} (hx : i64ok x) {j : Nat} (hj : x = (j : Int) + 1) (hjn : j < n) {f t : Int} {s : ByteArray} (hQ : Q.getD j d0 = ⟨f, t, s, false⟩) (hn : n + 1 ≤ 3518437208883) : Calls Try.prog 23 #[ptr r, .int .i64 x] w fun e w' =>
    e = .returned (.tuple #[.int .i64 ((n + 1 : Nat) : Int), .int .i64 0]) ∧ ∃ bo c2, Rp w' r bo (n + 1) c2 (Q ++ [⟨f, t, s, false⟩]) ∧ Kr w w' r ao bo := by
  have hC := rlook_yes P hx hj hjn (by rw [hQ])
  rw [hQ] at hC
  have HC := hide hC
  have HP := hide P
  clear P hx hj hC hQ
  go_enter Try.func23, Try.ntmps23
  go_wp2_with fail
  refine HC.out.mono ?_
  rintro e w2 ⟨rfl, b2⟩
  obtain ⟨g3, hg3⟩ : ∃ g3, w2.heap.size = g3 := ⟨_, rfl⟩
  obtain ⟨w3, hst, T3, b3, z3⟩ := madeD w2 ⟨f, t, s, false⟩ g3 hg3
  rw [d0_cells] at hst
  have u0 := T3.c0
  have u1 := T3.c1
  have u2 := T3.c2
  simp only at u0 u1 u2
  have b23 := b2.trans (b3.mono b2.size)
  have HPu := hide (rput_any (HP.out.below b23) f t s hn)
  have HB := hide b23
  clear T3 b3 z3 b2 b23 HC
  go_wp2_with fail
  refine HPu.out.mono ?_
  rintro e w4 ⟨rfl, bo, c2, P4, K4⟩
  have HP4 := hide P4
  have HK4 := hide ((Kr.of_below (r := r) (ao := ao) HB.out).trans K4)
  clear P4 K4 HPu
  go_wp2_with fail
  go_ret2
  exact ⟨rfl, bo, c2, HP4.out, HK4.out⟩
set_option maxRecDepth 100000 in
theorem same_any (f t : Int) (bo : Option Addr) (m cc : Nat) (Z : List Int) (sp : Bool) (w : World) (S : BS w bo m cc Z) : Calls Try.prog 12 #[TV ⟨f, t, bo, m, cc⟩, DV ⟨f, t, strOfNums Z, sp⟩] w fun e w' => e = .returned (.bool true) ∧ Below w.heap.size w w' := by
  obtain ⟨w1, hw1⟩ : ∃ w1, w.alloc (.cells (TC ⟨f, t, bo, m, cc⟩) 40) = w1 := ⟨_, rfl⟩
  obtain ⟨g1, hg1⟩ : ∃ g1, w.heap.size = g1 := ⟨_, rfl⟩
  obtain ⟨w2, hw2⟩ : ∃ w2, w1.alloc (.cells (DC ⟨f, t, strOfNums Z, sp⟩) 46) = w2 := ⟨_, rfl⟩
  obtain ⟨g2, hg2⟩ : ∃ g2, w1.heap.size = g2 := ⟨_, rfl⟩
  have b1 := below_new w (.cells (TC ⟨f, t, bo, m, cc⟩) 40)
  have T1 := TBox_new w ⟨f, t, bo, m, cc⟩
  have b2 := below_new w1 (.cells (DC ⟨f, t, strOfNums Z, sp⟩) 46)
  have D2 := DBox_new w1 ⟨f, t, strOfNums Z, sp⟩
  rw [hw1] at b1
  rw [hw1, hg1] at T1
  rw [hw2] at b2
  rw [hw2, hg2] at D2
  have T2 := T1.below b2
  have t0' := T2.c0
  have t1' := T2.c1
  have t2' := T2.c2
  have d0' := D2.c0
  have d1' := D2.c1
  have d2' := D2.c2
  simp only at t0' t1' t2' d0' d1' d2'
  have hcv := ((S.below b1).below b2).str
  have HB := hide (b1.trans (b2.mono b1.size))
  clear S b1 b2 T1 T2 D2
  go_enter Try.func12, Try.ntmps12
  go_wp2_with fail
  go_ret
  exact ⟨rfl, HB.out⟩
end Go.Proofs.Ythagachlilnjpaa
