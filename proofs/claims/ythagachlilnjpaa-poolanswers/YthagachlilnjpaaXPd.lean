/- The pool's calls: Take, Drop. -/
import Derived.Test.YthagachlilnjpaaXPc
namespace Go.Proofs.Ythagachlilnjpaa
open Go.RowKit Go.Maps Go.ChangeMaps
variable {w w' w2 : World} {g mb made K : Nat} {M : Int → Option Ltr} {C : Int → List Int}
attribute [local go_sem ↓] ldT_eq stT_eq

/-- the map's block alone was written -/
structure Tn (w w' : World) (mb : Nat) : Prop where
  os : w'.os = w.os
  tape : w'.tape = w.tape
  output : w'.output = w.output
  size : w'.heap.size = w.heap.size
  block : ∀ k, k ≠ mb → w'.heap[k]? = w.heap[k]?
theorem Tn.of (h : w.mapTurned w' mb) : Tn w w' mb := by
  obtain ⟨es, clock, es', clock', hb, rfl⟩ := h
  refine ⟨rfl, rfl, rfl, by simp [setBlock], fun k hk => ?_⟩
  simp [setBlock, Ne.symm hk]
theorem Tn.fw (h : Tn w w' mb) : Fw w w' g mb := ⟨h.os, h.tape, h.output, by rw [h.size]; exact Nat.le_refl _, fun k _ _ h2 => h.block k h2⟩
theorem Pl.del_run (P : Pl w g mb made K M C) {x : Int} (hx : i64ok x) (ty : TypeId) : ∃ w', (Builtin.delete_ #[59, 3] ty #[.map (some mb), .int .i64 x]).run Try.prog w = .ok (.tuple #[]) w' ∧ Pl w' g mb made K (mdel M x) C ∧ Tn w w' mb := by
  obtain ⟨D, h, hM⟩ := P.map
  obtain ⟨w', hr, h', ht⟩ := h.drop lawI Try.underlying59 (key_of hx) ty
  have T := Tn.of ht
  refine ⟨w', hr, ⟨(T.block g P.ne).trans P.box, ⟨_, h', hM.del x⟩, fun y l e => ?_, fun y l e => ?_, P.ne⟩, T⟩
  · unfold mdel at e
    split at e
    · cases e
    · exact (P.row y l e).keep T.fw
  · unfold mdel at e
    split at e
    · cases e
    · exact P.dom y l e
theorem Pl.put_run (P : Pl w g mb made K M C) {x : Int} (hx : i64ok x) (h1 : 1 ≤ x) (h2 : x ≤ made) {l : Ltr} {Z : List Int} (R : Rw w g mb l Z) (hK : K < maxLen) : ∃ w', (Instr.mapUpdate 59 (.map (some mb)) (.int .i64 x) (TV l)).run Try.prog w = .ok () w' ∧ Pl w' g mb made (K + 1) (mput M x l) (cput C x Z) ∧ Tn w w' mb := by
  obtain ⟨D, h, hM⟩ := P.map
  obtain ⟨w', hr, h', ht⟩ := h.store lawI Try.underlying59 hK (key_of hx) (RT_mk l)
  have T := Tn.of ht
  refine ⟨w', hr, ⟨(T.block g P.ne).trans P.box, ⟨_, h', hM.put h.isMap x l⟩, fun y m e => ?_, fun y m e => ?_, P.ne⟩, T⟩
  · unfold mput at e
    unfold cput
    by_cases hy : y = x
    · rw [if_pos hy] at e ⊢
      obtain rfl := Option.some.inj e
      exact R.keep T.fw
    · rw [if_neg hy] at e ⊢
      exact (P.row y m e).keep T.fw
  · unfold mput at e
    by_cases hy : y = x
    · exact ⟨by omega, by omega⟩
    · rw [if_neg hy] at e
      exact P.dom y m e
theorem Pl.setRow (P : Pl w g mb made K M C) {g1 : Nat} (cs : Array Value) (h1 : g1 ≠ g) (h2 : g1 ≠ mb) (hr : ∀ x l, M x = some l → ∀ k, blk l.bo = some k → k ≠ g1) : Pl (w.setRow g1 cs) g mb made K M C := by
  obtain ⟨D, h, hM⟩ := P.map
  refine ⟨(setRow_other _ _ _ _ (Ne.symm h1)).trans P.box, ⟨D, owns_below h (setRow_other _ _ _ _ (Ne.symm h2)), hM⟩, fun x l e => ?_, P.dom, P.ne⟩
  have R := P.row x l e
  exact ⟨R.bs.blkKeep fun k ek => setRow_other _ _ _ _ (hr x l e k ek), fun k ek => ⟨(R.ne k ek).1, (R.ne k ek).2.1, by simp [World.setRow]; exact (R.ne k ek).2.2⟩, R.big, R.cap⟩
theorem Pl.rlt (P : Pl w g mb made K M C) (x : Int) (l : Ltr) (e : M x = some l) (k : Nat) (ek : blk l.bo = some k) : k < w.heap.size := ((P.row x l e).ne k ek).2.2
theorem mdel_some {x y : Int} {l : Ltr} (h : mdel M x y = some l) : M y = some l := by
  unfold mdel at h
  split at h
  · cases h
  · exact h
theorem Fw.setRow (F : Fw w w' g mb) {g1 : Nat} (cs : Array Value) (h : w.heap.size ≤ g1) : Fw w (w'.setRow g1 cs) g mb :=
  ⟨F.os, F.tape, F.output, by simp [World.setRow]; exact F.size, fun k hk a b => (setRow_other _ _ _ _ (by omega)).trans (F.block k hk a b)⟩
/-- what Take leaves -/
def TkN (w w' : World) (g mb made K : Nat) (M : Int → Option Ltr) (C : Int → List Int) (x : Int) (r : Ending) : Prop := r = .returned (.tuple #[TV t0, .int .i64 15]) ∧ Pl w' g mb made K (mdel M x) C ∧ Fw w w' g mb
def TkY (w w' : World) (g mb made K : Nat) (M : Int → Option Ltr) (C : Int → List Int) (x : Int) (r : Ending) (l : Ltr) : Prop := ∃ bo cc, r = .returned (.tuple #[TV ⟨l.frm, l.dst, bo, l.bn, cc⟩, .int .i64 0]) ∧ BR w' bo l.bn cc (C x) ∧ (∀ k, blk bo = some k → w.heap.size ≤ k) ∧ Pl w' g mb made K (mdel M x) C ∧ Fw w w' g mb
set_option maxRecDepth 100000 in
theorem take_no (P : Pl w g mb made K M C) {x : Int} (hx : i64ok x) (hM : M x = none) : Calls Try.prog 15 #[ptr g, .int .i64 x] w fun r w' => TkN w w' g mb made K M C x r := by
  obtain ⟨w1, hw1⟩ : ∃ w1, w.alloc (.cells #[.int .i64 0, .int .i64 0, .slice none 0 0] 40) = w1 := ⟨_, rfl⟩
  obtain ⟨g1, hg1⟩ : ∃ g1, w.heap.size = g1 := ⟨_, rfl⟩
  have b1 := below_new w (.cells (TC t0) 40)
  have T1 := TBox_new w t0
  rw [t0_cells, hw1] at b1
  rw [t0_cells, hw1, hg1] at T1
  have HP := hide (P.below b1)
  have HT := hide T1
  have HB := hide b1
  have HX := hide hx
  have HC := hide (look_no (P.below b1) hx hM)
  have HG := hide (And.intro hg1 (And.intro P.g_lt P.mb_lt))
  have HRL := hide P.rlt
  clear P hx hM b1 T1
  go_enter Try.func15, Try.ntmps15
  go_wp2_with fail
  refine HC.out.mono ?_
  rintro r w2 ⟨rfl, b2⟩
  obtain ⟨g3, hg3⟩ : ∃ g3, w2.heap.size = g3 := ⟨_, rfl⟩
  obtain ⟨w3, hst0, T3, b3, z3⟩ := madeT w2 t0 g3 hg3
  have hst : (stT (.pointer (some ⟨g3, 0, none⟩)) (.agg (TC t0))).run Try.prog (w2.alloc (.cells #[.int .i64 0, .int .i64 0, .slice none 0 0] 40)) = .ok () w3 := hst0
  clear hst0
  have hb23 := b2.trans (b3.mono b2.size)
  have P3 := HP.out.below hb23
  have x1 := P3.c1
  obtain ⟨w4, hdel, P4, N4⟩ := P3.del_run HX.out 0
  have hs1 := HB.out.size
  have hs2 := b2.size
  have hg3m : g3 ≠ mb := by have := HG.out; omega
  have hg1m : g1 ≠ mb := by have := HG.out; omega
  have T4 : TBox w4 g3 t0 := (N4.block g3 hg3m).trans T3
  have hld := run_ldT T4
  have T5 : TBox w4 g1 t0 := (N4.block g1 hg1m).trans (HT.out.below hb23)
  have hst5 := run_stT (m' := t0) T5
  have HR := hide (T5.setRow (m' := t0))
  have HF : Hid (Pl (w4.setRow g1 (TC t0)) g mb made K (mdel M x) C ∧ Fw w (w4.setRow g1 (TC t0)) g mb) := by
    have h := HG.out
    refine ⟨P4.setRow _ (by omega) (by omega) (fun y l e k ek => ?_), (Fw.trans (Fw.of_below (HB.out.trans (hb23.mono hs1))) N4.fw).setRow _ (by omega)⟩
    have := HRL.out y l (mdel_some e) k ek
    omega
  clear P3 P4 N4 T3 b3 z3 T4 T5 hb23 HC b2 hs1 hs2 hg3m hg1m
  go_wp2_with fail
  refine bodyPost_ret (resTE rfl rfl rfl HR.out) rfl ?_
  exact ⟨rfl, HF.out.1, HF.out.2⟩
set_option maxRecDepth 100000 in
theorem take_yes (P : Pl w g mb made K M C) {x : Int} (hx : i64ok x) {l : Ltr} (hM : M x = some l) : Calls Try.prog 15 #[ptr g, .int .i64 x] w fun r w' => TkY w w' g mb made K M C x r l := by
  obtain ⟨f, t, o, n, c⟩ := l
  obtain ⟨w1, hw1⟩ : ∃ w1, w.alloc (.cells #[.int .i64 0, .int .i64 0, .slice none 0 0] 40) = w1 := ⟨_, rfl⟩
  obtain ⟨g1, hg1⟩ : ∃ g1, w.heap.size = g1 := ⟨_, rfl⟩
  have b1 := below_new w (.cells (TC t0) 40)
  have T1 := TBox_new w t0
  rw [t0_cells, hw1] at b1
  rw [t0_cells, hw1, hg1] at T1
  have HP := hide (P.below b1)
  have HT := hide T1
  have HB := hide b1
  have HX := hide hx
  have HC := hide (look_yes (P.below b1) hx hM)
  have T1lt := hide T1.lt
  have HG := hide (And.intro hg1 (And.intro P.g_lt P.mb_lt))
  have HRL := hide P.rlt
  clear P hx hM b1 T1
  go_enter Try.func15, Try.ntmps15
  go_wp2_with fail
  refine HC.out.mono ?_
  rintro r w2 ⟨bo, cc, rfl, B2, N2⟩
  have b2 := N2.1
  obtain ⟨g3, hg3⟩ : ∃ g3, w2.heap.size = g3 := ⟨_, rfl⟩
  obtain ⟨w3, hst, T3, b3, z3⟩ := madeT w2 ⟨f, t, bo, n, cc⟩ g3 hg3
  rw [t0_cells] at hst
  have hb23 := b2.trans (b3.mono b2.size)
  have P3 := HP.out.below hb23
  have x1 := P3.c1
  obtain ⟨w4, hdel, P4, N4⟩ := P3.del_run HX.out 0
  have hs1 := HB.out.size
  have hs2 := b2.size
  have hg3m : g3 ≠ mb := by have := HG.out; omega
  have hg1m : g1 ≠ mb := by have := HG.out; omega
  have T4 : TBox w4 g3 ⟨f, t, bo, n, cc⟩ := (N4.block g3 hg3m).trans T3
  have hld := run_ldT T4
  have T5 : TBox w4 g1 t0 := (N4.block g1 hg1m).trans (HT.out.below hb23)
  have hst5 := run_stT (m' := ⟨f, t, bo, n, cc⟩) T5
  have HR := hide (T5.setRow (m' := ⟨f, t, bo, n, cc⟩))
  have HF : Hid (Pl (w4.setRow g1 (TC ⟨f, t, bo, n, cc⟩)) g mb made K (mdel M x) C ∧ Fw w (w4.setRow g1 (TC ⟨f, t, bo, n, cc⟩)) g mb) := by
    have h := HG.out
    refine ⟨P4.setRow _ (by omega) (by omega) (fun y l e k ek => ?_), (Fw.trans (Fw.of_below (HB.out.trans (hb23.mono hs1))) N4.fw).setRow _ (by omega)⟩
    have := HRL.out y l (mdel_some e) k ek
    omega
  have HBR : Hid (BR (w4.setRow g1 (TC ⟨f, t, bo, n, cc⟩)) bo n cc (C x) ∧ ∀ k, blk bo = some k → w.heap.size ≤ k) := by
    have h := HG.out
    refine ⟨B2.keep fun k e => ?_, fun k e => Nat.le_trans hs1 (N2.2 k e)⟩
    have h1 := N2.2 k e
    have h2 := B2.lt k e
    have h3 := T1lt.out
    rw [setRow_other _ _ _ _ (by omega), N4.block k (by omega), b3.block k (by omega)]
  clear P3 P4 N4 T3 b3 z3 T4 T5 hb23 HC b2 hs1 hs2 hg3m hg1m B2 N2
  go_wp2_with fail
  refine bodyPost_ret (resTE rfl rfl rfl HR.out) rfl ?_
  exact ⟨bo, cc, rfl, HBR.out.1, HBR.out.2, HF.out.1, HF.out.2⟩
set_option maxRecDepth 100000 in
theorem drop_no (P : Pl w g mb made K M C) {x : Int} (hx : i64ok x) (hM : M x = none) : Calls Try.prog 22 #[ptr g, .int .i64 x] w fun r w' => r = .returned (.int .i64 15) ∧ Pl w' g mb made K (mdel M x) C ∧ Fw w w' g mb := by
  have HC := hide (take_no P hx hM)
  have HG := hide (And.intro P.g_lt P.mb_lt)
  clear P hM
  go_enter Try.func22, Try.ntmps22
  go_wp2_with fail
  refine HC.out.mono ?_
  rintro r w2 ⟨rfl, P2, F2⟩
  obtain ⟨g3, hg3⟩ : ∃ g3, w2.heap.size = g3 := ⟨_, rfl⟩
  obtain ⟨w3, hst0, T3, b3, z3⟩ := madeT w2 t0 g3 hg3
  have hst : (stT (.pointer (some ⟨g3, 0, none⟩)) (.agg (TC t0))).run Try.prog (w2.alloc (.cells #[.int .i64 0, .int .i64 0, .slice none 0 0] 40)) = .ok () w3 := hst0
  clear hst0
  have HP := hide (P2.below b3)
  have HF := hide (F2.trans (Fw.of_below (g := g) (mb := mb) b3))
  clear T3 b3 z3 P2 F2 HC
  go_wp2_with fail
  go_ret
  exact ⟨rfl, HP.out, HF.out⟩
set_option maxRecDepth 100000 in
theorem drop_yes (P : Pl w g mb made K M C) {x : Int} (hx : i64ok x) {l : Ltr} (hM : M x = some l) : Calls Try.prog 22 #[ptr g, .int .i64 x] w fun r w' => r = .returned (.int .i64 0) ∧ Pl w' g mb made K (mdel M x) C ∧ Fw w w' g mb := by
  have HC := hide (take_yes P hx hM)
  have HG := hide (And.intro P.g_lt P.mb_lt)
  clear P hM
  go_enter Try.func22, Try.ntmps22
  go_wp2_with fail
  refine HC.out.mono ?_
  rintro r w2 ⟨bo, cc, rfl, -, -, P2, F2⟩
  obtain ⟨g3, hg3⟩ : ∃ g3, w2.heap.size = g3 := ⟨_, rfl⟩
  obtain ⟨w3, hst, T3, b3, z3⟩ := madeT w2 ⟨l.frm, l.dst, bo, l.bn, cc⟩ g3 hg3
  rw [t0_cells] at hst
  have HP := hide (P2.below b3)
  have HF := hide (F2.trans (Fw.of_below (g := g) (mb := mb) b3))
  clear T3 b3 z3 P2 F2 HC
  go_wp2_with fail
  go_ret
  exact ⟨rfl, HP.out, HF.out⟩
end Go.Proofs.Ythagachlilnjpaa
