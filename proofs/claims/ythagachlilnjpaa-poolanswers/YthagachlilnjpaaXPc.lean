/- The pool's calls: own, Look, Take, Drop. -/
import Derived.Test.YthagachlilnjpaaXPo
namespace Go.Proofs.Ythagachlilnjpaa
open Go.RowKit Go.Maps
variable {w w' w2 : World} {g mb made K : Nat} {M : Int → Option Ltr} {C : Int → List Int}
attribute [local go_sem ↓] ldT_eq stT_eq

set_option maxRecDepth 100000 in
theorem own_any (f t : Int) (o : Option Addr) (n c : Nat) (Z : List Int) (w : World) (S : BS w o n c Z) (hn : n ≤ 140737488355328) :
    Calls Try.prog 27 #[TV ⟨f, t, o, n, c⟩] w fun r w' => ∃ bo cc, r = .returned (TV ⟨f, t, bo, n, cc⟩) ∧ BR w' bo n cc Z ∧ NewB w w' bo := by
  obtain ⟨w1, hw1⟩ : ∃ w1, w.alloc (.cells (TC ⟨f, t, o, n, c⟩) 40) = w1 := ⟨_, rfl⟩
  obtain ⟨g1, hg1⟩ : ∃ g1, w.heap.size = g1 := ⟨_, rfl⟩
  obtain ⟨w2, hw2⟩ : ∃ w2, w1.alloc (.cells #[.int .i64 0, .int .i64 0, .slice none 0 0] 40) = w2 := ⟨_, rfl⟩
  obtain ⟨g2, hg2⟩ : ∃ g2, w1.heap.size = g2 := ⟨_, rfl⟩
  have HT : Hid (TBox w2 g1 ⟨f, t, o, n, c⟩ ∧ TBox w2 g2 t0 ∧ Below w.heap.size w w2 ∧ w.heap.size ≤ g1 ∧ g1 < g2 ∧ g2 < w2.heap.size) := by
    have b1 := below_new w (.cells (TC ⟨f, t, o, n, c⟩) 40)
    have T1 := TBox_new w ⟨f, t, o, n, c⟩
    rw [hw1] at b1 T1
    have b2 := below_new w1 (.cells (TC t0) 40)
    have T2 := TBox_new w1 t0
    have e2 : w1.alloc (.cells (TC t0) 40) = w2 := hw2
    rw [e2] at b2 T2
    rw [hg1] at T1
    rw [hg2] at T2
    have hlt := T1.lt
    exact ⟨T1.below b2, T2, b1.trans (b2.mono b1.size), by omega, by omega, T2.lt⟩
  have y2 := HT.out.1.c2
  simp only at y2
  have HC := hide (clone_any o n c Z w2 (S.below HT.out.2.2.1) hn)
  clear S hn
  go_enter Try.func27, Try.ntmps27
  go_wp2_with fail
  refine HC.out.mono ?_
  rintro r w3 ⟨bo, cc, rfl, B3, N3⟩
  have T3 := HT.out.1.below N3.1
  have T4 := HT.out.2.1.below N3.1
  have z2 := T3.c2
  simp only at z2
  have f2 : w3.frozen? ⟨g1, 2, none⟩ = false := frozen_of_box T3 2
  have T5 := set2 T3 bo n cc
  simp only at T5
  obtain ⟨w4, hw4⟩ : ∃ w4, w3.setCell ⟨g1, 2, none⟩ (.slice bo n cc) = w4 := ⟨_, rfl⟩
  rw [hw4] at T5
  have hld := run_ldT T5
  have T6 : TBox w4 g2 t0 := by rw [← hw4]; exact (set_other w3 g1 2 g2 _ (by have := HT.out.2.2.2.2.1; omega)).trans T4
  have hst := run_stT (m' := ⟨f, t, bo, n, cc⟩) T6
  have T7 := T6.setRow (m' := ⟨f, t, bo, n, cc⟩)
  obtain ⟨w5, hw5⟩ : ∃ w5, w4.setRow g2 (TC ⟨f, t, bo, n, cc⟩) = w5 := ⟨_, rfl⟩
  rw [hw5] at hst T7
  have HB5 : Hid (BR w5 bo n cc Z ∧ NewB w w5 bo) := by
    have h0 := HT.out.2.2.1.size
    have hb4 : ∀ k, k ≠ g1 → k ≠ g2 → w5.heap[k]? = w3.heap[k]? := fun k h1 h2 => by
      rw [← hw5, setRow_other _ _ _ _ h2, ← hw4]; exact set_other w3 g1 2 k _ h1
    have hs5 : w5.heap.size = w3.heap.size := by rw [← hw5, ← hw4]; simp [World.setRow]
    have hge : ∀ k, blk bo = some k → w2.heap.size ≤ k := N3.2
    refine ⟨B3.keep fun k e => hb4 k (by have := hge k e; have := HT.out.2.2.2.2; omega) (by have := hge k e; have := HT.out.2.2.2.2; omega), ⟨?_, ?_, ?_, ?_, ?_⟩, fun k e => Nat.le_trans h0 (hge k e)⟩
    · rw [← hw5, ← hw4]; exact N3.1.os.trans HT.out.2.2.1.os
    · rw [← hw5, ← hw4]; exact N3.1.tape.trans HT.out.2.2.1.tape
    · rw [← hw5, ← hw4]; exact N3.1.output.trans HT.out.2.2.1.output
    · rw [hs5]; exact Nat.le_trans h0 N3.1.size
    · intro k hk
      have := HT.out.2.2.2
      rw [hb4 k (by omega) (by omega), N3.1.block k (by omega)]
      exact HT.out.2.2.1.block k hk
  have HR := hide T7
  clear B3 N3 T3 T4 T5 T6 T7 HC
  go_wp2_with fail
  refine bodyPost_ret (res1T rfl rfl HR.out) rfl ?_
  exact ⟨bo, cc, rfl, HB5.out.1, HB5.out.2⟩
/-- a letter and an error are handed back -/
theorem resTE {fn : Func} {p q : Tmp} {e : Ltr} {b : Value} (h : fn.results = #[.cell p 40, .tmp q]) {tmps : Array Value} (hp : tmps.getD p undef = .pointer (some ⟨g, 0, none⟩)) (hq : tmps.getD q undef = b) (A : TBox w g e) :
    (results fn tmps).run Try.prog w = .ok (.tuple #[TV e, b]) w := by
  have hl := run_lvT A
  simp only [results, h]
  rw [Array.getD_eq_getD_getElem?] at hp hq
  simp [hp, hq, asAddr, hl]
theorem t0_cells : TC t0 = #[.int .i64 0, .int .i64 0, .slice none 0 0] := rfl
/-- what Look answers: nothing there -/
def NoL (w w' : World) (r : Ending) : Prop := r = .returned (.tuple #[TV t0, .int .i64 15]) ∧ Below w.heap.size w w'
/-- the letter, with bytes of its own -/
def YesL (w w' : World) (r : Ending) (l : Ltr) (Z : List Int) : Prop := ∃ bo cc, r = .returned (.tuple #[TV ⟨l.frm, l.dst, bo, l.bn, cc⟩, .int .i64 0]) ∧ BR w' bo l.bn cc Z ∧ NewB w w' bo
set_option maxRecDepth 100000 in
theorem look_no (P : Pl w g mb made K M C) {x : Int} (hx : i64ok x) (hM : M x = none) : Calls Try.prog 10 #[ptr g, .int .i64 x] w fun r w' => NoL w w' r := by
  obtain ⟨w1, hw1⟩ : ∃ w1, w.alloc (.cells #[.int .i64 0, .int .i64 0, .slice none 0 0] 40) = w1 := ⟨_, rfl⟩
  obtain ⟨g1, hg1⟩ : ∃ g1, w.heap.size = g1 := ⟨_, rfl⟩
  have b1 := below_new w (.cells (TC t0) 40)
  have T1 := TBox_new w t0
  rw [t0_cells, hw1] at b1
  rw [t0_cells, hw1, hg1] at T1
  have P1 := P.below b1
  have x1 := P1.c1
  have hl := P1.look_run hx
  rw [hM] at hl
  simp only [Option.getD_none, Option.isSome_none] at hl
  obtain ⟨g2, hg2⟩ : ∃ g2, w1.heap.size = g2 := ⟨_, rfl⟩
  obtain ⟨w2, hst, T2, b2, z2⟩ := madeT w1 t0 g2 hg2
  rw [t0_cells] at hst
  have T3 := T1.below b2
  have hst3 := run_stT (m' := t0) T3
  have T4 := T3.setRow (m' := t0)
  rw [t0_cells] at hst3 T4
  have HT := hide T4
  have HB : Hid (Below w.heap.size w (w2.setRow g1 #[.int .i64 0, .int .i64 0, .slice none 0 0])) := below_setRow (b1.trans (b2.mono b1.size)) (by omega)
  have hl' : (Instr.lookup 59 (.map (some mb)) (.int .i64 x) true).run Try.prog w1 = .ok (.tuple #[.agg #[.int .i64 0, .int .i64 0, .slice none 0 0], .bool false]) w1 := hl
  clear P P1 hM hx b1 T1 b2 z2 T2 T3 T4 hl
  go_enter Try.func10, Try.ntmps10
  go_wp2_with fail
  refine bodyPost_ret (resTE rfl rfl rfl HT.out) rfl ?_
  exact ⟨rfl, HB.out⟩
set_option maxRecDepth 100000 in
theorem look_yes (P : Pl w g mb made K M C) {x : Int} (hx : i64ok x) {l : Ltr} (hM : M x = some l) : Calls Try.prog 10 #[ptr g, .int .i64 x] w fun r w' => YesL w w' r l (C x) := by
  have Rx := P.row x l hM
  obtain ⟨f, t, o, n, c⟩ := l
  obtain ⟨w1, hw1⟩ : ∃ w1, w.alloc (.cells #[.int .i64 0, .int .i64 0, .slice none 0 0] 40) = w1 := ⟨_, rfl⟩
  obtain ⟨g1, hg1⟩ : ∃ g1, w.heap.size = g1 := ⟨_, rfl⟩
  have b1 := below_new w (.cells (TC t0) 40)
  have T1 := TBox_new w t0
  rw [t0_cells, hw1] at b1
  rw [t0_cells, hw1, hg1] at T1
  have P1 := P.below b1
  have x1 := P1.c1
  have hl := P1.look_run hx
  rw [hM] at hl
  simp only [Option.getD_some, Option.isSome_some] at hl
  obtain ⟨g2, hg2⟩ : ∃ g2, w1.heap.size = g2 := ⟨_, rfl⟩
  obtain ⟨w2, hst, T2, b2, z2⟩ := madeT w1 ⟨f, t, o, n, c⟩ g2 hg2
  rw [t0_cells] at hst
  have hld := run_ldT T2
  have hb12 := b1.trans (b2.mono b1.size)
  have HC := hide (own_any f t o n c (C x) w2 (Rx.bs.below hb12) Rx.big)
  have HT := hide (T1.below b2)
  have HB := hide hb12
  have HG : Hid (w.heap.size ≤ g1 ∧ g1 < w2.heap.size) := ⟨by omega, by have := T1.lt; have := b2.size; omega⟩
  clear P P1 hM hx b1 T1 b2 z2 T2 Rx hb12
  go_enter Try.func10, Try.ntmps10
  go_wp2_with fail
  refine HC.out.mono ?_
  rintro r w3 ⟨bo, cc, rfl, B3, N3⟩
  have T3 := HT.out.below N3.1
  have hst3 := run_stT (m' := ⟨f, t, bo, n, cc⟩) T3
  have HR := hide (T3.setRow (m' := ⟨f, t, bo, n, cc⟩))
  have HF : Hid (BR (w3.setRow g1 (TC ⟨f, t, bo, n, cc⟩)) bo n cc (C x) ∧ NewB w (w3.setRow g1 (TC ⟨f, t, bo, n, cc⟩)) bo) :=
    ⟨B3.keep fun k e => setRow_other _ _ _ _ (by have := N3.2 k e; have := HG.out; omega), below_setRow (HB.out.trans (N3.1.mono HB.out.size)) HG.out.1, fun k e => Nat.le_trans HB.out.size (N3.2 k e)⟩
  clear B3 N3 T3 HC hld
  go_wp2_with fail
  refine bodyPost_ret (resTE rfl rfl rfl HR.out) rfl ?_
  exact ⟨bo, cc, rfl, HF.out.1, HF.out.2⟩
end Go.Proofs.Ythagachlilnjpaa
