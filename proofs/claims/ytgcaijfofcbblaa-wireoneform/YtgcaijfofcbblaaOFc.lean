/- WireOneForm: its two readings. -/
import Derived.Test.YtgcaijfofcbblaaOFp
import Derived.Test.YtgcaijfofcbblaaUBe
namespace Go.Proofs.Ytgcaijfofcbblaa
open Go.RowKit
variable {w w' w2 : World} {g gn gm : Nat} {ro : Option Addr} {rn rc : Nat}

theorem Kg.var {b : Nat} {v : Value} {t : TypeId} (K : Kg w w' g) (h : Var w b v t) (hn : b ≠ g) : Var w' b v t := (K.block b h.lt hn).trans h
structure Kl (n0 : Nat) (w w' : World) (g lv : Nat) : Prop where
  os : w'.os = w.os
  tape : w'.tape = w.tape
  output : w'.output = w.output
  size : w.heap.size ≤ w'.heap.size
  block : ∀ k, k < n0 → k ≠ g → k ≠ lv → w'.heap[k]? = w.heap[k]?
/-- what the first one leaves -/
def C1 (w w' : World) (g _ gm : Nat) (v : Nat) (r : Ending) : Prop := r = .returned (.tuple #[]) ∧ (∃ so sc, Rdr w' g so 0 sc 0 false) ∧ Var w' gm (.int .i64 (v : Int)) 3 ∧ Kl w.heap.size w w' g gm
set_option maxRecDepth 100000 in
theorem close1_any {v : Nat} (R : RL w g ro rn rc (numB v)) (hv : v ≤ 9223372036854775807) (V : Var w gn (.int .i64 (v : Int)) 3) (M : Var w gm (.int .i64 0) 3) (h1 : gm ≠ g) :
    Calls Try.prog 16 #[ptr g, ptr gn, ptr gm] w fun r w' => C1 w w' g gn gm v r := by
  have hr := rdN_numB v [] hv
  rw [List.append_nil] at hr
  have HC := hide (num_ok R hr (Int.le_refl _))
  have x0 := V.c
  have HL : Hid (rn = (numB v).length) := R.len.symm
  have HM := hide M
  have H1 := hide h1
  clear R hv V M h1 hr
  go_enter Try.func16, Try.ntmps16
  go_wp2_with fail
  refine HC.out.mono ?_
  rintro r w2 ⟨rfl, so, sc, R2, -, K2⟩
  have M2 := K2.var HM.out H1.out
  have y0 := M2.c
  have y1 := M2.z
  have hR : Rdr w2 g so 0 sc 0 false := by have := R2.r; rw [HL.out, Nat.sub_self] at this; exact this
  have HE : Hid (C1 w (w2.setCell ⟨gm, 0, none⟩ (.int .i64 (v : Int))) g gn gm v (.returned (.tuple #[]))) := by
    refine ⟨rfl, ⟨so, sc, (set_other w2 gm 0 g _ (Ne.symm H1.out)).trans hR⟩, set_heap w2 gm _ _ _ 0 _ M2, ⟨(setCell_os _ _ _).trans K2.os, (setCell_tape _ _ _).trans K2.tape, (setCell_output _ _ _).trans K2.output, by rw [set_size]; exact K2.size, fun k hk e1 e2 => (set_other w2 gm 0 k _ e2).trans (K2.block k hk e1)⟩⟩
  clear R2 K2 M2 hR HC HM
  go_wp2_with fail
  go_end0
  exact HE.out
def C2 (w w' : World) (g : Nat) (r : Ending) : Prop := r = .panicked (ups g) ∧ Gave w w' g 51
set_option maxRecDepth 100000 in
theorem close2_any {v : Nat} (R : RL w g ro rn rc (numB v)) (hv : v ≤ 9223372036854775807) (h0 : 0 < v) (V : Var w gn (.int .i64 (v : Int)) 3) :
    Calls Try.prog 18 #[ptr g, ptr gn] w fun r w' => C2 w w' g r := by
  have he := nmE_numB v [] ((v : Int) - 1) hv
  rw [List.append_nil, if_pos (by omega)] at he
  have HC := hide (num_bad R he (by decide))
  have x0 := V.c
  have hw : wrap64 ((v : Int) - 1) = (v : Int) - 1 := w64 (by omega) (by omega)
  clear R V he hv h0
  go_enter Try.func18, Try.ntmps18
  go_wp2_with fail
  refine HC.out.mono ?_
  rintro r w2 ⟨rfl, hG⟩
  have HE : Hid (C2 w w2 g (.panicked (ups g))) := ⟨rfl, hG⟩
  clear hG HC
  go_wp2_with fail
  exact ⟨rfl, HE.out⟩
/-- both readings, whole -/
structure Kv (w w' : World) (gm : Nat) : Prop where
  os : w'.os = w.os
  tape : w'.tape = w.tape
  output : w'.output = w.output
  size : w.heap.size ≤ w'.heap.size
  block : ∀ k, k < w.heap.size → k ≠ gm → w'.heap[k]? = w.heap[k]?
theorem lt_of_src {Z : List Int} (S : Src w ro rn rc Z) (h0 : rn ≠ 0) (k : Nat) (e : blk ro = some k) : k < w.heap.size := by
  obtain ⟨ad, ha, hc⟩ := cell_at S 0 (by omega)
  have := World.block_lt_of_cell? _ _ hc
  rw [block_of_add] at this
  rw [ha] at e
  have : ad.block = k := Option.some.inj e
  omega
theorem rl_of {Z : List Int} {W1 : World} {n0 : Nat} (S : Src w ro rn rc Z) (hc : rn ≤ rc) (hn : rn ≤ 140737488355328) (G : Beg w W1 ro rn rc n0) : RL W1 (w.heap.size + 1) ro rn rc Z :=
  ⟨G.r, S.below G.b, hc, hn, fun h0 e => by have := lt_of_src S h0 _ e; omega⟩
theorem reads1_any {v : Nat} (S : Src w ro rn rc (numB v)) (hc : rn ≤ rc) (hn : rn ≤ 140737488355328) (hv : v ≤ 9223372036854775807) (V : Var w gn (.int .i64 (v : Int)) 3) (M : Var w gm (.int .i64 0) 3) :
    Calls Try.prog 15 #[.slice ro rn rc, .func (.func 16) #[] #[ptr gn, ptr gm]] w fun r w' => r = .returned (.int .i64 0) ∧ Var w' gm (.int .i64 (v : Int)) 3 ∧ Kv w w' gm := by
  have hcf : ∀ (args : Array Value) (w : World), (callFunc 16 args).run Try.prog w = .ok (.enter 16 args) w := fun _ _ => rfl
  have G := beg w ro rn rc
  obtain ⟨W1, hW1⟩ : ∃ W1, W0 w ro rn rc = W1 := ⟨_, rfl⟩
  rw [hW1] at G
  have hgm := M.lt
  have hgn := V.lt
  have hf := close1_any (rl_of S hc hn G) hv ((G.b.block gn hgn).trans V) ((G.b.block gm hgm).trans M) (by omega)
  rw [← hW1] at hf
  refine (read_any ro rn rc _ #[ptr gn, ptr gm] _ w hcf hf ?_).mono ?_
  · intro e w2 h
    rw [hW1] at h
    obtain ⟨he, ⟨so, sc, hR⟩, -, K⟩ := h
    have hsz := G.n
    subst he
    refine ⟨⟨0, _, EndR.calm hR⟩, (K.block _ (by omega) (by omega) (by omega)).trans G.v, (K.block _ (by omega) (by omega) (by omega)).trans G.e⟩
  · rintro r w' ⟨e2, w2, gave, err, h, hE, rfl, hF⟩
    rw [hW1] at h
    obtain ⟨he, ⟨so, sc, hR⟩, hM, K⟩ := h
    have hsz := G.n
    have hgv : err = 0 := by
      subst he
      cases hE with
      | calm hR2 =>
        have := (rdr_inj hR hR2).1
        subst this
        rfl
    subst hgv
    refine ⟨rfl, (hF.block gm (by have := K.size; omega) (by omega) (by omega)).trans hM, ⟨hF.os.trans (K.os.trans G.b.os), hF.tape.trans (K.tape.trans G.b.tape), hF.output.trans (K.output.trans G.b.output), Nat.le_trans G.b.size (Nat.le_trans K.size hF.size), fun k hk hn => ?_⟩⟩
    exact (hF.block k (by have := K.size; omega) (by omega) (by omega)).trans ((K.block k (by omega) (by omega) hn).trans (G.b.block k hk))
theorem reads2_any {v : Nat} (S : Src w ro rn rc (numB v)) (hc : rn ≤ rc) (hn : rn ≤ 140737488355328) (hv : v ≤ 9223372036854775807) (h0 : 0 < v) (V : Var w gn (.int .i64 (v : Int)) 3) :
    Calls Try.prog 15 #[.slice ro rn rc, .func (.func 18) #[] #[ptr gn]] w fun r w' => r = .returned (.int .i64 51) ∧ Below w.heap.size w w' := by
  have hcf : ∀ (args : Array Value) (w : World), (callFunc 18 args).run Try.prog w = .ok (.enter 18 args) w := fun _ _ => rfl
  have G := beg w ro rn rc
  obtain ⟨W1, hW1⟩ : ∃ W1, W0 w ro rn rc = W1 := ⟨_, rfl⟩
  rw [hW1] at G
  have hgn := V.lt
  have hf := close2_any (rl_of S hc hn G) hv h0 ((G.b.block gn hgn).trans V)
  rw [← hW1] at hf
  refine (read_any ro rn rc _ #[ptr gn] _ w hcf hf ?_).mono ?_
  · intro e w2 h
    rw [hW1] at h
    obtain ⟨he, hR, K⟩ := h
    have hsz := G.n
    subst he
    exact ⟨⟨51, 51, EndR.up hR (by decide)⟩, (K.block _ (by omega) (by omega)).trans G.v, (K.block _ (by omega) (by omega)).trans G.e⟩
  · rintro r w' ⟨e2, w2, gave, err, h, hE, rfl, hF⟩
    rw [hW1] at h
    obtain ⟨he, hR, K⟩ := h
    have hsz := G.n
    have hgv : err = 51 := by
      subst he
      cases hE with
      | up hR2 _ => exact ((rdr_inj hR hR2).2).symm
    subst hgv
    refine ⟨rfl, ⟨hF.os.trans (K.os.trans G.b.os), hF.tape.trans (K.tape.trans G.b.tape), hF.output.trans (K.output.trans G.b.output), Nat.le_trans G.b.size (Nat.le_trans K.size hF.size), fun k hk => ?_⟩⟩
    exact (hF.block k (by have := K.size; omega) (by omega) (by omega)).trans ((K.block k (by omega) (by omega)).trans (G.b.block k hk))
end Go.Proofs.Ytgcaijfofcbblaa
