/- Rows of parts that a call makes. -/
import Derived.Test.YtpnlfljndkfplaaNPu
import Derived.Laws.OwnMore
namespace Go.Proofs.Ytpnlfljndkfplaa
open Go.RowKit
variable {w w' w2 : World} {g : Nat}

def pcs (Q : List Pt) : List Value := (Q.map fun e => (PC e).toList).flatten
theorem pcs_length (Q : List Pt) : (pcs Q).length = Q.length * 2 := by
  induction Q with
  | nil => rfl
  | cons e Q ih =>
    have e1 : pcs (e :: Q) = (PC e).toList ++ pcs Q := rfl
    have e2 : (PC e).toList.length = 2 := rfl
    rw [e1, List.length_append, ih, e2, List.length_cons]
    omega
theorem pcs_append (Q R : List Pt) : pcs (Q ++ R) = pcs Q ++ pcs R := by simp [pcs]
theorem pcs_one (Q : List Pt) : ∀ u ∈ pcs Q, u.oneCell' = true := by
  intro u hu
  simp only [pcs, List.mem_flatten, List.mem_map] at hu
  obtain ⟨l, ⟨e, _, rfl⟩, hu⟩ := hu
  exact PC_one e u hu
theorem pcs_at : ∀ (Q : List Pt) (j f : Nat), j < Q.length → f < 2 → (pcs Q)[j * 2 + f]? = (PC (Q.getD j pt0)).toList[f]?
  | [], j, f, hj, _ => absurd hj (Nat.not_lt_zero j)
  | e :: Q, 0, f, _, hf => by
    show ((PC e).toList ++ pcs Q)[0 * 2 + f]? = _
    rw [List.getElem?_append_left (by show _ < 2; omega)]
    simp
  | e :: Q, j + 1, f, hj, hf => by
    show ((PC e).toList ++ pcs Q)[(j + 1) * 2 + f]? = _
    have e2 : (PC e).toList.length = 2 := rfl
    rw [List.getElem?_append_right (by rw [e2]; omega), e2, show (j + 1) * 2 + f - 2 = j * 2 + f by omega]
    exact pcs_at Q j f (by simpa using hj) hf
theorem pcs_set : ∀ (Q : List Pt) (j f : Nat) (v : Value) (e2 : Pt), j < Q.length → f < 2 → (PC (Q.getD j pt0)).toList.set f v = (PC e2).toList → (pcs Q).set (j * 2 + f) v = pcs (Q.set j e2)
  | [], j, f, v, e2, hj, _, _ => absurd hj (Nat.not_lt_zero j)
  | e :: Q, 0, f, v, e2, _, hf, h => by
    show ((PC e).toList ++ pcs Q).set (0 * 2 + f) v = (PC e2).toList ++ pcs Q
    rw [Nat.zero_mul, Nat.zero_add, List.set_append_left _ _ (by show _ < 2; omega)]
    exact congrArg (· ++ pcs Q) h
  | e :: Q, j + 1, f, v, e2, hj, hf, h => by
    show ((PC e).toList ++ pcs Q).set ((j + 1) * 2 + f) v = (PC e).toList ++ pcs (Q.set j e2)
    have e3 : (PC e).toList.length = 2 := rfl
    rw [List.set_append_right _ _ (by rw [e3]; omega), e3, show (j + 1) * 2 + f - 2 = j * 2 + f by omega, pcs_set Q j f v e2 (by simpa using hj) hf h]
/-- a row of parts that the call owns -/
abbrev PR (w : World) (ao : Option Addr) (n c : Nat) (Q : List Pt) : Prop := w.ownsRow 0 46 2 (.slice ao n c) n (pcs Q)
variable {ao : Option Addr} {n c : Nat} {Q : List Pt}
theorem PR.len (h : PR w ao n c Q) : Q.length = n := by have := h.1; rw [pcs_length] at this; omega
theorem PR.lt (h : PR w ao n c Q) (k : Nat) (e : blk ao = some k) : k < w.heap.size := by
  rcases h.2 with ⟨h0, _⟩ | ⟨q, cap2, cur, hv, hq, hh, _⟩
  · simp only [Value.slice.injEq] at h0
    rw [h0.1] at e; cases e
  · simp only [Value.slice.injEq, true_and] at hv
    obtain ⟨rfl, rfl⟩ := hv
    have : q = k := Option.some.inj e
    subst this
    exact (Array.getElem?_eq_some_iff.1 hh).1
theorem PR.keep (h : PR w ao n c Q) (hk : ∀ k, blk ao = some k → w'.heap[k]? = w.heap[k]?) : PR w' ao n c Q := by
  refine ⟨h.1, ?_⟩
  rcases h.2 with h0 | ⟨q, cap2, cur, hv, hq, hh, x⟩
  · exact Or.inl h0
  · have hv' := hv
    simp only [Value.slice.injEq, true_and] at hv'
    obtain ⟨rfl, rfl⟩ := hv'
    exact Or.inr ⟨q, _, cur, hv, hq, (hk q rfl).trans hh, x⟩
theorem PR.at (h : PR w ao n c Q) (j : Nat) (hj : j < n) : ∃ b, ao = some ⟨b, 0, none⟩ ∧ PtAt w ⟨b, j * 2, none⟩ (Q.getD j pt0) ∧ ∀ f, w.frozen? ⟨b, f, none⟩ = false := by
  have hl := h.len
  rcases h.2 with ⟨h0, h00⟩ | ⟨q, cap2, cur, hv, hq, hh, x⟩
  · omega
  · have hv' := hv
    simp only [Value.slice.injEq, true_and] at hv'
    obtain ⟨rfl, rfl⟩ := hv'
    have hc : ∀ f, f < 2 → w.cell? ⟨q, j * 2 + f, none⟩ = (PC (Q.getD j pt0)).toList[f]? := fun f hf => by
      rw [h.cellAt (j * 2 + f) (by omega), pcs_at Q j f (by omega) hf]
    refine ⟨q, rfl, ⟨hc 0 (by omega), by rw [Addr.add_lit]; exact hc 1 (by omega)⟩, fun f => by simp [World.frozen?, hh]⟩
theorem PR.set {b : Nat} (h : PR w (some ⟨b, 0, none⟩) n c Q) (j f : Nat) (hj : j < n) (hf : f < 2) (v : Value) (e2 : Pt) (he : (PC (Q.getD j pt0)).toList.set f v = (PC e2).toList) : PR (w.setCell ⟨b, j * 2 + f, none⟩ v) (some ⟨b, 0, none⟩) n c (Q.set j e2) := by
  have hl := h.len
  have hd := pcs_set Q j f v e2 (by omega) hf he
  refine ⟨by rw [← hd, List.length_set]; exact h.1, ?_⟩
  rcases h.2 with ⟨h0, h00⟩ | ⟨q, cap2, cur, hv, hq, hh, hnc, hcm, hcs, ht⟩
  · cases h0
  · simp only [Value.slice.injEq, Option.some.injEq, Addr.mk.injEq, and_true, true_and] at hv
    obtain ⟨rfl, rfl⟩ := hv
    refine Or.inr ⟨b, c, cur.setIfInBounds (j * 2 + f) v, rfl, hq, ?_, hnc, hcm, by rw [Array.size_setIfInBounds]; exact hcs, ?_⟩
    · simp [World.setCell, hh, Array.getElem?_modify, Array.setIfInBounds]
    · rw [Array.toList_setIfInBounds, List.take_set, ht, hd]
theorem infoP : (Try.prog.info? 46).map (fun i => (i.zero, i.size, i.bytes)) = some (some (.agg #[.int .i64 0, .slice none 0 0]), 2, 32) := by kernel_rfl
theorem pcs_zero (n : Nat) : (madeCells #[.int .i64 0, .slice none 0 0] (n * 2)).toList = pcs (List.replicate n pt0) := by
  refine List.ext_getElem? fun j => ?_
  by_cases hj : j < n * 2
  · have h1 := pcs_at (List.replicate n pt0) (j / 2) (j % 2) (by rw [List.length_replicate]; omega) (by omega)
    rw [show j / 2 * 2 + j % 2 = j by omega] at h1
    rw [h1]
    have h2 : (List.replicate n pt0).getD (j / 2) pt0 = pt0 := by
      rw [List.getD_eq_getElem?_getD, List.getElem?_replicate]
      split <;> rfl
    rw [h2]
    have h4 : (madeCells #[.int .i64 0, .slice none 0 0] (n * 2)).toList[j]? = some ((#[.int .i64 0, .slice none 0 0] : Array Value)[j % 2]!) := by simp [madeCells, hj]
    rw [h4]
    have h3 : j % 2 = 0 ∨ j % 2 = 1 := by omega
    rcases h3 with h3 | h3 <;> simp [h3, PC, pt0]
  · rw [List.getElem?_eq_none (by simp [madeCells]; omega), List.getElem?_eq_none (by rw [pcs_length, List.length_replicate]; omega)]
def mkP (a b : Value) : Sem Value := Instr.makeSlice 22 a b
theorem mkP_eq (a b : Value) : Instr.makeSlice 22 a b = mkP a b := rfl
theorem madeRow (w : World) (n : Nat) (hn : n ≤ 64) : ∃ w' : World, (mkP (.int .i64 (n : Int)) (.int .i64 (n : Int))).run Try.prog w = .ok (.slice (some ⟨w.heap.size, 0, none⟩) n n) w' ∧ PR w' (some ⟨w.heap.size, 0, none⟩) n n (List.replicate n pt0) ∧ Below w.heap.size w w' := by
  obtain ⟨i0, hi, hz0, hz1, hz2⟩ := info_parts infoP
  obtain ⟨w', h1, h2, h3⟩ := run_make_full (P := Try.prog) (w := w) 0 22 46 i0 (.agg #[.int .i64 0, .slice none 0 0]) 2 Try.underlying22 hi hz0 hz1 .i64 .i64 n (by rw [hz2]; omega) (by unfold maxLen; omega) (Nat.zero_le _)
  have e : (Value.agg #[.int .i64 0, .slice none 0 0]).cells = #[.int .i64 0, .slice none 0 0] := by simp [Value.cells]
  rw [e, pcs_zero] at h2
  exact ⟨w', h1, h2, h3.os, h3.tape, h3.output, h3.size, fun k hk => h3.block k hk (fun e => by cases e)⟩
theorem PR.src {w : World} {ao : Option Addr} {n c : Nat} {X : List Pt} (h : PR w ao n c X) (hb : n ≤ 4398046511104) : PSrc w ao n c X := by
  refine ⟨h.len, fun e => ?_, fun ad ha t ht => ?_, hb⟩
  · subst e
    rcases h.2 with ⟨h0, h00⟩ | ⟨q, cap2, cur, hv, _⟩
    · simp only [Value.slice.injEq, true_and] at h0
      exact h0
    · cases hv
  · obtain ⟨b, hb, A, -⟩ := h.at t ht
    rw [ha] at hb
    obtain rfl := Option.some.inj hb
    rw [Addr.add_lit, Nat.zero_add]
    exact A
end Go.Proofs.Ytpnlfljndkfplaa
