/- The reference's pool in memory. -/
import Derived.Test.YthagachlilnjpaaXRs
namespace Go.Proofs.Ythagachlilnjpaa
open Go.RowKit Go.Maps
variable {w w' w2 : World} {g r : Nat}

def dcs (Q : List Mde) : List Value := (Q.map fun e => (DC e).toList).flatten
theorem dcs_length (Q : List Mde) : (dcs Q).length = Q.length * 4 := by
  induction Q with
  | nil => rfl
  | cons e Q ih =>
    have e1 : dcs (e :: Q) = (DC e).toList ++ dcs Q := rfl
    have e2 : (DC e).toList.length = 4 := rfl
    rw [e1, List.length_append, ih, e2, List.length_cons]
    omega
theorem dcs_append (Q R : List Mde) : dcs (Q ++ R) = dcs Q ++ dcs R := by simp [dcs]
theorem dcs_one (Q : List Mde) : ∀ u ∈ dcs Q, u.oneCell' = true := by
  intro u hu
  simp only [dcs, List.mem_flatten, List.mem_map] at hu
  obtain ⟨l, ⟨e, _, rfl⟩, hu⟩ := hu
  exact DC_one e u hu
theorem dcs_at : ∀ (Q : List Mde) (j f : Nat), j < Q.length → f < 4 → (dcs Q)[j * 4 + f]? = (DC (Q.getD j d0)).toList[f]?
  | [], j, f, hj, _ => absurd hj (Nat.not_lt_zero j)
  | e :: Q, 0, f, _, hf => by
    show ((DC e).toList ++ dcs Q)[0 * 4 + f]? = _
    rw [List.getElem?_append_left (by show _ < 4; omega)]
    simp
  | e :: Q, j + 1, f, hj, hf => by
    show ((DC e).toList ++ dcs Q)[(j + 1) * 4 + f]? = _
    have e2 : (DC e).toList.length = 4 := rfl
    rw [List.getElem?_append_right (by rw [e2]; omega), e2, show (j + 1) * 4 + f - 4 = j * 4 + f by omega]
    exact dcs_at Q j f (by simpa using hj) hf
theorem dcs_set : ∀ (Q : List Mde) (j f : Nat) (v : Value) (e2 : Mde), j < Q.length → f < 4 → (DC (Q.getD j d0)).toList.set f v = (DC e2).toList → (dcs Q).set (j * 4 + f) v = dcs (Q.set j e2)
  | [], j, f, v, e2, hj, _, _ => absurd hj (Nat.not_lt_zero j)
  | e :: Q, 0, f, v, e2, _, hf, h => by
    show ((DC e).toList ++ dcs Q).set (0 * 4 + f) v = (DC e2).toList ++ dcs Q
    rw [Nat.zero_mul, Nat.zero_add, List.set_append_left _ _ (by show _ < 4; omega)]
    exact congrArg (· ++ dcs Q) h
  | e :: Q, j + 1, f, v, e2, hj, hf, h => by
    show ((DC e).toList ++ dcs Q).set ((j + 1) * 4 + f) v = (DC e).toList ++ dcs (Q.set j e2)
    have e3 : (DC e).toList.length = 4 := rfl
    rw [List.set_append_right _ _ (by rw [e3]; omega), e3, show (j + 1) * 4 + f - 4 = j * 4 + f by omega, dcs_set Q j f v e2 (by simpa using hj) hf h]
/-- a row of messages -/
abbrev RD (w : World) (ao : Option Addr) (n c : Nat) (Q : List Mde) : Prop := w.ownsRow 0 46 4 (.slice ao n c) n (dcs Q)
variable {ao : Option Addr} {n c : Nat} {Q : List Mde}
theorem RD.len (h : RD w ao n c Q) : Q.length = n := by have := h.1; rw [dcs_length] at this; omega
theorem RD.lt (h : RD w ao n c Q) (k : Nat) (e : blk ao = some k) : k < w.heap.size := by
  rcases h.2 with ⟨h0, _⟩ | ⟨q, cap2, cur, hv, hq, hh, _⟩
  · simp only [Value.slice.injEq] at h0
    rw [h0.1] at e; cases e
  · simp only [Value.slice.injEq, true_and] at hv
    obtain ⟨rfl, rfl⟩ := hv
    have : q = k := Option.some.inj e
    subst this
    exact (Array.getElem?_eq_some_iff.1 hh).1
theorem RD.keep (h : RD w ao n c Q) (hk : ∀ k, blk ao = some k → w'.heap[k]? = w.heap[k]?) : RD w' ao n c Q := by
  refine ⟨h.1, ?_⟩
  rcases h.2 with h0 | ⟨q, cap2, cur, hv, hq, hh, x⟩
  · exact Or.inl h0
  · have hv' := hv
    simp only [Value.slice.injEq, true_and] at hv'
    obtain ⟨rfl, rfl⟩ := hv'
    exact Or.inr ⟨q, _, cur, hv, hq, (hk q rfl).trans hh, x⟩
theorem RD.at (h : RD w ao n c Q) (j : Nat) (hj : j < n) : ∃ b, ao = some ⟨b, 0, none⟩ ∧ DAt w ⟨b, j * 4, none⟩ (Q.getD j d0) ∧ ∀ f, w.frozen? ⟨b, f, none⟩ = false := by
  have hl := h.len
  rcases h.2 with ⟨h0, h00⟩ | ⟨q, cap2, cur, hv, hq, hh, x⟩
  · omega
  · have hv' := hv
    simp only [Value.slice.injEq, true_and] at hv'
    obtain ⟨rfl, rfl⟩ := hv'
    have hc : ∀ f, f < 4 → w.cell? ⟨q, j * 4 + f, none⟩ = (DC (Q.getD j d0)).toList[f]? := fun f hf => by
      rw [h.cellAt (j * 4 + f) (by omega), dcs_at Q j f (by omega) hf]
    refine ⟨q, rfl, ⟨hc 0 (by omega), by rw [Addr.add_lit]; exact hc 1 (by omega), by rw [Addr.add_lit]; exact hc 2 (by omega), by rw [Addr.add_lit]; exact hc 3 (by omega)⟩, fun f => by simp [World.frozen?, hh]⟩
theorem RD.set {b : Nat} (h : RD w (some ⟨b, 0, none⟩) n c Q) (j f : Nat) (hj : j < n) (hf : f < 4) (v : Value) (e2 : Mde) (he : (DC (Q.getD j d0)).toList.set f v = (DC e2).toList) : RD (w.setCell ⟨b, j * 4 + f, none⟩ v) (some ⟨b, 0, none⟩) n c (Q.set j e2) := by
  have hl := h.len
  have hd := dcs_set Q j f v e2 (by omega) hf he
  refine ⟨by rw [← hd, List.length_set]; exact h.1, ?_⟩
  rcases h.2 with ⟨h0, h00⟩ | ⟨q, cap2, cur, hv, hq, hh, hnc, hcm, hcs, ht⟩
  · cases h0
  · simp only [Value.slice.injEq, Option.some.injEq, Addr.mk.injEq, and_true, true_and] at hv
    obtain ⟨rfl, rfl⟩ := hv
    refine Or.inr ⟨b, c, cur.setIfInBounds (j * 4 + f) v, rfl, hq, ?_, hnc, hcm, by rw [Array.size_setIfInBounds]; exact hcs, ?_⟩
    · simp [World.setCell, hh, Array.getElem?_modify, Array.setIfInBounds]
    · rw [Array.toList_setIfInBounds, List.take_set, ht, hd]
theorem infoD : (Try.prog.info? 46).map (fun i => (i.zero, i.size, i.bytes)) = some (some (.agg #[.int .i64 0, .int .i64 0, .string ⟨#[]⟩, .bool false]), 4, 40) := by kernel_rfl
/-- one more message, laid ahead of it -/
theorem appD {x : Mde} (h : RD w ao n c Q) (hb : n + 1 ≤ 3518437208883)
    {ops : Array Oper} {rest : List Oper} {o : Oper} {a : Act} {Qx : Exit → Act → World → Prop} (hgd : o.guard = none) (sl y : Operand) (ho : o.op = .call { callee := .builtin .append, args := #[sl, y], argTypes := #[26, 26] })
    (hs : a.eval sl = .slice ao n c) (hy : a.eval y = .slice (some ⟨w.heap.size, 0, none⟩) 1 1)
    (hK : ∀ (bo : Option Addr) (c2 : Nat) (w2 : World), RD w2 bo (n + 1) c2 (Q ++ [x]) → Ap w w2 ao bo → wpList Try.prog ops Qx rest (a.put o.dst (.slice bo (n + 1) c2)) w2) :
    wpList Try.prog ops Qx (o :: rest) a (w.alloc (.cells (DC x) 46)) := by
  obtain ⟨i0, hi, hz0, hz1, hz2⟩ := info_parts infoD
  have hA : (w.alloc (.cells (DC x) 46)).heap[w.heap.size]? = some (.cells (DC x) 46 (0, 0)) := heap_alloc_new w _
  refine wpList_append_own_at _ hgd sl y 26 ho 0 46 i0 (.agg #[.int .i64 0, .int .i64 0, .string ⟨#[]⟩, .bool false]) 4 40 Try.underlying26 hi hz0 hz1 hz2 rfl (by decide) _ n (dcs Q) hs (h.keep fun k hk => Below.heap_alloc w _ k (h.lt k hk)) ⟨w.heap.size, 0, none⟩ 1 1 (DC x).toList hy rfl (fun j u hj => ?_) (DC_one x) (by unfold maxLen; omega) (by omega) (Nat.zero_le _) ?_
  · rw [Addr.add_lit, Nat.zero_add, cell_of_box hA, ← hj]
    simp
  · intro v' w2 hown hgrow _ hat
    have e1 : dcs Q ++ (DC x).toList = dcs (Q ++ [x]) := by rw [dcs_append]; simp [dcs]
    rw [e1] at hown
    have hf : ∃ bo c2, v' = .slice bo (n + 1) c2 := by
      rcases hown.2 with ⟨h0, h00⟩ | ⟨q, cap2, cur, hv, _⟩
      · exact ⟨none, 0, by rw [h0, h00]⟩
      · exact ⟨_, _, hv⟩
    obtain ⟨bo, c2, rfl⟩ := hf
    rw [ownBlock_blk] at hgrow
    rw [ownBlock_blk, ownBlock_blk] at hat
    refine hK bo c2 w2 hown ((Ap.new w _ ao).trans ⟨hgrow, ?_⟩)
    rcases hat with e | e
    · exact Or.inl e
    · exact Or.inr ⟨_, e, Nat.le_refl _⟩
/-- the reference's pool at r -/
structure Rp (w : World) (r : Nat) (ao : Option Addr) (n c : Nat) (Q : List Mde) : Prop where
  box : w.heap[r]? = some (.cells #[.slice ao n c] 28 (0, 0))
  row : RD w ao n c Q
  ne : ∀ k, blk ao = some k → k ≠ r
theorem Rp.c0 (P : Rp w r ao n c Q) : w.cell? ⟨r, 0, none⟩ = some (.slice ao n c) := by rw [cell_of_box P.box]; rfl
theorem Rp.lt (P : Rp w r ao n c Q) : r < w.heap.size := (Array.getElem?_eq_some_iff.1 P.box).1
theorem Rp.below (P : Rp w r ao n c Q) (hb : Below w.heap.size w w') : Rp w' r ao n c Q := ⟨(hb.block r P.lt).trans P.box, P.row.keep fun k e => hb.block k (P.row.lt k e), P.ne⟩
/-- what a call on it may write: its own block and its row's -/
structure Kr (w w' : World) (r : Nat) (ao bo : Option Addr) : Prop where
  os : w'.os = w.os
  tape : w'.tape = w.tape
  output : w'.output = w.output
  size : w.heap.size ≤ w'.heap.size
  block : ∀ k, k < w.heap.size → k ≠ r → some k ≠ blk ao → w'.heap[k]? = w.heap[k]?
  lies : blk bo = blk ao ∨ ∃ k, blk bo = some k ∧ w.heap.size ≤ k
theorem Kr.of_below (h : Below w.heap.size w w') : Kr w w' r ao ao := ⟨h.os, h.tape, h.output, h.size, fun k hk _ _ => h.block k hk, Or.inl rfl⟩
theorem Kr.trans {bo co : Option Addr} (h : Kr w w' r ao bo) (k : Kr w' w2 r bo co) : Kr w w2 r ao co := by
  refine ⟨k.os.trans h.os, k.tape.trans h.tape, k.output.trans h.output, Nat.le_trans h.size k.size, fun i hi h1 h2 => ?_, ?_⟩
  · refine (k.block i (Nat.lt_of_lt_of_le hi h.size) h1 (fun e => ?_)).trans (h.block i hi h1 h2)
    rcases h.lies with x | ⟨j, x, hj⟩
    · exact h2 (e.trans x)
    · rw [x] at e
      have := Option.some.inj e
      omega
  · rcases k.lies with x | ⟨j, x, hj⟩
    · rw [x]; exact h.lies
    · exact Or.inr ⟨j, x, Nat.le_trans h.size hj⟩
end Go.Proofs.Ythagachlilnjpaa
