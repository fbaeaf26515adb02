/- WireNested: rows put together, the law's memory. -/
import Derived.Test.YtflinfmhmokfhaaUFa
namespace Go.Proofs.Ytflinfmhmokfhaa
open Go.RowKit
variable {w w' w2 wr : World} {N0 : Nat}

theorem GR.flat {bo : Option Addr} {m c : Nat} {L : List Got} (M : GR w bo m c L) (ad : Addr) (hb : bo = some ad) (j : Nat) (u : Value) (hj : (gcs L)[j]? = some u) : w.cell? (ad.add j) = some u := by
  have hl := M.1
  have hjl : j < (gcs L).length := (List.getElem?_eq_some_iff.1 hj).1
  rcases M.2 with ⟨h0, h00⟩ | ⟨q, cap2, cur, hv, hq, hh, x⟩
  · have : m = 0 := h00
    omega
  · have hv' := hv
    simp only [Value.slice.injEq, true_and] at hv'
    obtain ⟨h1, rfl⟩ := hv'
    rw [h1] at hb
    obtain rfl := Option.some.inj hb
    subst h1
    rw [Addr.add_lit, Nat.zero_add, M.cellAt j (by omega)]
    exact hj
/-- append of a whole row -/
theorem GR.appR {ao bo : Option Addr} {n c m c3 : Nat} {Q L : List Got} (h : GR w ao n c Q) (M : GR w bo m c3 L) (hb : n + m ≤ 4398046511004)
    {ops : Array Oper} {rest : List Oper} {o : Oper} {a : Act} {Qq : Exit → Act → World → Prop} (hgd : o.guard = none) (sl y : Operand) (ho : o.op = .call { callee := .builtin .append, args := #[sl, y], argTypes := #[24, 24] })
    (hs : a.eval sl = .slice ao n c) (hy : a.eval y = .slice bo m c3)
    (hK : ∀ (b2 : Option Addr) (c2 : Nat) (w2 : World), GR w2 b2 (n + m) c2 (Q ++ L) → Ap w w2 ao b2 → wpList Try.prog ops Qq rest (a.put o.dst (.slice b2 (n + m) c2)) w2) :
    wpList Try.prog ops Qq (o :: rest) a w := by
  obtain ⟨i0, hi, hz0, hz1, hz2⟩ := info_parts infoG
  have e : (Value.agg #[.int .i64 0, .bool false, .string ⟨#[]⟩]).cells.size = 3 := by simp [Value.cells]
  cases bo with
  | none =>
    have h0 : m = 0 ∧ c3 = 0 := by
      rcases M.2 with ⟨h0, h00⟩ | ⟨q, cap2, cur, hv, _⟩
      · simp only [Value.slice.injEq] at h0
        exact ⟨h0.2.1, h0.2.2⟩
      · simp at hv
    obtain ⟨rfl, rfl⟩ := h0
    have e2 := List.eq_nil_of_length_eq_zero M.len
    subst e2
    refine wpList_append_own_none hgd sl y 24 ho 0 29 i0 3 Try.underlying24 hi _ n (gcs Q) hs h hy ?_
    exact hK ao c w (by rw [List.append_nil]; exact h) (Ap.refl _ _)
  | some ad =>
    refine wpList_append_own_at _ hgd sl y 24 ho 0 29 i0 (.agg #[.int .i64 0, .bool false, .string ⟨#[]⟩]) 3 32 Try.underlying24 hi hz0 hz1 hz2 e (by decide) _ n (gcs Q) hs h ad m c3 (gcs L) hy (by rw [gcs_length, M.len]) (fun j u hj => M.flat ad rfl j u hj) (gcs_one L) (by unfold maxLen; omega) (by omega) (Nat.zero_le _) ?_
    intro v' w2 hown hgrow _ hat
    rw [← gcs_append] at hown
    obtain ⟨b2, c2, rfl, hP⟩ := GR.out hown
    rw [ownBlock_blk] at hgrow
    rw [ownBlock_blk, ownBlock_blk] at hat
    refine hK b2 c2 w2 hP ⟨hgrow, ?_⟩
    rcases hat with e | e
    · exact Or.inl e
    · exact Or.inr ⟨_, e, Nat.le_refl _⟩
/-- the memory in which the law begins to read -/
structure S5 (N0 : Nat) (v : Array Value) (w w5 : World) : Prop where
  bel : Below N0 w w5
  sz : w5.heap.size = N0 + 5
  nb : w5.heap[N0]? = some (.cells v 54 (0, 0))
  v1 : Var w5 (N0 + 1) (.slice none 0 0) 24
  v2 : Var w5 (N0 + 2) (.slice none 0 0) 24
  v3 : Var w5 (N0 + 3) (.bool false) 4
  v4 : Var w5 (N0 + 4) (.int .i64 0) 26
theorem start5 (w : World) (hN : w.heap.size = N0) (v : Array Value) {w1 w2 w3 w4 w4' w5 w5' : World} (h1 : w.alloc (.cells v 54) = w1) (h2 : w1.alloc (.cells #[.slice none 0 0] 24) = w2) (h3 : w2.alloc (.cells #[.slice none 0 0] 24) = w3)
    (h4 : w3.alloc (.cells #[.bool false] 4) = w4) (h4' : w4.setCell ⟨N0 + 3, 0, none⟩ (.bool false) = w4') (h5 : w4'.alloc (.cells #[.int .i64 0] 26) = w5) (h5' : w5.setCell ⟨N0 + 4, 0, none⟩ (.int .i64 0) = w5') :
    w1.heap.size = N0 + 1 ∧ w2.heap.size = N0 + 2 ∧ w3.heap.size = N0 + 3 ∧ w4'.heap.size = N0 + 4 ∧ Var w4 (N0 + 3) (.bool false) 4 ∧ Var w5 (N0 + 4) (.int .i64 0) 26 ∧ S5 N0 v w w5' := by
  have b1 := below_new w (.cells v 54)
  have n1 := heap_alloc_new w (.cells v 54)
  have z1 := World.size_alloc w (.cells v 54)
  rw [h1] at b1 n1 z1
  rw [hN] at b1 n1 z1
  have b2 := below_new w1 (.cells #[.slice none 0 0] 24)
  have n2 : Var (w1.alloc (.cells #[.slice none 0 0] 24)) w1.heap.size (.slice none 0 0) 24 := heap_alloc_new w1 _
  have z2 := World.size_alloc w1 (.cells #[.slice none 0 0] 24)
  rw [h2] at b2 n2 z2
  rw [z1] at b2 n2 z2
  have b3 := below_new w2 (.cells #[.slice none 0 0] 24)
  have n3 : Var (w2.alloc (.cells #[.slice none 0 0] 24)) w2.heap.size (.slice none 0 0) 24 := heap_alloc_new w2 _
  have z3 := World.size_alloc w2 (.cells #[.slice none 0 0] 24)
  rw [h3] at b3 n3 z3
  rw [z2] at b3 n3 z3
  have b4 := below_new w3 (.cells #[.bool false] 4)
  have n4 : Var (w3.alloc (.cells #[.bool false] 4)) w3.heap.size (.bool false) 4 := heap_alloc_new w3 _
  have z4 := World.size_alloc w3 (.cells #[.bool false] 4)
  rw [h4] at b4 n4 z4
  rw [z3] at b4 n4 z4
  have o4 : ∀ k, k ≠ N0 + 3 → w4'.heap[k]? = w4.heap[k]? := fun k hk => by rw [← h4']; exact set_other w4 (N0 + 3) 0 k _ hk
  have m4 : Var w4' (N0 + 3) (.bool false) 4 := by rw [← h4']; exact set_heap w4 (N0 + 3) _ _ _ 0 _ n4
  have z4' : w4'.heap.size = N0 + 4 := by rw [← h4', set_size]; exact z4
  have b5 := below_new w4' (.cells #[.int .i64 0] 26)
  have n5 : Var (w4'.alloc (.cells #[.int .i64 0] 26)) w4'.heap.size (.int .i64 0) 26 := heap_alloc_new w4' _
  have z5 := World.size_alloc w4' (.cells #[.int .i64 0] 26)
  rw [h5] at b5 n5 z5
  rw [z4'] at b5 n5 z5
  have o5 : ∀ k, k ≠ N0 + 4 → w5'.heap[k]? = w5.heap[k]? := fun k hk => by rw [← h5']; exact set_other w5 (N0 + 4) 0 k _ hk
  have m5 : Var w5' (N0 + 4) (.int .i64 0) 26 := by rw [← h5']; exact set_heap w5 (N0 + 4) _ _ _ 0 _ n5
  have z5' : w5'.heap.size = N0 + 5 := by rw [← h5', set_size]; exact z5
  have e5 : w5'.os = w5.os ∧ w5'.tape = w5.tape ∧ w5'.output = w5.output := by rw [← h5']; exact ⟨setCell_os _ _ _, setCell_tape _ _ _, setCell_output _ _ _⟩
  have e4 : w4'.os = w4.os ∧ w4'.tape = w4.tape ∧ w4'.output = w4.output := by rw [← h4']; exact ⟨setCell_os _ _ _, setCell_tape _ _ _, setCell_output _ _ _⟩
  have k3 : ∀ k, k < N0 + 3 → w5'.heap[k]? = w3.heap[k]? := fun k hk => (o5 k (by omega)).trans ((b5.block k (by omega)).trans ((o4 k (by omega)).trans (b4.block k (by omega))))
  refine ⟨z1, z2, z3, z4', n4, n5, ⟨?_, ?_, ?_, by omega, fun k hk => ?_⟩, z5', ?_, ?_, (k3 _ (by omega)).trans n3, ?_, m5⟩
  · exact e5.1.trans (b5.os.trans (e4.1.trans (b4.os.trans (b3.os.trans (b2.os.trans b1.os)))))
  · exact e5.2.1.trans (b5.tape.trans (e4.2.1.trans (b4.tape.trans (b3.tape.trans (b2.tape.trans b1.tape)))))
  · exact e5.2.2.trans (b5.output.trans (e4.2.2.trans (b4.output.trans (b3.output.trans (b2.output.trans b1.output)))))
  · exact (k3 k (by omega)).trans ((b3.block k (by omega)).trans ((b2.block k (by omega)).trans (b1.block k (by omega))))
  · exact (k3 _ (by omega)).trans ((b3.block _ (by omega)).trans ((b2.block _ (by omega)).trans n1))
  · exact (k3 _ (by omega)).trans ((b3.block _ (by omega)).trans n2)
  · exact (o5 _ (by omega)).trans ((b5.block _ (by omega)).trans m4)
/-- the memory behind the readings -/
structure LA (N0 : Nat) (v : Array Value) (w wa : World) (lg li : Option Addr) (ng cg ni ci : Nat) (I G : List Got) (b : Bool) (x : Int) : Prop where
  bel : Below N0 w wa
  nb : wa.heap[N0]? = some (.cells v 54 (0, 0))
  vg : Var wa (N0 + 1) (.slice lg ng cg) 24
  gs : GSrc wa lg ng cg G
  vi : Var wa (N0 + 2) (.slice li ni ci) 24
  gi : GSrc wa li ni ci I
  vx : Var wa (N0 + 3) (.bool b) 4
  ve : Var wa (N0 + 4) (.int .i64 x) 26
theorem LA.below {v : Array Value} {lg li : Option Addr} {ng cg ni ci : Nat} {I G : List Got} {b : Bool} {x : Int} (h : LA N0 v w wr lg li ng cg ni ci I G b x) (hb : Below wr.heap.size wr w') : LA N0 v w w' lg li ng cg ni ci I G b x := by
  have hl := h.vi.lt
  exact ⟨h.bel.trans (⟨hb.os, hb.tape, hb.output, hb.size, fun k hk => hb.block k (by have := h.bel.size; omega)⟩), (hb.block _ (by omega)).trans h.nb, (hb.block _ h.vg.lt).trans h.vg, h.gs.below hb, (hb.block _ h.vi.lt).trans h.vi, h.gi.below hb, (hb.block _ h.vx.lt).trans h.vx, (hb.block _ h.ve.lt).trans h.ve⟩
theorem nb_cell {v : Array Value} (h : w.heap[N0]? = some (.cells v 54 (0, 0))) (i : Nat) : w.cell? ⟨N0, i, none⟩ = v[i]? := by simp [World.cell?, h]
end Go.Proofs.Ytflinfmhmokfhaa
