/- Rows of structs (genrows.py). -/
import Derived.Test.YtocfbanbphhhbaaDoorKPo
import Derived.Test.YtocfbanbphhhbaaDoorJPt
import Derived.OrdersHeld
import Derived.Maps.AppendAt
import Derived.Laws.AppendOwnNone
import Derived.Laws.OwnMore
namespace Go.Proofs.YtocfbanbphhhbaaDoor
open Go.RowKit T Y V
variable {w w' w2 : World}
theorem Ap.newA {o : Obj} {ao bo : Option Addr} (h : Ap (w.alloc o) w2 ao bo) : Ap w w2 ao bo := (Ap.new w o ao).trans h

/-! ### rows of Sp -/
def ocs (Q : List Sp) : List Value := (Q.map fun e => (OC e).toList).flatten
theorem ocs_length (Q : List Sp) : (ocs Q).length = Q.length * 7 := by
  induction Q with
  | nil => rfl
  | cons e Q ih =>
    have e1 : ocs (e :: Q) = (OC e).toList ++ ocs Q := rfl
    have e2 : (OC e).toList.length = 7 := rfl
    rw [e1, List.length_append, ih, e2, List.length_cons]
    omega
theorem ocs_append (Q R : List Sp) : ocs (Q ++ R) = ocs Q ++ ocs R := by simp [ocs]
theorem ocs_one (Q : List Sp) : ∀ u ∈ ocs Q, u.oneCell' = true := by
  intro u hu
  simp only [ocs, List.mem_flatten, List.mem_map] at hu
  obtain ⟨l, ⟨e, _, rfl⟩, hu⟩ := hu
  exact OC_one e u hu
theorem ocs_at : ∀ (Q : List Sp) (j f : Nat), j < Q.length → f < 7 → (ocs Q)[j * 7 + f]? = (OC (Q.getD j sp0)).toList[f]?
  | [], j, f, hj, _ => absurd hj (Nat.not_lt_zero j)
  | e :: Q, 0, f, _, hf => by
    show ((OC e).toList ++ ocs Q)[0 * 7 + f]? = _
    rw [List.getElem?_append_left (by show _ < 7; omega)]
    simp
  | e :: Q, j + 1, f, hj, hf => by
    show ((OC e).toList ++ ocs Q)[(j + 1) * 7 + f]? = _
    have e2 : (OC e).toList.length = 7 := rfl
    rw [List.getElem?_append_right (by rw [e2]; omega), e2, show (j + 1) * 7 + f - 7 = j * 7 + f by omega]
    exact ocs_at Q j f (by simpa using hj) hf
/-- a row that the call owns -/
abbrev OR (w : World) (ao : Option Addr) (n c : Nat) (Q : List Sp) : Prop := w.ownsRow 0 31 7 (.slice ao n c) n (ocs Q)
theorem OR.len {ao : Option Addr} {n c : Nat} {Q : List Sp} (h : OR w ao n c Q) : Q.length = n := by have := h.1; rw [ocs_length] at this; omega
theorem OR.lt {ao : Option Addr} {n c : Nat} {Q : List Sp} (h : OR w ao n c Q) (k : Nat) (e : blk ao = some k) : k < w.heap.size := by
  rcases h.2 with ⟨h0, _⟩ | ⟨q, cap2, cur, hv, hq, hh, _⟩
  · simp only [Value.slice.injEq] at h0
    rw [h0.1] at e; cases e
  · simp only [Value.slice.injEq, true_and] at hv
    obtain ⟨rfl, rfl⟩ := hv
    have : q = k := Option.some.inj e
    subst this
    exact (Array.getElem?_eq_some_iff.1 hh).1
theorem OR.keep {ao : Option Addr} {n c : Nat} {Q : List Sp} (h : OR w ao n c Q) (hk : ∀ k, blk ao = some k → w'.heap[k]? = w.heap[k]?) : OR w' ao n c Q := by
  refine ⟨h.1, ?_⟩
  rcases h.2 with h0 | ⟨q, cap2, cur, hv, hq, hh, x⟩
  · exact Or.inl h0
  · have hv' := hv
    simp only [Value.slice.injEq, true_and] at hv'
    obtain ⟨rfl, rfl⟩ := hv'
    exact Or.inr ⟨q, _, cur, hv, hq, (hk q rfl).trans hh, x⟩
theorem OR.below {ao : Option Addr} {n c : Nat} {Q : List Sp} (h : OR w ao n c Q) (hb : Below w.heap.size w w') : OR w' ao n c Q := h.keep fun k e => hb.block k (h.lt k e)
theorem OR.at {ao : Option Addr} {n c : Nat} {Q : List Sp} (h : OR w ao n c Q) (j : Nat) (hj : j < n) : ∃ b, ao = some ⟨b, 0, none⟩ ∧ OAt w ⟨b, j * 7, none⟩ (Q.getD j sp0) := by
  have hl := h.len
  rcases h.2 with ⟨h0, h00⟩ | ⟨q, cap2, cur, hv, hq, hh, x⟩
  · omega
  · have hv' := hv
    simp only [Value.slice.injEq, true_and] at hv'
    obtain ⟨rfl, rfl⟩ := hv'
    have hc : ∀ f, f < 7 → w.cell? ⟨q, j * 7 + f, none⟩ = (OC (Q.getD j sp0)).toList[f]? := fun f hf => by
      rw [h.cellAt (j * 7 + f) (by omega), ocs_at Q j f (by omega) hf]
    exact ⟨q, rfl, ⟨hc 0 (by omega), by rw [Addr.add_lit]; exact hc 1 (by omega), by rw [Addr.add_lit]; exact hc 2 (by omega), by rw [Addr.add_lit]; exact hc 3 (by omega), by rw [Addr.add_lit]; exact hc 4 (by omega), by rw [Addr.add_lit]; exact hc 5 (by omega), by rw [Addr.add_lit]; exact hc 6 (by omega)⟩⟩
theorem OR.out {v : Value} {n : Nat} {Q : List Sp} (h : w.ownsRow 0 31 7 v n (ocs Q)) : ∃ ao c, v = .slice ao n c ∧ OR w ao n c Q := by
  rcases h.2 with ⟨h0, h00⟩ | ⟨q, cap2, cur, hv, r⟩
  · subst h0 h00
    exact ⟨none, 0, rfl, h⟩
  · subst hv
    exact ⟨_, _, rfl, h⟩
theorem OR.nil (w : World) : OR w none 0 0 [] := World.ownsRow_nil _ _ _ _
theorem infoO : (Tryd.prog.info? 31).map (fun i => (i.zero, i.size, i.bytes)) = some (some (.agg #[.int .i64 0, .int .i64 0, .int .i64 0, .int .i64 0, .string ⟨#[]⟩, .int .i64 0, .int .i64 0]), 7, 64) := by kernel_rfl
/-- append of some elements that were laid just before -/
theorem OR.runs {ao : Option Addr} {n c : Nat} {Q L : List Sp} {cs : Array Value} {m : Nat} (h : OR w ao n c Q) (hm : L.length = m) (hcs : cs.toList = ocs L) (hb : n + m ≤ 2199023255452) (ty : TypeId) :
    ∃ bo c2 w2, (Builtin.append_ #[24, 24] ty #[.slice ao n c, .slice (some ⟨w.heap.size, 0, none⟩) m m]).run Tryd.prog (w.alloc (.cells cs 31)) = .ok (.slice bo (n + m) c2) w2 ∧ OR w2 bo (n + m) c2 (Q ++ L) ∧ Ap w w2 ao bo := by
  obtain ⟨i0, hi, hz0, hz1, hz2⟩ := info_parts infoO
  have e : (Value.agg #[.int .i64 0, .int .i64 0, .int .i64 0, .int .i64 0, .string ⟨#[]⟩, .int .i64 0, .int .i64 0]).cells.size = 7 := by simp [Value.cells]
  have hk : OR (w.alloc (.cells cs 31)) ao n c Q := h.keep fun k e => Below.heap_alloc w _ k (h.lt k e)
  obtain ⟨v', w2, hrun, hown, hgrow, hnil, hat⟩ := run_append_own_at (P := Tryd.prog) (w.alloc (.cells cs 31)) 0 24 ty 31 i0 (.agg #[.int .i64 0, .int .i64 0, .int .i64 0, .int .i64 0, .string ⟨#[]⟩, .int .i64 0, .int .i64 0]) 7 64 Tryd.underlying24 hi hz0 hz1 hz2 e (by decide) (.slice ao n c) n (ocs Q) hk ⟨w.heap.size, 0, none⟩ m m (ocs L) (by rw [ocs_length, hm]) (fun j u hj => by
    rw [Addr.add_lit, Nat.zero_add, World.cell?_alloc_new]
    rw [← hcs] at hj
    simpa using hj) (ocs_one L) (by unfold maxLen; omega) (by omega) (Nat.zero_le _)
  rw [← ocs_append] at hown
  obtain ⟨bo, c2, rfl, hP⟩ := OR.out hown
  rw [ownBlock_blk] at hgrow
  rw [ownBlock_blk, ownBlock_blk] at hat
  refine ⟨bo, c2, w2, hrun, hP, Ap.newA ⟨hgrow, ?_⟩⟩
  rcases hat with e | e
  · exact Or.inl e
  · exact Or.inr ⟨_, e, Nat.le_refl _⟩
theorem step_appO {W : World} {ops : Array Oper} {o : Oper} {a : Act} {K : Act → World → Prop} {Q : Exit → Act → World → Prop} {E : Prop} {v1 v2 v' : Value} {w2 : World} (hgd : o.guard = none) (s x : Operand) (ho : o.op = .call { callee := .builtin .append, args := #[s, x], argTypes := #[24, 24] })
    (hs : a.eval s = v1) (hx : a.eval x = v2) (hrun : (Builtin.append_ #[24, 24] o.type #[v1, v2]).run Tryd.prog W = .ok v' w2) (hK : K (a.put o.dst v') w2) :
    if Region.wanted o (yielded ops a.tmps) = true then Oper.wp Tryd.prog o a W K Q else E := by
  have hw : Region.wanted o (yielded ops a.tmps) = true := by simp [Region.wanted, hgd]
  rw [if_pos hw]
  unfold Oper.wp
  simp [execOp, ho, resolve, invoke, builtin, hs, hx, hrun, Result.andThen]
  exact hK
/-- append outside of a drawn region -/
theorem OR.app {ao : Option Addr} {n c : Nat} {Q L : List Sp} {cs : Array Value} {m : Nat} (h : OR w ao n c Q) (hm : L.length = m) (hcs : cs.toList = ocs L) (hb : n + m ≤ 2199023255452)
    {ops : Array Oper} {rest : List Oper} {o : Oper} {a : Act} {Qq : Exit → Act → World → Prop} (hgd : o.guard = none) (sl y : Operand) (ho : o.op = .call { callee := .builtin .append, args := #[sl, y], argTypes := #[24, 24] })
    (hs : a.eval sl = .slice ao n c) (hy : a.eval y = .slice (some ⟨w.heap.size, 0, none⟩) m m)
    (hK : ∀ (bo : Option Addr) (c2 : Nat) (w2 : World), OR w2 bo (n + m) c2 (Q ++ L) → Ap w w2 ao bo → wpList Tryd.prog ops Qq rest (a.put o.dst (.slice bo (n + m) c2)) w2) :
    wpList Tryd.prog ops Qq (o :: rest) a (w.alloc (.cells cs 31)) := by
  obtain ⟨i0, hi, hz0, hz1, hz2⟩ := info_parts infoO
  have e : (Value.agg #[.int .i64 0, .int .i64 0, .int .i64 0, .int .i64 0, .string ⟨#[]⟩, .int .i64 0, .int .i64 0]).cells.size = 7 := by simp [Value.cells]
  have hk : OR (w.alloc (.cells cs 31)) ao n c Q := h.keep fun k e => Below.heap_alloc w _ k (h.lt k e)
  refine wpList_append_own_at _ hgd sl y 24 ho 0 31 i0 (.agg #[.int .i64 0, .int .i64 0, .int .i64 0, .int .i64 0, .string ⟨#[]⟩, .int .i64 0, .int .i64 0]) 7 64 Tryd.underlying24 hi hz0 hz1 hz2 e (by decide) _ n (ocs Q) hs hk ⟨w.heap.size, 0, none⟩ m m (ocs L) hy (by rw [ocs_length, hm]) (fun j u hj => by
    rw [Addr.add_lit, Nat.zero_add, World.cell?_alloc_new]
    rw [← hcs] at hj
    simpa using hj) (ocs_one L) (by unfold maxLen; omega) (by omega) (Nat.zero_le _) ?_
  intro v' w2 hown hgrow _ hat
  rw [← ocs_append] at hown
  obtain ⟨bo, c2, rfl, hP⟩ := OR.out hown
  rw [ownBlock_blk] at hgrow
  rw [ownBlock_blk, ownBlock_blk] at hat
  refine hK bo c2 w2 hP (Ap.newA ⟨hgrow, ?_⟩)
  rcases hat with e | e
  · exact Or.inl e
  · exact Or.inr ⟨_, e, Nat.le_refl _⟩
theorem OR.src {ao : Option Addr} {n c : Nat} {X : List Sp} (h : OR w ao n c X) : OSrc w ao n c X := by
  refine ⟨h.len, fun e => ?_, fun ad ha t ht => ?_⟩
  · subst e
    rcases h.2 with ⟨h0, h00⟩ | ⟨q, cap2, cur, hv, _⟩
    · simp only [Value.slice.injEq, true_and] at h0
      exact h0
    · cases hv
  · obtain ⟨b, hb, A⟩ := h.at t ht
    rw [ha] at hb
    obtain rfl := Option.some.inj hb
    rw [Addr.add_lit, Nat.zero_add]
    exact A
end Go.Proofs.YtocfbanbphhhbaaDoor
