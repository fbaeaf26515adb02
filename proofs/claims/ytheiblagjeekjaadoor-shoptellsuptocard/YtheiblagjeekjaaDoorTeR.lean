/- Rows of structs (genrows.py). -/
import Derived.Test.YtheiblagjeekjaaDoorTeS
import Derived.OrdersHeld
import Derived.Maps.AppendAt
import Derived.Laws.AppendOwnNone
import Derived.Laws.OwnMore
namespace Go.Proofs.YtheiblagjeekjaaDoor
open Go.RowKit
variable {w w' w2 : World}
theorem Ap.newA {o : Obj} {ao bo : Option Addr} (h : Ap (w.alloc o) w2 ao bo) : Ap w w2 ao bo := (Ap.new w o ao).trans h

/-! ### rows of Lne -/
def lncs (Q : List Lne) : List Value := (Q.map fun e => (LnC e).toList).flatten
theorem lncs_length (Q : List Lne) : (lncs Q).length = Q.length * 3 := by
  induction Q with
  | nil => rfl
  | cons e Q ih =>
    have e1 : lncs (e :: Q) = (LnC e).toList ++ lncs Q := rfl
    have e2 : (LnC e).toList.length = 3 := rfl
    rw [e1, List.length_append, ih, e2, List.length_cons]
    omega
theorem lncs_append (Q R : List Lne) : lncs (Q ++ R) = lncs Q ++ lncs R := by simp [lncs]
theorem lncs_one (Q : List Lne) : ∀ u ∈ lncs Q, u.oneCell' = true := by
  intro u hu
  simp only [lncs, List.mem_flatten, List.mem_map] at hu
  obtain ⟨l, ⟨e, _, rfl⟩, hu⟩ := hu
  exact LnC_one e u hu
theorem lncs_at : ∀ (Q : List Lne) (j f : Nat), j < Q.length → f < 3 → (lncs Q)[j * 3 + f]? = (LnC (Q.getD j ln0)).toList[f]?
  | [], j, f, hj, _ => absurd hj (Nat.not_lt_zero j)
  | e :: Q, 0, f, _, hf => by
    show ((LnC e).toList ++ lncs Q)[0 * 3 + f]? = _
    rw [List.getElem?_append_left (by show _ < 3; omega)]
    simp
  | e :: Q, j + 1, f, hj, hf => by
    show ((LnC e).toList ++ lncs Q)[(j + 1) * 3 + f]? = _
    have e2 : (LnC e).toList.length = 3 := rfl
    rw [List.getElem?_append_right (by rw [e2]; omega), e2, show (j + 1) * 3 + f - 3 = j * 3 + f by omega]
    exact lncs_at Q j f (by simpa using hj) hf
/-- a row that the call owns -/
abbrev LnR (w : World) (ao : Option Addr) (n c : Nat) (Q : List Lne) : Prop := w.ownsRow 0 31 3 (.slice ao n c) n (lncs Q)
theorem LnR.len {ao : Option Addr} {n c : Nat} {Q : List Lne} (h : LnR w ao n c Q) : Q.length = n := by have := h.1; rw [lncs_length] at this; omega
theorem LnR.lt {ao : Option Addr} {n c : Nat} {Q : List Lne} (h : LnR w ao n c Q) (k : Nat) (e : blk ao = some k) : k < w.heap.size := by
  rcases h.2 with ⟨h0, _⟩ | ⟨q, cap2, cur, hv, hq, hh, _⟩
  · simp only [Value.slice.injEq] at h0
    rw [h0.1] at e; cases e
  · simp only [Value.slice.injEq, true_and] at hv
    obtain ⟨rfl, rfl⟩ := hv
    have : q = k := Option.some.inj e
    subst this
    exact (Array.getElem?_eq_some_iff.1 hh).1
theorem LnR.keep {ao : Option Addr} {n c : Nat} {Q : List Lne} (h : LnR w ao n c Q) (hk : ∀ k, blk ao = some k → w'.heap[k]? = w.heap[k]?) : LnR w' ao n c Q := by
  refine ⟨h.1, ?_⟩
  rcases h.2 with h0 | ⟨q, cap2, cur, hv, hq, hh, x⟩
  · exact Or.inl h0
  · have hv' := hv
    simp only [Value.slice.injEq, true_and] at hv'
    obtain ⟨rfl, rfl⟩ := hv'
    exact Or.inr ⟨q, _, cur, hv, hq, (hk q rfl).trans hh, x⟩
theorem LnR.below {ao : Option Addr} {n c : Nat} {Q : List Lne} (h : LnR w ao n c Q) (hb : Below w.heap.size w w') : LnR w' ao n c Q := h.keep fun k e => hb.block k (h.lt k e)
theorem LnR.at {ao : Option Addr} {n c : Nat} {Q : List Lne} (h : LnR w ao n c Q) (j : Nat) (hj : j < n) : ∃ b, ao = some ⟨b, 0, none⟩ ∧ LnAt w ⟨b, j * 3, none⟩ (Q.getD j ln0) := by
  have hl := h.len
  rcases h.2 with ⟨h0, h00⟩ | ⟨q, cap2, cur, hv, hq, hh, x⟩
  · omega
  · have hv' := hv
    simp only [Value.slice.injEq, true_and] at hv'
    obtain ⟨rfl, rfl⟩ := hv'
    have hc : ∀ f, f < 3 → w.cell? ⟨q, j * 3 + f, none⟩ = (LnC (Q.getD j ln0)).toList[f]? := fun f hf => by
      rw [h.cellAt (j * 3 + f) (by omega), lncs_at Q j f (by omega) hf]
    exact ⟨q, rfl, ⟨hc 0 (by omega), by rw [Addr.add_lit]; exact hc 1 (by omega), by rw [Addr.add_lit]; exact hc 2 (by omega)⟩⟩
theorem LnR.out {v : Value} {n : Nat} {Q : List Lne} (h : w.ownsRow 0 31 3 v n (lncs Q)) : ∃ ao c, v = .slice ao n c ∧ LnR w ao n c Q := by
  rcases h.2 with ⟨h0, h00⟩ | ⟨q, cap2, cur, hv, r⟩
  · subst h0 h00
    exact ⟨none, 0, rfl, h⟩
  · subst hv
    exact ⟨_, _, rfl, h⟩
theorem LnR.nil (w : World) : LnR w none 0 0 [] := World.ownsRow_nil _ _ _ _
theorem infoLn : (Tryd.prog.info? 31).map (fun i => (i.zero, i.size, i.bytes)) = some (some (.agg #[.string ⟨#[]⟩, .int .i64 0, .int .i64 0]), 3, 32) := by kernel_rfl
/-- append of some elements that were laid just before -/
theorem LnR.runs {ao : Option Addr} {n c : Nat} {Q L : List Lne} {cs : Array Value} {m : Nat} (h : LnR w ao n c Q) (hm : L.length = m) (hcs : cs.toList = lncs L) (hb : n + m ≤ 4398046511004) (ty : TypeId) :
    ∃ bo c2 w2, (Builtin.append_ #[26, 26] ty #[.slice ao n c, .slice (some ⟨w.heap.size, 0, none⟩) m m]).run Tryd.prog (w.alloc (.cells cs 31)) = .ok (.slice bo (n + m) c2) w2 ∧ LnR w2 bo (n + m) c2 (Q ++ L) ∧ Ap w w2 ao bo := by
  obtain ⟨i0, hi, hz0, hz1, hz2⟩ := info_parts infoLn
  have e : (Value.agg #[.string ⟨#[]⟩, .int .i64 0, .int .i64 0]).cells.size = 3 := by simp [Value.cells]
  have hk : LnR (w.alloc (.cells cs 31)) ao n c Q := h.keep fun k e => Below.heap_alloc w _ k (h.lt k e)
  obtain ⟨v', w2, hrun, hown, hgrow, hnil, hat⟩ := run_append_own_at (P := Tryd.prog) (w.alloc (.cells cs 31)) 0 26 ty 31 i0 (.agg #[.string ⟨#[]⟩, .int .i64 0, .int .i64 0]) 3 32 Tryd.underlying26 hi hz0 hz1 hz2 e (by decide) (.slice ao n c) n (lncs Q) hk ⟨w.heap.size, 0, none⟩ m m (lncs L) (by rw [lncs_length, hm]) (fun j u hj => by
    rw [Addr.add_lit, Nat.zero_add, World.cell?_alloc_new]
    rw [← hcs] at hj
    simpa using hj) (lncs_one L) (by unfold maxLen; omega) (by omega) (Nat.zero_le _)
  rw [← lncs_append] at hown
  obtain ⟨bo, c2, rfl, hP⟩ := LnR.out hown
  rw [ownBlock_blk] at hgrow
  rw [ownBlock_blk, ownBlock_blk] at hat
  refine ⟨bo, c2, w2, hrun, hP, Ap.newA ⟨hgrow, ?_⟩⟩
  rcases hat with e | e
  · exact Or.inl e
  · exact Or.inr ⟨_, e, Nat.le_refl _⟩
theorem step_appLn {W : World} {ops : Array Oper} {o : Oper} {a : Act} {K : Act → World → Prop} {Q : Exit → Act → World → Prop} {E : Prop} {v1 v2 v' : Value} {w2 : World} (hgd : o.guard = none) (s x : Operand) (ho : o.op = .call { callee := .builtin .append, args := #[s, x], argTypes := #[26, 26] })
    (hs : a.eval s = v1) (hx : a.eval x = v2) (hrun : (Builtin.append_ #[26, 26] o.type #[v1, v2]).run Tryd.prog W = .ok v' w2) (hK : K (a.put o.dst v') w2) :
    if Region.wanted o (yielded ops a.tmps) = true then Oper.wp Tryd.prog o a W K Q else E := by
  have hw : Region.wanted o (yielded ops a.tmps) = true := by simp [Region.wanted, hgd]
  rw [if_pos hw]
  unfold Oper.wp
  simp [execOp, ho, resolve, invoke, builtin, hs, hx, hrun, Result.andThen]
  exact hK
/-- append outside of a drawn region -/
theorem LnR.app {ao : Option Addr} {n c : Nat} {Q L : List Lne} {cs : Array Value} {m : Nat} (h : LnR w ao n c Q) (hm : L.length = m) (hcs : cs.toList = lncs L) (hb : n + m ≤ 4398046511004)
    {ops : Array Oper} {rest : List Oper} {o : Oper} {a : Act} {Qq : Exit → Act → World → Prop} (hgd : o.guard = none) (sl y : Operand) (ho : o.op = .call { callee := .builtin .append, args := #[sl, y], argTypes := #[26, 26] })
    (hs : a.eval sl = .slice ao n c) (hy : a.eval y = .slice (some ⟨w.heap.size, 0, none⟩) m m)
    (hK : ∀ (bo : Option Addr) (c2 : Nat) (w2 : World), LnR w2 bo (n + m) c2 (Q ++ L) → Ap w w2 ao bo → wpList Tryd.prog ops Qq rest (a.put o.dst (.slice bo (n + m) c2)) w2) :
    wpList Tryd.prog ops Qq (o :: rest) a (w.alloc (.cells cs 31)) := by
  obtain ⟨i0, hi, hz0, hz1, hz2⟩ := info_parts infoLn
  have e : (Value.agg #[.string ⟨#[]⟩, .int .i64 0, .int .i64 0]).cells.size = 3 := by simp [Value.cells]
  have hk : LnR (w.alloc (.cells cs 31)) ao n c Q := h.keep fun k e => Below.heap_alloc w _ k (h.lt k e)
  refine wpList_append_own_at _ hgd sl y 26 ho 0 31 i0 (.agg #[.string ⟨#[]⟩, .int .i64 0, .int .i64 0]) 3 32 Tryd.underlying26 hi hz0 hz1 hz2 e (by decide) _ n (lncs Q) hs hk ⟨w.heap.size, 0, none⟩ m m (lncs L) hy (by rw [lncs_length, hm]) (fun j u hj => by
    rw [Addr.add_lit, Nat.zero_add, World.cell?_alloc_new]
    rw [← hcs] at hj
    simpa using hj) (lncs_one L) (by unfold maxLen; omega) (by omega) (Nat.zero_le _) ?_
  intro v' w2 hown hgrow _ hat
  rw [← lncs_append] at hown
  obtain ⟨bo, c2, rfl, hP⟩ := LnR.out hown
  rw [ownBlock_blk] at hgrow
  rw [ownBlock_blk, ownBlock_blk] at hat
  refine hK bo c2 w2 hP (Ap.newA ⟨hgrow, ?_⟩)
  rcases hat with e | e
  · exact Or.inl e
  · exact Or.inr ⟨_, e, Nat.le_refl _⟩
/-- a row that is read -/
structure LnSrc (w : World) (ao : Option Addr) (m c : Nat) (X : List Lne) : Prop where
  len : X.length = m
  nil : ao = none → m = 0 ∧ c = 0
  cell : ∀ ad, ao = some ad → ∀ t, t < m → LnAt w (ad.add (t * 3)) (X.getD t ln0)
theorem LnSrc.below {ao : Option Addr} {m c : Nat} {X : List Lne} (h : LnSrc w ao m c X) (hb : Below w.heap.size w w') : LnSrc w' ao m c X :=
  ⟨h.len, h.nil, fun ad ha t ht => (h.cell ad ha t ht).on hb⟩
theorem LnSrc.empty (w : World) : LnSrc w none 0 0 [] := ⟨rfl, fun _ => ⟨rfl, rfl⟩, (fun ad h => by cases h)⟩
theorem LnR.src {ao : Option Addr} {n c : Nat} {X : List Lne} (h : LnR w ao n c X) : LnSrc w ao n c X := by
  refine ⟨h.len, fun e => ?_, fun ad ha t ht => ?_⟩
  · subst e
    rcases h.2 with ⟨h0, h00⟩ | ⟨q, cap2, cur, hv, _⟩
    · simp only [Value.slice.injEq, true_and] at h0
      exact h0
    · cases hv
  · obtain ⟨b, hb, A⟩ := h.at t ht
    rw [ha] at hb
    obtain rfl := Option.some.inj hb
    rw [Addr.add_lit, Nat.zero_add]
    exact A
theorem LnSrc.at {ao : Option Addr} {m c : Nat} {X : List Lne} (h : LnSrc w ao m c X) (k : Nat) (hk : k < m) : ∃ ad, ao = some ad ∧ LnAt w (ad.add (k * 3)) (X.getD k ln0) := by
  cases ao with
  | none => have := (h.nil rfl).1; omega
  | some ad => exact ⟨ad, rfl, h.cell ad rfl k hk⟩
end Go.Proofs.YtheiblagjeekjaaDoor
