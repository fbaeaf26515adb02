/- Rows of structs (genrows.py). -/
import Derived.Test.YtflinfmhmokfhaaUGo
import Derived.OrdersHeld
import Derived.Maps.AppendAt
import Derived.Laws.AppendOwnNone
import Derived.Laws.OwnMore
namespace Go.Proofs.Ytflinfmhmokfhaa
open Go.RowKit
variable {w w' w2 : World}
theorem Ap.newA {o : Obj} {ao bo : Option Addr} (h : Ap (w.alloc o) w2 ao bo) : Ap w w2 ao bo := (Ap.new w o ao).trans h

/-! ### rows of Got -/
def gcs (Q : List Got) : List Value := (Q.map fun e => (GC e).toList).flatten
theorem gcs_length (Q : List Got) : (gcs Q).length = Q.length * 3 := by
  induction Q with
  | nil => rfl
  | cons e Q ih =>
    have e1 : gcs (e :: Q) = (GC e).toList ++ gcs Q := rfl
    have e2 : (GC e).toList.length = 3 := rfl
    rw [e1, List.length_append, ih, e2, List.length_cons]
    omega
theorem gcs_append (Q R : List Got) : gcs (Q ++ R) = gcs Q ++ gcs R := by simp [gcs]
theorem gcs_one (Q : List Got) : ∀ u ∈ gcs Q, u.oneCell' = true := by
  intro u hu
  simp only [gcs, List.mem_flatten, List.mem_map] at hu
  obtain ⟨l, ⟨e, _, rfl⟩, hu⟩ := hu
  exact GC_one e u hu
theorem gcs_at : ∀ (Q : List Got) (j f : Nat), j < Q.length → f < 3 → (gcs Q)[j * 3 + f]? = (GC (Q.getD j g0)).toList[f]?
  | [], j, f, hj, _ => absurd hj (Nat.not_lt_zero j)
  | e :: Q, 0, f, _, hf => by
    show ((GC e).toList ++ gcs Q)[0 * 3 + f]? = _
    rw [List.getElem?_append_left (by show _ < 3; omega)]
    simp
  | e :: Q, j + 1, f, hj, hf => by
    show ((GC e).toList ++ gcs Q)[(j + 1) * 3 + f]? = _
    have e2 : (GC e).toList.length = 3 := rfl
    rw [List.getElem?_append_right (by rw [e2]; omega), e2, show (j + 1) * 3 + f - 3 = j * 3 + f by omega]
    exact gcs_at Q j f (by simpa using hj) hf
/-- a row that the call owns -/
abbrev GR (w : World) (ao : Option Addr) (n c : Nat) (Q : List Got) : Prop := w.ownsRow 0 29 3 (.slice ao n c) n (gcs Q)
theorem GR.len {ao : Option Addr} {n c : Nat} {Q : List Got} (h : GR w ao n c Q) : Q.length = n := by have := h.1; rw [gcs_length] at this; omega
theorem GR.lt {ao : Option Addr} {n c : Nat} {Q : List Got} (h : GR w ao n c Q) (k : Nat) (e : blk ao = some k) : k < w.heap.size := by
  rcases h.2 with ⟨h0, _⟩ | ⟨q, cap2, cur, hv, hq, hh, _⟩
  · simp only [Value.slice.injEq] at h0
    rw [h0.1] at e; cases e
  · simp only [Value.slice.injEq, true_and] at hv
    obtain ⟨rfl, rfl⟩ := hv
    have : q = k := Option.some.inj e
    subst this
    exact (Array.getElem?_eq_some_iff.1 hh).1
theorem GR.keep {ao : Option Addr} {n c : Nat} {Q : List Got} (h : GR w ao n c Q) (hk : ∀ k, blk ao = some k → w'.heap[k]? = w.heap[k]?) : GR w' ao n c Q := by
  refine ⟨h.1, ?_⟩
  rcases h.2 with h0 | ⟨q, cap2, cur, hv, hq, hh, x⟩
  · exact Or.inl h0
  · have hv' := hv
    simp only [Value.slice.injEq, true_and] at hv'
    obtain ⟨rfl, rfl⟩ := hv'
    exact Or.inr ⟨q, _, cur, hv, hq, (hk q rfl).trans hh, x⟩
theorem GR.below {ao : Option Addr} {n c : Nat} {Q : List Got} (h : GR w ao n c Q) (hb : Below w.heap.size w w') : GR w' ao n c Q := h.keep fun k e => hb.block k (h.lt k e)
theorem GR.at {ao : Option Addr} {n c : Nat} {Q : List Got} (h : GR w ao n c Q) (j : Nat) (hj : j < n) : ∃ b, ao = some ⟨b, 0, none⟩ ∧ GAt w ⟨b, j * 3, none⟩ (Q.getD j g0) := by
  have hl := h.len
  rcases h.2 with ⟨h0, h00⟩ | ⟨q, cap2, cur, hv, hq, hh, x⟩
  · omega
  · have hv' := hv
    simp only [Value.slice.injEq, true_and] at hv'
    obtain ⟨rfl, rfl⟩ := hv'
    have hc : ∀ f, f < 3 → w.cell? ⟨q, j * 3 + f, none⟩ = (GC (Q.getD j g0)).toList[f]? := fun f hf => by
      rw [h.cellAt (j * 3 + f) (by omega), gcs_at Q j f (by omega) hf]
    exact ⟨q, rfl, ⟨hc 0 (by omega), by rw [Addr.add_lit]; exact hc 1 (by omega), by rw [Addr.add_lit]; exact hc 2 (by omega)⟩⟩
theorem GR.out {v : Value} {n : Nat} {Q : List Got} (h : w.ownsRow 0 29 3 v n (gcs Q)) : ∃ ao c, v = .slice ao n c ∧ GR w ao n c Q := by
  rcases h.2 with ⟨h0, h00⟩ | ⟨q, cap2, cur, hv, r⟩
  · subst h0 h00
    exact ⟨none, 0, rfl, h⟩
  · subst hv
    exact ⟨_, _, rfl, h⟩
theorem GR.nil (w : World) : GR w none 0 0 [] := World.ownsRow_nil _ _ _ _
theorem infoG : (Try.prog.info? 29).map (fun i => (i.zero, i.size, i.bytes)) = some (some (.agg #[.int .i64 0, .bool false, .string ⟨#[]⟩]), 3, 32) := by kernel_rfl
/-- append of some elements that were laid just before -/
theorem GR.runs {ao : Option Addr} {n c : Nat} {Q L : List Got} {cs : Array Value} {m : Nat} (h : GR w ao n c Q) (hm : L.length = m) (hcs : cs.toList = gcs L) (hb : n + m ≤ 4398046511004) (ty : TypeId) :
    ∃ bo c2 w2, (Builtin.append_ #[24, 24] ty #[.slice ao n c, .slice (some ⟨w.heap.size, 0, none⟩) m m]).run Try.prog (w.alloc (.cells cs 29)) = .ok (.slice bo (n + m) c2) w2 ∧ GR w2 bo (n + m) c2 (Q ++ L) ∧ Ap w w2 ao bo := by
  obtain ⟨i0, hi, hz0, hz1, hz2⟩ := info_parts infoG
  have e : (Value.agg #[.int .i64 0, .bool false, .string ⟨#[]⟩]).cells.size = 3 := by simp [Value.cells]
  have hk : GR (w.alloc (.cells cs 29)) ao n c Q := h.keep fun k e => Below.heap_alloc w _ k (h.lt k e)
  obtain ⟨v', w2, hrun, hown, hgrow, hnil, hat⟩ := run_append_own_at (P := Try.prog) (w.alloc (.cells cs 29)) 0 24 ty 29 i0 (.agg #[.int .i64 0, .bool false, .string ⟨#[]⟩]) 3 32 Try.underlying24 hi hz0 hz1 hz2 e (by decide) (.slice ao n c) n (gcs Q) hk ⟨w.heap.size, 0, none⟩ m m (gcs L) (by rw [gcs_length, hm]) (fun j u hj => by
    rw [Addr.add_lit, Nat.zero_add, World.cell?_alloc_new]
    rw [← hcs] at hj
    simpa using hj) (gcs_one L) (by unfold maxLen; omega) (by omega) (Nat.zero_le _)
  rw [← gcs_append] at hown
  obtain ⟨bo, c2, rfl, hP⟩ := GR.out hown
  rw [ownBlock_blk] at hgrow
  rw [ownBlock_blk, ownBlock_blk] at hat
  refine ⟨bo, c2, w2, hrun, hP, Ap.newA ⟨hgrow, ?_⟩⟩
  rcases hat with e | e
  · exact Or.inl e
  · exact Or.inr ⟨_, e, Nat.le_refl _⟩
theorem step_appG {W : World} {ops : Array Oper} {o : Oper} {a : Act} {K : Act → World → Prop} {Q : Exit → Act → World → Prop} {E : Prop} {v1 v2 v' : Value} {w2 : World} (hgd : o.guard = none) (s x : Operand) (ho : o.op = .call { callee := .builtin .append, args := #[s, x], argTypes := #[24, 24] })
    (hs : a.eval s = v1) (hx : a.eval x = v2) (hrun : (Builtin.append_ #[24, 24] o.type #[v1, v2]).run Try.prog W = .ok v' w2) (hK : K (a.put o.dst v') w2) :
    if Region.wanted o (yielded ops a.tmps) = true then Oper.wp Try.prog o a W K Q else E := by
  have hw : Region.wanted o (yielded ops a.tmps) = true := by simp [Region.wanted, hgd]
  rw [if_pos hw]
  unfold Oper.wp
  simp [execOp, ho, resolve, invoke, builtin, hs, hx, hrun, Result.andThen]
  exact hK
/-- append outside of a drawn region -/
theorem GR.app {ao : Option Addr} {n c : Nat} {Q L : List Got} {cs : Array Value} {m : Nat} (h : GR w ao n c Q) (hm : L.length = m) (hcs : cs.toList = gcs L) (hb : n + m ≤ 4398046511004)
    {ops : Array Oper} {rest : List Oper} {o : Oper} {a : Act} {Qq : Exit → Act → World → Prop} (hgd : o.guard = none) (sl y : Operand) (ho : o.op = .call { callee := .builtin .append, args := #[sl, y], argTypes := #[24, 24] })
    (hs : a.eval sl = .slice ao n c) (hy : a.eval y = .slice (some ⟨w.heap.size, 0, none⟩) m m)
    (hK : ∀ (bo : Option Addr) (c2 : Nat) (w2 : World), GR w2 bo (n + m) c2 (Q ++ L) → Ap w w2 ao bo → wpList Try.prog ops Qq rest (a.put o.dst (.slice bo (n + m) c2)) w2) :
    wpList Try.prog ops Qq (o :: rest) a (w.alloc (.cells cs 29)) := by
  obtain ⟨i0, hi, hz0, hz1, hz2⟩ := info_parts infoG
  have e : (Value.agg #[.int .i64 0, .bool false, .string ⟨#[]⟩]).cells.size = 3 := by simp [Value.cells]
  have hk : GR (w.alloc (.cells cs 29)) ao n c Q := h.keep fun k e => Below.heap_alloc w _ k (h.lt k e)
  refine wpList_append_own_at _ hgd sl y 24 ho 0 29 i0 (.agg #[.int .i64 0, .bool false, .string ⟨#[]⟩]) 3 32 Try.underlying24 hi hz0 hz1 hz2 e (by decide) _ n (gcs Q) hs hk ⟨w.heap.size, 0, none⟩ m m (gcs L) hy (by rw [gcs_length, hm]) (fun j u hj => by
    rw [Addr.add_lit, Nat.zero_add, World.cell?_alloc_new]
    rw [← hcs] at hj
    simpa using hj) (gcs_one L) (by unfold maxLen; omega) (by omega) (Nat.zero_le _) ?_
  intro v' w2 hown hgrow _ hat
  rw [← gcs_append] at hown
  obtain ⟨bo, c2, rfl, hP⟩ := GR.out hown
  rw [ownBlock_blk] at hgrow
  rw [ownBlock_blk, ownBlock_blk] at hat
  refine hK bo c2 w2 hP (Ap.newA ⟨hgrow, ?_⟩)
  rcases hat with e | e
  · exact Or.inl e
  · exact Or.inr ⟨_, e, Nat.le_refl _⟩
/-- a row that is read -/
structure GSrc (w : World) (ao : Option Addr) (m c : Nat) (X : List Got) : Prop where
  len : X.length = m
  nil : ao = none → m = 0 ∧ c = 0
  cell : ∀ ad, ao = some ad → ∀ t, t < m → GAt w (ad.add (t * 3)) (X.getD t g0)
theorem GSrc.below {ao : Option Addr} {m c : Nat} {X : List Got} (h : GSrc w ao m c X) (hb : Below w.heap.size w w') : GSrc w' ao m c X :=
  ⟨h.len, h.nil, fun ad ha t ht => (h.cell ad ha t ht).on hb⟩
theorem GSrc.empty (w : World) : GSrc w none 0 0 [] := ⟨rfl, fun _ => ⟨rfl, rfl⟩, (fun ad h => by cases h)⟩
theorem GR.src {ao : Option Addr} {n c : Nat} {X : List Got} (h : GR w ao n c X) : GSrc w ao n c X := by
  refine ⟨h.len, fun e => ?_, fun ad ha t ht => ?_⟩
  · subst e
    rcases h.2 with ⟨h0, h00⟩ | ⟨q, cap2, cur, hv, _⟩
    · simp only [Value.slice.injEq, true_and] at h0
      exact h0
    · cases hv
  · obtain ⟨b, hb, A⟩ := h.at t ht
    rw [ha] at hb
    obtain rfl := Option.some.inj hb
    rw [Addr.add_lit, Nat.zero_add]
    exact A
theorem GSrc.at {ao : Option Addr} {m c : Nat} {X : List Got} (h : GSrc w ao m c X) (k : Nat) (hk : k < m) : ∃ ad, ao = some ad ∧ GAt w (ad.add (k * 3)) (X.getD k g0) := by
  cases ao with
  | none => have := (h.nil rfl).1; omega
  | some ad => exact ⟨ad, rfl, h.cell ad rfl k hk⟩

/-! ### rows of Stp -/
def qcs (Q : List Stp) : List Value := (Q.map fun e => (QC e).toList).flatten
theorem qcs_length (Q : List Stp) : (qcs Q).length = Q.length * 5 := by
  induction Q with
  | nil => rfl
  | cons e Q ih =>
    have e1 : qcs (e :: Q) = (QC e).toList ++ qcs Q := rfl
    have e2 : (QC e).toList.length = 5 := rfl
    rw [e1, List.length_append, ih, e2, List.length_cons]
    omega
theorem qcs_append (Q R : List Stp) : qcs (Q ++ R) = qcs Q ++ qcs R := by simp [qcs]
theorem qcs_one (Q : List Stp) : ∀ u ∈ qcs Q, u.oneCell' = true := by
  intro u hu
  simp only [qcs, List.mem_flatten, List.mem_map] at hu
  obtain ⟨l, ⟨e, _, rfl⟩, hu⟩ := hu
  exact QC_one e u hu
theorem qcs_at : ∀ (Q : List Stp) (j f : Nat), j < Q.length → f < 5 → (qcs Q)[j * 5 + f]? = (QC (Q.getD j q0)).toList[f]?
  | [], j, f, hj, _ => absurd hj (Nat.not_lt_zero j)
  | e :: Q, 0, f, _, hf => by
    show ((QC e).toList ++ qcs Q)[0 * 5 + f]? = _
    rw [List.getElem?_append_left (by show _ < 5; omega)]
    simp
  | e :: Q, j + 1, f, hj, hf => by
    show ((QC e).toList ++ qcs Q)[(j + 1) * 5 + f]? = _
    have e2 : (QC e).toList.length = 5 := rfl
    rw [List.getElem?_append_right (by rw [e2]; omega), e2, show (j + 1) * 5 + f - 5 = j * 5 + f by omega]
    exact qcs_at Q j f (by simpa using hj) hf
/-- a row that the call owns -/
abbrev QR (w : World) (ao : Option Addr) (n c : Nat) (Q : List Stp) : Prop := w.ownsRow 0 42 5 (.slice ao n c) n (qcs Q)
theorem QR.len {ao : Option Addr} {n c : Nat} {Q : List Stp} (h : QR w ao n c Q) : Q.length = n := by have := h.1; rw [qcs_length] at this; omega
theorem QR.lt {ao : Option Addr} {n c : Nat} {Q : List Stp} (h : QR w ao n c Q) (k : Nat) (e : blk ao = some k) : k < w.heap.size := by
  rcases h.2 with ⟨h0, _⟩ | ⟨q, cap2, cur, hv, hq, hh, _⟩
  · simp only [Value.slice.injEq] at h0
    rw [h0.1] at e; cases e
  · simp only [Value.slice.injEq, true_and] at hv
    obtain ⟨rfl, rfl⟩ := hv
    have : q = k := Option.some.inj e
    subst this
    exact (Array.getElem?_eq_some_iff.1 hh).1
theorem QR.keep {ao : Option Addr} {n c : Nat} {Q : List Stp} (h : QR w ao n c Q) (hk : ∀ k, blk ao = some k → w'.heap[k]? = w.heap[k]?) : QR w' ao n c Q := by
  refine ⟨h.1, ?_⟩
  rcases h.2 with h0 | ⟨q, cap2, cur, hv, hq, hh, x⟩
  · exact Or.inl h0
  · have hv' := hv
    simp only [Value.slice.injEq, true_and] at hv'
    obtain ⟨rfl, rfl⟩ := hv'
    exact Or.inr ⟨q, _, cur, hv, hq, (hk q rfl).trans hh, x⟩
theorem QR.below {ao : Option Addr} {n c : Nat} {Q : List Stp} (h : QR w ao n c Q) (hb : Below w.heap.size w w') : QR w' ao n c Q := h.keep fun k e => hb.block k (h.lt k e)
theorem QR.at {ao : Option Addr} {n c : Nat} {Q : List Stp} (h : QR w ao n c Q) (j : Nat) (hj : j < n) : ∃ b, ao = some ⟨b, 0, none⟩ ∧ QAt w ⟨b, j * 5, none⟩ (Q.getD j q0) := by
  have hl := h.len
  rcases h.2 with ⟨h0, h00⟩ | ⟨q, cap2, cur, hv, hq, hh, x⟩
  · omega
  · have hv' := hv
    simp only [Value.slice.injEq, true_and] at hv'
    obtain ⟨rfl, rfl⟩ := hv'
    have hc : ∀ f, f < 5 → w.cell? ⟨q, j * 5 + f, none⟩ = (QC (Q.getD j q0)).toList[f]? := fun f hf => by
      rw [h.cellAt (j * 5 + f) (by omega), qcs_at Q j f (by omega) hf]
    exact ⟨q, rfl, ⟨hc 0 (by omega), by rw [Addr.add_lit]; exact hc 1 (by omega), by rw [Addr.add_lit]; exact hc 2 (by omega), by rw [Addr.add_lit]; exact hc 3 (by omega), by rw [Addr.add_lit]; exact hc 4 (by omega)⟩⟩
theorem QR.out {v : Value} {n : Nat} {Q : List Stp} (h : w.ownsRow 0 42 5 v n (qcs Q)) : ∃ ao c, v = .slice ao n c ∧ QR w ao n c Q := by
  rcases h.2 with ⟨h0, h00⟩ | ⟨q, cap2, cur, hv, r⟩
  · subst h0 h00
    exact ⟨none, 0, rfl, h⟩
  · subst hv
    exact ⟨_, _, rfl, h⟩
theorem QR.nil (w : World) : QR w none 0 0 [] := World.ownsRow_nil _ _ _ _
theorem infoQ : (Try.prog.info? 42).map (fun i => (i.zero, i.size, i.bytes)) = some (some (.agg #[.int .i64 0, .int .i64 0, .int .i64 0, .bool false, .string ⟨#[]⟩]), 5, 48) := by kernel_rfl
/-- append of some elements that were laid just before -/
theorem QR.runs {ao : Option Addr} {n c : Nat} {Q L : List Stp} {cs : Array Value} {m : Nat} (h : QR w ao n c Q) (hm : L.length = m) (hcs : cs.toList = qcs L) (hb : n + m ≤ 2932031007302) (ty : TypeId) :
    ∃ bo c2 w2, (Builtin.append_ #[39, 39] ty #[.slice ao n c, .slice (some ⟨w.heap.size, 0, none⟩) m m]).run Try.prog (w.alloc (.cells cs 42)) = .ok (.slice bo (n + m) c2) w2 ∧ QR w2 bo (n + m) c2 (Q ++ L) ∧ Ap w w2 ao bo := by
  obtain ⟨i0, hi, hz0, hz1, hz2⟩ := info_parts infoQ
  have e : (Value.agg #[.int .i64 0, .int .i64 0, .int .i64 0, .bool false, .string ⟨#[]⟩]).cells.size = 5 := by simp [Value.cells]
  have hk : QR (w.alloc (.cells cs 42)) ao n c Q := h.keep fun k e => Below.heap_alloc w _ k (h.lt k e)
  obtain ⟨v', w2, hrun, hown, hgrow, hnil, hat⟩ := run_append_own_at (P := Try.prog) (w.alloc (.cells cs 42)) 0 39 ty 42 i0 (.agg #[.int .i64 0, .int .i64 0, .int .i64 0, .bool false, .string ⟨#[]⟩]) 5 48 Try.underlying39 hi hz0 hz1 hz2 e (by decide) (.slice ao n c) n (qcs Q) hk ⟨w.heap.size, 0, none⟩ m m (qcs L) (by rw [qcs_length, hm]) (fun j u hj => by
    rw [Addr.add_lit, Nat.zero_add, World.cell?_alloc_new]
    rw [← hcs] at hj
    simpa using hj) (qcs_one L) (by unfold maxLen; omega) (by omega) (Nat.zero_le _)
  rw [← qcs_append] at hown
  obtain ⟨bo, c2, rfl, hP⟩ := QR.out hown
  rw [ownBlock_blk] at hgrow
  rw [ownBlock_blk, ownBlock_blk] at hat
  refine ⟨bo, c2, w2, hrun, hP, Ap.newA ⟨hgrow, ?_⟩⟩
  rcases hat with e | e
  · exact Or.inl e
  · exact Or.inr ⟨_, e, Nat.le_refl _⟩
theorem step_appQ {W : World} {ops : Array Oper} {o : Oper} {a : Act} {K : Act → World → Prop} {Q : Exit → Act → World → Prop} {E : Prop} {v1 v2 v' : Value} {w2 : World} (hgd : o.guard = none) (s x : Operand) (ho : o.op = .call { callee := .builtin .append, args := #[s, x], argTypes := #[39, 39] })
    (hs : a.eval s = v1) (hx : a.eval x = v2) (hrun : (Builtin.append_ #[39, 39] o.type #[v1, v2]).run Try.prog W = .ok v' w2) (hK : K (a.put o.dst v') w2) :
    if Region.wanted o (yielded ops a.tmps) = true then Oper.wp Try.prog o a W K Q else E := by
  have hw : Region.wanted o (yielded ops a.tmps) = true := by simp [Region.wanted, hgd]
  rw [if_pos hw]
  unfold Oper.wp
  simp [execOp, ho, resolve, invoke, builtin, hs, hx, hrun, Result.andThen]
  exact hK
/-- append outside of a drawn region -/
theorem QR.app {ao : Option Addr} {n c : Nat} {Q L : List Stp} {cs : Array Value} {m : Nat} (h : QR w ao n c Q) (hm : L.length = m) (hcs : cs.toList = qcs L) (hb : n + m ≤ 2932031007302)
    {ops : Array Oper} {rest : List Oper} {o : Oper} {a : Act} {Qq : Exit → Act → World → Prop} (hgd : o.guard = none) (sl y : Operand) (ho : o.op = .call { callee := .builtin .append, args := #[sl, y], argTypes := #[39, 39] })
    (hs : a.eval sl = .slice ao n c) (hy : a.eval y = .slice (some ⟨w.heap.size, 0, none⟩) m m)
    (hK : ∀ (bo : Option Addr) (c2 : Nat) (w2 : World), QR w2 bo (n + m) c2 (Q ++ L) → Ap w w2 ao bo → wpList Try.prog ops Qq rest (a.put o.dst (.slice bo (n + m) c2)) w2) :
    wpList Try.prog ops Qq (o :: rest) a (w.alloc (.cells cs 42)) := by
  obtain ⟨i0, hi, hz0, hz1, hz2⟩ := info_parts infoQ
  have e : (Value.agg #[.int .i64 0, .int .i64 0, .int .i64 0, .bool false, .string ⟨#[]⟩]).cells.size = 5 := by simp [Value.cells]
  have hk : QR (w.alloc (.cells cs 42)) ao n c Q := h.keep fun k e => Below.heap_alloc w _ k (h.lt k e)
  refine wpList_append_own_at _ hgd sl y 39 ho 0 42 i0 (.agg #[.int .i64 0, .int .i64 0, .int .i64 0, .bool false, .string ⟨#[]⟩]) 5 48 Try.underlying39 hi hz0 hz1 hz2 e (by decide) _ n (qcs Q) hs hk ⟨w.heap.size, 0, none⟩ m m (qcs L) hy (by rw [qcs_length, hm]) (fun j u hj => by
    rw [Addr.add_lit, Nat.zero_add, World.cell?_alloc_new]
    rw [← hcs] at hj
    simpa using hj) (qcs_one L) (by unfold maxLen; omega) (by omega) (Nat.zero_le _) ?_
  intro v' w2 hown hgrow _ hat
  rw [← qcs_append] at hown
  obtain ⟨bo, c2, rfl, hP⟩ := QR.out hown
  rw [ownBlock_blk] at hgrow
  rw [ownBlock_blk, ownBlock_blk] at hat
  refine hK bo c2 w2 hP (Ap.newA ⟨hgrow, ?_⟩)
  rcases hat with e | e
  · exact Or.inl e
  · exact Or.inr ⟨_, e, Nat.le_refl _⟩
/-- a row that is read -/
structure QSrc (w : World) (ao : Option Addr) (m c : Nat) (X : List Stp) : Prop where
  len : X.length = m
  nil : ao = none → m = 0 ∧ c = 0
  cell : ∀ ad, ao = some ad → ∀ t, t < m → QAt w (ad.add (t * 5)) (X.getD t q0)
theorem QSrc.below {ao : Option Addr} {m c : Nat} {X : List Stp} (h : QSrc w ao m c X) (hb : Below w.heap.size w w') : QSrc w' ao m c X :=
  ⟨h.len, h.nil, fun ad ha t ht => (h.cell ad ha t ht).on hb⟩
theorem QSrc.empty (w : World) : QSrc w none 0 0 [] := ⟨rfl, fun _ => ⟨rfl, rfl⟩, (fun ad h => by cases h)⟩
theorem QR.src {ao : Option Addr} {n c : Nat} {X : List Stp} (h : QR w ao n c X) : QSrc w ao n c X := by
  refine ⟨h.len, fun e => ?_, fun ad ha t ht => ?_⟩
  · subst e
    rcases h.2 with ⟨h0, h00⟩ | ⟨q, cap2, cur, hv, _⟩
    · simp only [Value.slice.injEq, true_and] at h0
      exact h0
    · cases hv
  · obtain ⟨b, hb, A⟩ := h.at t ht
    rw [ha] at hb
    obtain rfl := Option.some.inj hb
    rw [Addr.add_lit, Nat.zero_add]
    exact A
theorem QSrc.at {ao : Option Addr} {m c : Nat} {X : List Stp} (h : QSrc w ao m c X) (k : Nat) (hk : k < m) : ∃ ad, ao = some ad ∧ QAt w (ad.add (k * 5)) (X.getD k q0) := by
  cases ao with
  | none => have := (h.nil rfl).1; omega
  | some ad => exact ⟨ad, rfl, h.cell ad rfl k hk⟩
end Go.Proofs.Ytflinfmhmokfhaa
