/- Rows of structs (genrows.py). -/
import Derived.Test.YtinicdnpkihbkaaESt
import Derived.OrdersHeld
import Derived.Maps.AppendAt
import Derived.Laws.AppendOwnNone
import Derived.Laws.OwnMore
namespace Go.Proofs.Ytinicdnpkihbkaa
open Go.RowKit
variable {w w' w2 : World}
theorem Ap.newA {o : Obj} {ao bo : Option Addr} (h : Ap (w.alloc o) w2 ao bo) : Ap w w2 ao bo := (Ap.new w o ao).trans h

/-! ### rows of Pr -/
def pcs (Q : List Pr) : List Value := (Q.map fun e => (PC e).toList).flatten
theorem pcs_length (Q : List Pr) : (pcs Q).length = Q.length * 2 := by
  induction Q with
  | nil => rfl
  | cons e Q ih =>
    have e1 : pcs (e :: Q) = (PC e).toList ++ pcs Q := rfl
    have e2 : (PC e).toList.length = 2 := rfl
    rw [e1, List.length_append, ih, e2, List.length_cons]
    omega
theorem pcs_append (Q R : List Pr) : pcs (Q ++ R) = pcs Q ++ pcs R := by simp [pcs]
theorem pcs_one (Q : List Pr) : ∀ u ∈ pcs Q, u.oneCell' = true := by
  intro u hu
  simp only [pcs, List.mem_flatten, List.mem_map] at hu
  obtain ⟨l, ⟨e, _, rfl⟩, hu⟩ := hu
  exact PC_one e u hu
theorem pcs_at : ∀ (Q : List Pr) (j f : Nat), j < Q.length → f < 2 → (pcs Q)[j * 2 + f]? = (PC (Q.getD j p0)).toList[f]?
  | [], j, f, hj, _ => absurd hj (Nat.not_lt_zero j)
  | e :: Q, 0, f, _, hf => by
    show ((PC e).toList ++ pcs Q)[0 * 2 + f]? = _
    rw [List.getElem?_append_left (by show _ < 2; omega)]
    simp
  | e :: Q, j + 1, f, hj, hf => by
    show ((PC e).toList ++ pcs Q)[(j + 1) * 2 + f]? = _
    have e2 : (PC e).toList.length = 2 := rfl
    rw [List.getElem?_append_right (by rw [e2]; omega), e2, show (j + 1) * 2 + f - 2 = j * 2 + f by omega]
    exact pcs_at Q j f (by simpa using hj) hf
/-- a row that the call owns -/
abbrev PR (w : World) (ao : Option Addr) (n c : Nat) (Q : List Pr) : Prop := w.ownsRow 0 28 2 (.slice ao n c) n (pcs Q)
theorem PR.len {ao : Option Addr} {n c : Nat} {Q : List Pr} (h : PR w ao n c Q) : Q.length = n := by have := h.1; rw [pcs_length] at this; omega
theorem PR.lt {ao : Option Addr} {n c : Nat} {Q : List Pr} (h : PR w ao n c Q) (k : Nat) (e : blk ao = some k) : k < w.heap.size := by
  rcases h.2 with ⟨h0, _⟩ | ⟨q, cap2, cur, hv, hq, hh, _⟩
  · simp only [Value.slice.injEq] at h0
    rw [h0.1] at e; cases e
  · simp only [Value.slice.injEq, true_and] at hv
    obtain ⟨rfl, rfl⟩ := hv
    have : q = k := Option.some.inj e
    subst this
    exact (Array.getElem?_eq_some_iff.1 hh).1
theorem PR.keep {ao : Option Addr} {n c : Nat} {Q : List Pr} (h : PR w ao n c Q) (hk : ∀ k, blk ao = some k → w'.heap[k]? = w.heap[k]?) : PR w' ao n c Q := by
  refine ⟨h.1, ?_⟩
  rcases h.2 with h0 | ⟨q, cap2, cur, hv, hq, hh, x⟩
  · exact Or.inl h0
  · have hv' := hv
    simp only [Value.slice.injEq, true_and] at hv'
    obtain ⟨rfl, rfl⟩ := hv'
    exact Or.inr ⟨q, _, cur, hv, hq, (hk q rfl).trans hh, x⟩
theorem PR.below {ao : Option Addr} {n c : Nat} {Q : List Pr} (h : PR w ao n c Q) (hb : Below w.heap.size w w') : PR w' ao n c Q := h.keep fun k e => hb.block k (h.lt k e)
theorem PR.at {ao : Option Addr} {n c : Nat} {Q : List Pr} (h : PR w ao n c Q) (j : Nat) (hj : j < n) : ∃ b, ao = some ⟨b, 0, none⟩ ∧ PAt w ⟨b, j * 2, none⟩ (Q.getD j p0) := by
  have hl := h.len
  rcases h.2 with ⟨h0, h00⟩ | ⟨q, cap2, cur, hv, hq, hh, x⟩
  · omega
  · have hv' := hv
    simp only [Value.slice.injEq, true_and] at hv'
    obtain ⟨rfl, rfl⟩ := hv'
    have hc : ∀ f, f < 2 → w.cell? ⟨q, j * 2 + f, none⟩ = (PC (Q.getD j p0)).toList[f]? := fun f hf => by
      rw [h.cellAt (j * 2 + f) (by omega), pcs_at Q j f (by omega) hf]
    exact ⟨q, rfl, ⟨hc 0 (by omega), by rw [Addr.add_lit]; exact hc 1 (by omega)⟩⟩
theorem PR.out {v : Value} {n : Nat} {Q : List Pr} (h : w.ownsRow 0 28 2 v n (pcs Q)) : ∃ ao c, v = .slice ao n c ∧ PR w ao n c Q := by
  rcases h.2 with ⟨h0, h00⟩ | ⟨q, cap2, cur, hv, r⟩
  · subst h0 h00
    exact ⟨none, 0, rfl, h⟩
  · subst hv
    exact ⟨_, _, rfl, h⟩
theorem PR.nil (w : World) : PR w none 0 0 [] := World.ownsRow_nil _ _ _ _
theorem infoP : (Try.prog.info? 28).map (fun i => (i.zero, i.size, i.bytes)) = some (some (.agg #[.int .i64 0, .int .i64 0]), 2, 16) := by kernel_rfl
/-- append of some elements that were laid just before -/
theorem PR.runs {ao : Option Addr} {n c : Nat} {Q L : List Pr} {cs : Array Value} {m : Nat} (h : PR w ao n c Q) (hm : L.length = m) (hcs : cs.toList = pcs L) (hb : n + m ≤ 8796093022108) (ty : TypeId) :
    ∃ bo c2 w2, (Builtin.append_ #[22, 22] ty #[.slice ao n c, .slice (some ⟨w.heap.size, 0, none⟩) m m]).run Try.prog (w.alloc (.cells cs 28)) = .ok (.slice bo (n + m) c2) w2 ∧ PR w2 bo (n + m) c2 (Q ++ L) ∧ Ap w w2 ao bo := by
  obtain ⟨i0, hi, hz0, hz1, hz2⟩ := info_parts infoP
  have e : (Value.agg #[.int .i64 0, .int .i64 0]).cells.size = 2 := by simp [Value.cells]
  have hk : PR (w.alloc (.cells cs 28)) ao n c Q := h.keep fun k e => Below.heap_alloc w _ k (h.lt k e)
  obtain ⟨v', w2, hrun, hown, hgrow, hnil, hat⟩ := run_append_own_at (P := Try.prog) (w.alloc (.cells cs 28)) 0 22 ty 28 i0 (.agg #[.int .i64 0, .int .i64 0]) 2 16 Try.underlying22 hi hz0 hz1 hz2 e (by decide) (.slice ao n c) n (pcs Q) hk ⟨w.heap.size, 0, none⟩ m m (pcs L) (by rw [pcs_length, hm]) (fun j u hj => by
    rw [Addr.add_lit, Nat.zero_add, World.cell?_alloc_new]
    rw [← hcs] at hj
    simpa using hj) (pcs_one L) (by unfold maxLen; omega) (by omega) (Nat.zero_le _)
  rw [← pcs_append] at hown
  obtain ⟨bo, c2, rfl, hP⟩ := PR.out hown
  rw [ownBlock_blk] at hgrow
  rw [ownBlock_blk, ownBlock_blk] at hat
  refine ⟨bo, c2, w2, hrun, hP, Ap.newA ⟨hgrow, ?_⟩⟩
  rcases hat with e | e
  · exact Or.inl e
  · exact Or.inr ⟨_, e, Nat.le_refl _⟩
theorem step_appP {W : World} {ops : Array Oper} {o : Oper} {a : Act} {K : Act → World → Prop} {Q : Exit → Act → World → Prop} {E : Prop} {v1 v2 v' : Value} {w2 : World} (hgd : o.guard = none) (s x : Operand) (ho : o.op = .call { callee := .builtin .append, args := #[s, x], argTypes := #[22, 22] })
    (hs : a.eval s = v1) (hx : a.eval x = v2) (hrun : (Builtin.append_ #[22, 22] o.type #[v1, v2]).run Try.prog W = .ok v' w2) (hK : K (a.put o.dst v') w2) :
    if Region.wanted o (yielded ops a.tmps) = true then Oper.wp Try.prog o a W K Q else E := by
  have hw : Region.wanted o (yielded ops a.tmps) = true := by simp [Region.wanted, hgd]
  rw [if_pos hw]
  unfold Oper.wp
  simp [execOp, ho, resolve, invoke, builtin, hs, hx, hrun, Result.andThen]
  exact hK
/-- append outside of a drawn region -/
theorem PR.app {ao : Option Addr} {n c : Nat} {Q L : List Pr} {cs : Array Value} {m : Nat} (h : PR w ao n c Q) (hm : L.length = m) (hcs : cs.toList = pcs L) (hb : n + m ≤ 8796093022108)
    {ops : Array Oper} {rest : List Oper} {o : Oper} {a : Act} {Qq : Exit → Act → World → Prop} (hgd : o.guard = none) (sl y : Operand) (ho : o.op = .call { callee := .builtin .append, args := #[sl, y], argTypes := #[22, 22] })
    (hs : a.eval sl = .slice ao n c) (hy : a.eval y = .slice (some ⟨w.heap.size, 0, none⟩) m m)
    (hK : ∀ (bo : Option Addr) (c2 : Nat) (w2 : World), PR w2 bo (n + m) c2 (Q ++ L) → Ap w w2 ao bo → wpList Try.prog ops Qq rest (a.put o.dst (.slice bo (n + m) c2)) w2) :
    wpList Try.prog ops Qq (o :: rest) a (w.alloc (.cells cs 28)) := by
  obtain ⟨i0, hi, hz0, hz1, hz2⟩ := info_parts infoP
  have e : (Value.agg #[.int .i64 0, .int .i64 0]).cells.size = 2 := by simp [Value.cells]
  have hk : PR (w.alloc (.cells cs 28)) ao n c Q := h.keep fun k e => Below.heap_alloc w _ k (h.lt k e)
  refine wpList_append_own_at _ hgd sl y 22 ho 0 28 i0 (.agg #[.int .i64 0, .int .i64 0]) 2 16 Try.underlying22 hi hz0 hz1 hz2 e (by decide) _ n (pcs Q) hs hk ⟨w.heap.size, 0, none⟩ m m (pcs L) hy (by rw [pcs_length, hm]) (fun j u hj => by
    rw [Addr.add_lit, Nat.zero_add, World.cell?_alloc_new]
    rw [← hcs] at hj
    simpa using hj) (pcs_one L) (by unfold maxLen; omega) (by omega) (Nat.zero_le _) ?_
  intro v' w2 hown hgrow _ hat
  rw [← pcs_append] at hown
  obtain ⟨bo, c2, rfl, hP⟩ := PR.out hown
  rw [ownBlock_blk] at hgrow
  rw [ownBlock_blk, ownBlock_blk] at hat
  refine hK bo c2 w2 hP (Ap.newA ⟨hgrow, ?_⟩)
  rcases hat with e | e
  · exact Or.inl e
  · exact Or.inr ⟨_, e, Nat.le_refl _⟩
/-- a row that is read -/
structure PSrc (w : World) (ao : Option Addr) (m c : Nat) (X : List Pr) : Prop where
  len : X.length = m
  nil : ao = none → m = 0 ∧ c = 0
  cell : ∀ ad, ao = some ad → ∀ t, t < m → PAt w (ad.add (t * 2)) (X.getD t p0)
theorem PSrc.below {ao : Option Addr} {m c : Nat} {X : List Pr} (h : PSrc w ao m c X) (hb : Below w.heap.size w w') : PSrc w' ao m c X :=
  ⟨h.len, h.nil, fun ad ha t ht => (h.cell ad ha t ht).on hb⟩
theorem PSrc.empty (w : World) : PSrc w none 0 0 [] := ⟨rfl, fun _ => ⟨rfl, rfl⟩, (fun ad h => by cases h)⟩
theorem PR.src {ao : Option Addr} {n c : Nat} {X : List Pr} (h : PR w ao n c X) : PSrc w ao n c X := by
  refine ⟨h.len, fun e => ?_, fun ad ha t ht => ?_⟩
  · subst e
    rcases h.2 with ⟨h0, h00⟩ | ⟨q, cap2, cur, hv, _⟩
    · simp only [Value.slice.injEq, true_and] at h0
      exact h0
    · cases hv
  · obtain ⟨b, hb, A⟩ := h.at t ht
    rw [ha] at hb
    obtain rfl := Option.some.inj hb
    rw [Addr.add_lit, Nat.zero_add]
    exact A
theorem PSrc.at {ao : Option Addr} {m c : Nat} {X : List Pr} (h : PSrc w ao m c X) (k : Nat) (hk : k < m) : ∃ ad, ao = some ad ∧ PAt w (ad.add (k * 2)) (X.getD k p0) := by
  cases ao with
  | none => have := (h.nil rfl).1; omega
  | some ad => exact ⟨ad, rfl, h.cell ad rfl k hk⟩

/-! ### rows of Qr -/
def qcs (Q : List Qr) : List Value := (Q.map fun e => (QC e).toList).flatten
theorem qcs_length (Q : List Qr) : (qcs Q).length = Q.length * 2 := by
  induction Q with
  | nil => rfl
  | cons e Q ih =>
    have e1 : qcs (e :: Q) = (QC e).toList ++ qcs Q := rfl
    have e2 : (QC e).toList.length = 2 := rfl
    rw [e1, List.length_append, ih, e2, List.length_cons]
    omega
theorem qcs_append (Q R : List Qr) : qcs (Q ++ R) = qcs Q ++ qcs R := by simp [qcs]
theorem qcs_one (Q : List Qr) : ∀ u ∈ qcs Q, u.oneCell' = true := by
  intro u hu
  simp only [qcs, List.mem_flatten, List.mem_map] at hu
  obtain ⟨l, ⟨e, _, rfl⟩, hu⟩ := hu
  exact QC_one e u hu
theorem qcs_at : ∀ (Q : List Qr) (j f : Nat), j < Q.length → f < 2 → (qcs Q)[j * 2 + f]? = (QC (Q.getD j q0)).toList[f]?
  | [], j, f, hj, _ => absurd hj (Nat.not_lt_zero j)
  | e :: Q, 0, f, _, hf => by
    show ((QC e).toList ++ qcs Q)[0 * 2 + f]? = _
    rw [List.getElem?_append_left (by show _ < 2; omega)]
    simp
  | e :: Q, j + 1, f, hj, hf => by
    show ((QC e).toList ++ qcs Q)[(j + 1) * 2 + f]? = _
    have e2 : (QC e).toList.length = 2 := rfl
    rw [List.getElem?_append_right (by rw [e2]; omega), e2, show (j + 1) * 2 + f - 2 = j * 2 + f by omega]
    exact qcs_at Q j f (by simpa using hj) hf
/-- a row that the call owns -/
abbrev QR (w : World) (ao : Option Addr) (n c : Nat) (Q : List Qr) : Prop := w.ownsRow 0 50 2 (.slice ao n c) n (qcs Q)
theorem QR.len {ao : Option Addr} {n c : Nat} {Q : List Qr} (h : QR w ao n c Q) : Q.length = n := by have := h.1; rw [qcs_length] at this; omega
theorem QR.lt {ao : Option Addr} {n c : Nat} {Q : List Qr} (h : QR w ao n c Q) (k : Nat) (e : blk ao = some k) : k < w.heap.size := by
  rcases h.2 with ⟨h0, _⟩ | ⟨q, cap2, cur, hv, hq, hh, _⟩
  · simp only [Value.slice.injEq] at h0
    rw [h0.1] at e; cases e
  · simp only [Value.slice.injEq, true_and] at hv
    obtain ⟨rfl, rfl⟩ := hv
    have : q = k := Option.some.inj e
    subst this
    exact (Array.getElem?_eq_some_iff.1 hh).1
theorem QR.keep {ao : Option Addr} {n c : Nat} {Q : List Qr} (h : QR w ao n c Q) (hk : ∀ k, blk ao = some k → w'.heap[k]? = w.heap[k]?) : QR w' ao n c Q := by
  refine ⟨h.1, ?_⟩
  rcases h.2 with h0 | ⟨q, cap2, cur, hv, hq, hh, x⟩
  · exact Or.inl h0
  · have hv' := hv
    simp only [Value.slice.injEq, true_and] at hv'
    obtain ⟨rfl, rfl⟩ := hv'
    exact Or.inr ⟨q, _, cur, hv, hq, (hk q rfl).trans hh, x⟩
theorem QR.below {ao : Option Addr} {n c : Nat} {Q : List Qr} (h : QR w ao n c Q) (hb : Below w.heap.size w w') : QR w' ao n c Q := h.keep fun k e => hb.block k (h.lt k e)
theorem QR.at {ao : Option Addr} {n c : Nat} {Q : List Qr} (h : QR w ao n c Q) (j : Nat) (hj : j < n) : ∃ b, ao = some ⟨b, 0, none⟩ ∧ QAt w ⟨b, j * 2, none⟩ (Q.getD j q0) := by
  have hl := h.len
  rcases h.2 with ⟨h0, h00⟩ | ⟨q, cap2, cur, hv, hq, hh, x⟩
  · omega
  · have hv' := hv
    simp only [Value.slice.injEq, true_and] at hv'
    obtain ⟨rfl, rfl⟩ := hv'
    have hc : ∀ f, f < 2 → w.cell? ⟨q, j * 2 + f, none⟩ = (QC (Q.getD j q0)).toList[f]? := fun f hf => by
      rw [h.cellAt (j * 2 + f) (by omega), qcs_at Q j f (by omega) hf]
    exact ⟨q, rfl, ⟨hc 0 (by omega), by rw [Addr.add_lit]; exact hc 1 (by omega)⟩⟩
theorem QR.out {v : Value} {n : Nat} {Q : List Qr} (h : w.ownsRow 0 50 2 v n (qcs Q)) : ∃ ao c, v = .slice ao n c ∧ QR w ao n c Q := by
  rcases h.2 with ⟨h0, h00⟩ | ⟨q, cap2, cur, hv, r⟩
  · subst h0 h00
    exact ⟨none, 0, rfl, h⟩
  · subst hv
    exact ⟨_, _, rfl, h⟩
theorem QR.nil (w : World) : QR w none 0 0 [] := World.ownsRow_nil _ _ _ _
theorem infoQ : (Try.prog.info? 50).map (fun i => (i.zero, i.size, i.bytes)) = some (some (.agg #[.int .i64 0, .int .i64 0]), 2, 16) := by kernel_rfl
/-- append of some elements that were laid just before -/
theorem QR.runs {ao : Option Addr} {n c : Nat} {Q L : List Qr} {cs : Array Value} {m : Nat} (h : QR w ao n c Q) (hm : L.length = m) (hcs : cs.toList = qcs L) (hb : n + m ≤ 8796093022108) (ty : TypeId) :
    ∃ bo c2 w2, (Builtin.append_ #[24, 24] ty #[.slice ao n c, .slice (some ⟨w.heap.size, 0, none⟩) m m]).run Try.prog (w.alloc (.cells cs 50)) = .ok (.slice bo (n + m) c2) w2 ∧ QR w2 bo (n + m) c2 (Q ++ L) ∧ Ap w w2 ao bo := by
  obtain ⟨i0, hi, hz0, hz1, hz2⟩ := info_parts infoQ
  have e : (Value.agg #[.int .i64 0, .int .i64 0]).cells.size = 2 := by simp [Value.cells]
  have hk : QR (w.alloc (.cells cs 50)) ao n c Q := h.keep fun k e => Below.heap_alloc w _ k (h.lt k e)
  obtain ⟨v', w2, hrun, hown, hgrow, hnil, hat⟩ := run_append_own_at (P := Try.prog) (w.alloc (.cells cs 50)) 0 24 ty 50 i0 (.agg #[.int .i64 0, .int .i64 0]) 2 16 Try.underlying24 hi hz0 hz1 hz2 e (by decide) (.slice ao n c) n (qcs Q) hk ⟨w.heap.size, 0, none⟩ m m (qcs L) (by rw [qcs_length, hm]) (fun j u hj => by
    rw [Addr.add_lit, Nat.zero_add, World.cell?_alloc_new]
    rw [← hcs] at hj
    simpa using hj) (qcs_one L) (by unfold maxLen; omega) (by omega) (Nat.zero_le _)
  rw [← qcs_append] at hown
  obtain ⟨bo, c2, rfl, hP⟩ := QR.out hown
  rw [ownBlock_blk] at hgrow
  rw [ownBlock_blk, ownBlock_blk] at hat
  refine ⟨bo, c2, w2, hrun, hP, Ap.newA ⟨hgrow, ?_⟩⟩
  rcases hat with e | e
  · exact Or.inl e
  · exact Or.inr ⟨_, e, Nat.le_refl _⟩
theorem step_appQ {W : World} {ops : Array Oper} {o : Oper} {a : Act} {K : Act → World → Prop} {Q : Exit → Act → World → Prop} {E : Prop} {v1 v2 v' : Value} {w2 : World} (hgd : o.guard = none) (s x : Operand) (ho : o.op = .call { callee := .builtin .append, args := #[s, x], argTypes := #[24, 24] })
    (hs : a.eval s = v1) (hx : a.eval x = v2) (hrun : (Builtin.append_ #[24, 24] o.type #[v1, v2]).run Try.prog W = .ok v' w2) (hK : K (a.put o.dst v') w2) :
    if Region.wanted o (yielded ops a.tmps) = true then Oper.wp Try.prog o a W K Q else E := by
  have hw : Region.wanted o (yielded ops a.tmps) = true := by simp [Region.wanted, hgd]
  rw [if_pos hw]
  unfold Oper.wp
  simp [execOp, ho, resolve, invoke, builtin, hs, hx, hrun, Result.andThen]
  exact hK
/-- append outside of a drawn region -/
theorem QR.app {ao : Option Addr} {n c : Nat} {Q L : List Qr} {cs : Array Value} {m : Nat} (h : QR w ao n c Q) (hm : L.length = m) (hcs : cs.toList = qcs L) (hb : n + m ≤ 8796093022108)
    {ops : Array Oper} {rest : List Oper} {o : Oper} {a : Act} {Qq : Exit → Act → World → Prop} (hgd : o.guard = none) (sl y : Operand) (ho : o.op = .call { callee := .builtin .append, args := #[sl, y], argTypes := #[24, 24] })
    (hs : a.eval sl = .slice ao n c) (hy : a.eval y = .slice (some ⟨w.heap.size, 0, none⟩) m m)
    (hK : ∀ (bo : Option Addr) (c2 : Nat) (w2 : World), QR w2 bo (n + m) c2 (Q ++ L) → Ap w w2 ao bo → wpList Try.prog ops Qq rest (a.put o.dst (.slice bo (n + m) c2)) w2) :
    wpList Try.prog ops Qq (o :: rest) a (w.alloc (.cells cs 50)) := by
  obtain ⟨i0, hi, hz0, hz1, hz2⟩ := info_parts infoQ
  have e : (Value.agg #[.int .i64 0, .int .i64 0]).cells.size = 2 := by simp [Value.cells]
  have hk : QR (w.alloc (.cells cs 50)) ao n c Q := h.keep fun k e => Below.heap_alloc w _ k (h.lt k e)
  refine wpList_append_own_at _ hgd sl y 24 ho 0 50 i0 (.agg #[.int .i64 0, .int .i64 0]) 2 16 Try.underlying24 hi hz0 hz1 hz2 e (by decide) _ n (qcs Q) hs hk ⟨w.heap.size, 0, none⟩ m m (qcs L) hy (by rw [qcs_length, hm]) (fun j u hj => by
    rw [Addr.add_lit, Nat.zero_add, World.cell?_alloc_new]
    rw [← hcs] at hj
    simpa using hj) (qcs_one L) (by unfold maxLen; omega) (by omega) (Nat.zero_le _) ?_
  intro v' w2 hown hgrow _ hat
  rw [← qcs_append] at hown
  obtain ⟨bo, c2, rfl, hP⟩ := QR.out hown
  rw [ownBlock_blk] at hgrow
  rw [ownBlock_blk, ownBlock_blk] at hat
  refine hK bo c2 w2 hP (Ap.newA ⟨hgrow, ?_⟩)
  rcases hat with e | e
  · exact Or.inl e
  · exact Or.inr ⟨_, e, Nat.le_refl _⟩
/-- a row that is read -/
structure QSrc (w : World) (ao : Option Addr) (m c : Nat) (X : List Qr) : Prop where
  len : X.length = m
  nil : ao = none → m = 0 ∧ c = 0
  cell : ∀ ad, ao = some ad → ∀ t, t < m → QAt w (ad.add (t * 2)) (X.getD t q0)
theorem QSrc.below {ao : Option Addr} {m c : Nat} {X : List Qr} (h : QSrc w ao m c X) (hb : Below w.heap.size w w') : QSrc w' ao m c X :=
  ⟨h.len, h.nil, fun ad ha t ht => (h.cell ad ha t ht).on hb⟩
theorem QSrc.empty (w : World) : QSrc w none 0 0 [] := ⟨rfl, fun _ => ⟨rfl, rfl⟩, (fun ad h => by cases h)⟩
theorem QR.src {ao : Option Addr} {n c : Nat} {X : List Qr} (h : QR w ao n c X) : QSrc w ao n c X := by
  refine ⟨h.len, fun e => ?_, fun ad ha t ht => ?_⟩
  · subst e
    rcases h.2 with ⟨h0, h00⟩ | ⟨q, cap2, cur, hv, _⟩
    · simp only [Value.slice.injEq, true_and] at h0
      exact h0
    · cases hv
  · obtain ⟨b, hb, A⟩ := h.at t ht
    rw [ha] at hb
    obtain rfl := Option.some.inj hb
    rw [Addr.add_lit, Nat.zero_add]
    exact A
theorem QSrc.at {ao : Option Addr} {m c : Nat} {X : List Qr} (h : QSrc w ao m c X) (k : Nat) (hk : k < m) : ∃ ad, ao = some ad ∧ QAt w (ad.add (k * 2)) (X.getD k q0) := by
  cases ao with
  | none => have := (h.nil rfl).1; omega
  | some ad => exact ⟨ad, rfl, h.cell ad rfl k hk⟩
end Go.Proofs.Ytinicdnpkihbkaa
