/- Rows of structs (genrows.py). -/
import Derived.Test.YtflinfmhmokfhaaUGr
import Derived.OrdersHeld
import Derived.Maps.AppendAt
import Derived.Laws.AppendOwnNone
import Derived.Laws.OwnMore
namespace Go.Proofs.Ytflinfmhmokfhaa
open Go.RowKit
variable {w w' w2 : World}


/-! ### rows of Ask -/
def kcs (Q : List Ask) : List Value := (Q.map fun e => (KC e).toList).flatten
theorem kcs_length (Q : List Ask) : (kcs Q).length = Q.length * 2 := by
  induction Q with
  | nil => rfl
  | cons e Q ih =>
    have e1 : kcs (e :: Q) = (KC e).toList ++ kcs Q := rfl
    have e2 : (KC e).toList.length = 2 := rfl
    rw [e1, List.length_append, ih, e2, List.length_cons]
    omega
theorem kcs_append (Q R : List Ask) : kcs (Q ++ R) = kcs Q ++ kcs R := by simp [kcs]
theorem kcs_one (Q : List Ask) : ∀ u ∈ kcs Q, u.oneCell' = true := by
  intro u hu
  simp only [kcs, List.mem_flatten, List.mem_map] at hu
  obtain ⟨l, ⟨e, _, rfl⟩, hu⟩ := hu
  exact KC_one e u hu
theorem kcs_at : ∀ (Q : List Ask) (j f : Nat), j < Q.length → f < 2 → (kcs Q)[j * 2 + f]? = (KC (Q.getD j k0)).toList[f]?
  | [], j, f, hj, _ => absurd hj (Nat.not_lt_zero j)
  | e :: Q, 0, f, _, hf => by
    show ((KC e).toList ++ kcs Q)[0 * 2 + f]? = _
    rw [List.getElem?_append_left (by show _ < 2; omega)]
    simp
  | e :: Q, j + 1, f, hj, hf => by
    show ((KC e).toList ++ kcs Q)[(j + 1) * 2 + f]? = _
    have e2 : (KC e).toList.length = 2 := rfl
    rw [List.getElem?_append_right (by rw [e2]; omega), e2, show (j + 1) * 2 + f - 2 = j * 2 + f by omega]
    exact kcs_at Q j f (by simpa using hj) hf
/-- a row that the call owns -/
abbrev KR (w : World) (ao : Option Addr) (n c : Nat) (Q : List Ask) : Prop := w.ownsRow 0 32 2 (.slice ao n c) n (kcs Q)
theorem KR.len {ao : Option Addr} {n c : Nat} {Q : List Ask} (h : KR w ao n c Q) : Q.length = n := by have := h.1; rw [kcs_length] at this; omega
theorem KR.lt {ao : Option Addr} {n c : Nat} {Q : List Ask} (h : KR w ao n c Q) (k : Nat) (e : blk ao = some k) : k < w.heap.size := by
  rcases h.2 with ⟨h0, _⟩ | ⟨q, cap2, cur, hv, hq, hh, _⟩
  · simp only [Value.slice.injEq] at h0
    rw [h0.1] at e; cases e
  · simp only [Value.slice.injEq, true_and] at hv
    obtain ⟨rfl, rfl⟩ := hv
    have : q = k := Option.some.inj e
    subst this
    exact (Array.getElem?_eq_some_iff.1 hh).1
theorem KR.keep {ao : Option Addr} {n c : Nat} {Q : List Ask} (h : KR w ao n c Q) (hk : ∀ k, blk ao = some k → w'.heap[k]? = w.heap[k]?) : KR w' ao n c Q := by
  refine ⟨h.1, ?_⟩
  rcases h.2 with h0 | ⟨q, cap2, cur, hv, hq, hh, x⟩
  · exact Or.inl h0
  · have hv' := hv
    simp only [Value.slice.injEq, true_and] at hv'
    obtain ⟨rfl, rfl⟩ := hv'
    exact Or.inr ⟨q, _, cur, hv, hq, (hk q rfl).trans hh, x⟩
theorem KR.below {ao : Option Addr} {n c : Nat} {Q : List Ask} (h : KR w ao n c Q) (hb : Below w.heap.size w w') : KR w' ao n c Q := h.keep fun k e => hb.block k (h.lt k e)
theorem KR.at {ao : Option Addr} {n c : Nat} {Q : List Ask} (h : KR w ao n c Q) (j : Nat) (hj : j < n) : ∃ b, ao = some ⟨b, 0, none⟩ ∧ KAt w ⟨b, j * 2, none⟩ (Q.getD j k0) := by
  have hl := h.len
  rcases h.2 with ⟨h0, h00⟩ | ⟨q, cap2, cur, hv, hq, hh, x⟩
  · omega
  · have hv' := hv
    simp only [Value.slice.injEq, true_and] at hv'
    obtain ⟨rfl, rfl⟩ := hv'
    have hc : ∀ f, f < 2 → w.cell? ⟨q, j * 2 + f, none⟩ = (KC (Q.getD j k0)).toList[f]? := fun f hf => by
      rw [h.cellAt (j * 2 + f) (by omega), kcs_at Q j f (by omega) hf]
    exact ⟨q, rfl, ⟨hc 0 (by omega), by rw [Addr.add_lit]; exact hc 1 (by omega)⟩⟩
theorem KR.out {v : Value} {n : Nat} {Q : List Ask} (h : w.ownsRow 0 32 2 v n (kcs Q)) : ∃ ao c, v = .slice ao n c ∧ KR w ao n c Q := by
  rcases h.2 with ⟨h0, h00⟩ | ⟨q, cap2, cur, hv, r⟩
  · subst h0 h00
    exact ⟨none, 0, rfl, h⟩
  · subst hv
    exact ⟨_, _, rfl, h⟩
theorem KR.nil (w : World) : KR w none 0 0 [] := World.ownsRow_nil _ _ _ _
theorem infoK : (Try.prog.info? 32).map (fun i => (i.zero, i.size, i.bytes)) = some (some (.agg #[.int .i64 0, .int .i64 0]), 2, 16) := by kernel_rfl
/-- append of some elements that were laid just before -/
theorem KR.runs {ao : Option Addr} {n c : Nat} {Q L : List Ask} {cs : Array Value} {m : Nat} (h : KR w ao n c Q) (hm : L.length = m) (hcs : cs.toList = kcs L) (hb : n + m ≤ 8796093022108) (ty : TypeId) :
    ∃ bo c2 w2, (Builtin.append_ #[23, 23] ty #[.slice ao n c, .slice (some ⟨w.heap.size, 0, none⟩) m m]).run Try.prog (w.alloc (.cells cs 32)) = .ok (.slice bo (n + m) c2) w2 ∧ KR w2 bo (n + m) c2 (Q ++ L) ∧ Ap w w2 ao bo := by
  obtain ⟨i0, hi, hz0, hz1, hz2⟩ := info_parts infoK
  have e : (Value.agg #[.int .i64 0, .int .i64 0]).cells.size = 2 := by simp [Value.cells]
  have hk : KR (w.alloc (.cells cs 32)) ao n c Q := h.keep fun k e => Below.heap_alloc w _ k (h.lt k e)
  obtain ⟨v', w2, hrun, hown, hgrow, hnil, hat⟩ := run_append_own_at (P := Try.prog) (w.alloc (.cells cs 32)) 0 23 ty 32 i0 (.agg #[.int .i64 0, .int .i64 0]) 2 16 Try.underlying23 hi hz0 hz1 hz2 e (by decide) (.slice ao n c) n (kcs Q) hk ⟨w.heap.size, 0, none⟩ m m (kcs L) (by rw [kcs_length, hm]) (fun j u hj => by
    rw [Addr.add_lit, Nat.zero_add, World.cell?_alloc_new]
    rw [← hcs] at hj
    simpa using hj) (kcs_one L) (by unfold maxLen; omega) (by omega) (Nat.zero_le _)
  rw [← kcs_append] at hown
  obtain ⟨bo, c2, rfl, hP⟩ := KR.out hown
  rw [ownBlock_blk] at hgrow
  rw [ownBlock_blk, ownBlock_blk] at hat
  refine ⟨bo, c2, w2, hrun, hP, Ap.newA ⟨hgrow, ?_⟩⟩
  rcases hat with e | e
  · exact Or.inl e
  · exact Or.inr ⟨_, e, Nat.le_refl _⟩
theorem step_appK {W : World} {ops : Array Oper} {o : Oper} {a : Act} {K : Act → World → Prop} {Q : Exit → Act → World → Prop} {E : Prop} {v1 v2 v' : Value} {w2 : World} (hgd : o.guard = none) (s x : Operand) (ho : o.op = .call { callee := .builtin .append, args := #[s, x], argTypes := #[23, 23] })
    (hs : a.eval s = v1) (hx : a.eval x = v2) (hrun : (Builtin.append_ #[23, 23] o.type #[v1, v2]).run Try.prog W = .ok v' w2) (hK : K (a.put o.dst v') w2) :
    if Region.wanted o (yielded ops a.tmps) = true then Oper.wp Try.prog o a W K Q else E := by
  have hw : Region.wanted o (yielded ops a.tmps) = true := by simp [Region.wanted, hgd]
  rw [if_pos hw]
  unfold Oper.wp
  simp [execOp, ho, resolve, invoke, builtin, hs, hx, hrun, Result.andThen]
  exact hK
/-- append outside of a drawn region -/
theorem KR.app {ao : Option Addr} {n c : Nat} {Q L : List Ask} {cs : Array Value} {m : Nat} (h : KR w ao n c Q) (hm : L.length = m) (hcs : cs.toList = kcs L) (hb : n + m ≤ 8796093022108)
    {ops : Array Oper} {rest : List Oper} {o : Oper} {a : Act} {Qq : Exit → Act → World → Prop} (hgd : o.guard = none) (sl y : Operand) (ho : o.op = .call { callee := .builtin .append, args := #[sl, y], argTypes := #[23, 23] })
    (hs : a.eval sl = .slice ao n c) (hy : a.eval y = .slice (some ⟨w.heap.size, 0, none⟩) m m)
    (hK : ∀ (bo : Option Addr) (c2 : Nat) (w2 : World), KR w2 bo (n + m) c2 (Q ++ L) → Ap w w2 ao bo → wpList Try.prog ops Qq rest (a.put o.dst (.slice bo (n + m) c2)) w2) :
    wpList Try.prog ops Qq (o :: rest) a (w.alloc (.cells cs 32)) := by
  obtain ⟨i0, hi, hz0, hz1, hz2⟩ := info_parts infoK
  have e : (Value.agg #[.int .i64 0, .int .i64 0]).cells.size = 2 := by simp [Value.cells]
  have hk : KR (w.alloc (.cells cs 32)) ao n c Q := h.keep fun k e => Below.heap_alloc w _ k (h.lt k e)
  refine wpList_append_own_at _ hgd sl y 23 ho 0 32 i0 (.agg #[.int .i64 0, .int .i64 0]) 2 16 Try.underlying23 hi hz0 hz1 hz2 e (by decide) _ n (kcs Q) hs hk ⟨w.heap.size, 0, none⟩ m m (kcs L) hy (by rw [kcs_length, hm]) (fun j u hj => by
    rw [Addr.add_lit, Nat.zero_add, World.cell?_alloc_new]
    rw [← hcs] at hj
    simpa using hj) (kcs_one L) (by unfold maxLen; omega) (by omega) (Nat.zero_le _) ?_
  intro v' w2 hown hgrow _ hat
  rw [← kcs_append] at hown
  obtain ⟨bo, c2, rfl, hP⟩ := KR.out hown
  rw [ownBlock_blk] at hgrow
  rw [ownBlock_blk, ownBlock_blk] at hat
  refine hK bo c2 w2 hP (Ap.newA ⟨hgrow, ?_⟩)
  rcases hat with e | e
  · exact Or.inl e
  · exact Or.inr ⟨_, e, Nat.le_refl _⟩
/-- a row that is read -/
structure KSrc (w : World) (ao : Option Addr) (m c : Nat) (X : List Ask) : Prop where
  len : X.length = m
  nil : ao = none → m = 0 ∧ c = 0
  cell : ∀ ad, ao = some ad → ∀ t, t < m → KAt w (ad.add (t * 2)) (X.getD t k0)
theorem KSrc.below {ao : Option Addr} {m c : Nat} {X : List Ask} (h : KSrc w ao m c X) (hb : Below w.heap.size w w') : KSrc w' ao m c X :=
  ⟨h.len, h.nil, fun ad ha t ht => (h.cell ad ha t ht).on hb⟩
theorem KSrc.empty (w : World) : KSrc w none 0 0 [] := ⟨rfl, fun _ => ⟨rfl, rfl⟩, (fun ad h => by cases h)⟩
theorem KR.src {ao : Option Addr} {n c : Nat} {X : List Ask} (h : KR w ao n c X) : KSrc w ao n c X := by
  refine ⟨h.len, fun e => ?_, fun ad ha t ht => ?_⟩
  · subst e
    rcases h.2 with ⟨h0, h00⟩ | ⟨q, cap2, cur, hv, _⟩
    · simp only [Value.slice.injEq, true_and] at h0
      exact h0
    · cases hv
  · obtain ⟨b, hb, A⟩ := h.at t ht
    rw [ha] at hb
    obtain rfl := Option.some.inj hb
    rw [Addr.add_lit, Nat.zero_add]
    exact A
theorem KSrc.at {ao : Option Addr} {m c : Nat} {X : List Ask} (h : KSrc w ao m c X) (k : Nat) (hk : k < m) : ∃ ad, ao = some ad ∧ KAt w (ad.add (k * 2)) (X.getD k k0) := by
  cases ao with
  | none => have := (h.nil rfl).1; omega
  | some ad => exact ⟨ad, rfl, h.cell ad rfl k hk⟩
end Go.Proofs.Ytflinfmhmokfhaa
