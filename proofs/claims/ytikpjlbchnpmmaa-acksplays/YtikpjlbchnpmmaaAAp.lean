/- A row of tellings appended, in a region that draws its order. -/
import Derived.Test.YtikpjlbchnpmmaaAPy
import Derived.Laws.AppendOwnNone
import Derived.Maps.AppendAt
import Derived.OrdersHeld
namespace Go.Proofs.Ytikpjlbchnpmmaa
open Go.RowKit
variable {w w' W : World} {g : Nat}

theorem RSrc.cells {ad : Addr} {n cap : Nat} {L : List Rn} (hS : RSrc w (some ad) n cap L) (j : Nat) (u : Value) (hj : (rcs L)[j]? = some u) : w.cell? (ad.add j) = some u := by
  have hjl : j < L.length * 2 := by have := (List.getElem?_eq_some_iff.1 hj).1; rwa [rcs_length] at this
  have e4 := rcs_at L (j / 2) (j % 2) (by omega) (by omega)
  rw [show j / 2 * 2 + j % 2 = j by omega, hj] at e4
  have A := hS.cell ad rfl (j / 2) (by rw [← hS.len]; omega)
  have : j % 2 = 0 ∨ j % 2 = 1 := by omega
  rcases this with h | h
  · rw [h] at e4; rw [show j = j / 2 * 2 by omega, A.c0]; exact e4.symm
  · rw [h] at e4; have := A.c1; rw [add_add] at this; rw [show j = j / 2 * 2 + 1 by omega, this]; exact e4.symm
theorem own_lit (w : World) : OwnR w.heap.size w.heap.size w (w.alloc (.cells #[] 39)) (some ⟨w.heap.size, 0, none⟩) 0 [] :=
  ⟨⟨by simp [rcs], .inr ⟨w.heap.size, 0, _, rfl, Nat.le_refl _, heap_alloc_new w _, Nat.le_refl _, by unfold maxLen; omega, by simp, by simp [rcs]⟩⟩, below_new w _, by simp, Nat.le_refl _⟩
theorem OwnR.rebase {B0 B : Nat} {w1 : World} {ao : Option Addr} {cap : Nat} {acc : List Rn} (O : OwnR B0 B w1 w' ao cap acc) (hb : Below w.heap.size w w1) (h0 : w1.heap.size ≤ B0) : OwnR w.heap.size w.heap.size w w' ao cap acc := by
  have h1 := hb.size
  have h2 := O.hB0
  refine ⟨⟨O.own.1, ?_⟩, hb.trans (O.below.mono (by omega)), by have := O.hB; omega, Nat.le_refl _⟩
  rcases O.own.2 with h | ⟨q, c, cur, hv, hbg, r⟩
  · exact Or.inl h
  · exact Or.inr ⟨q, c, cur, hv, by omega, r⟩
theorem RSrc.onBlk {ao : Option Addr} {m c : Nat} {L : List Rn} (h : RSrc w ao m c L) (hk : ∀ ad, ao = some ad → w'.heap[ad.block]? = w.heap[ad.block]?) : RSrc w' ao m c L := by
  refine ⟨h.len, h.nil, fun ad ha t ht => ?_, h.cap, h.room, h.big⟩
  have A := h.cell ad ha t ht
  have hb := hk ad ha
  have e0 : w'.cell? (ad.add (t * 2)) = w.cell? (ad.add (t * 2)) := World.cell?_of_block (by rw [block_add]; exact hb)
  have e1 : w'.cell? ((ad.add (t * 2)).add 1) = w.cell? ((ad.add (t * 2)).add 1) := World.cell?_of_block (by rw [block_add, block_add]; exact hb)
  exact ⟨e0.trans A.c0, e1.trans A.c1⟩
/-- append, run -/
theorem OwnR.runs {B0 B : Nat} {ao : Option Addr} {cap : Nat} {acc : List Rn} (O : OwnR B0 B w W ao cap acc) (bo : Option Addr) (m c : Nat) (R : List Rn) (hR : RSrc W bo m c R) (hlen : acc.length + m ≤ 8796093022207) (ty : TypeId) (n : Nat) (hn : acc.length = n) :
    ∃ ap cap2 w2, (Builtin.append_ #[24, 24] ty #[.slice ao n cap, .slice bo m c]).run Try.prog W = .ok (.slice ap (n + m) cap2) w2 ∧ OwnR B0 B w w2 ap cap2 (acc ++ R) ∧
      (∀ k, k < W.heap.size → (Value.slice ao n cap).ownBlock ≠ some k → w2.heap[k]? = W.heap[k]?) ∧ W.heap.size ≤ w2.heap.size := by
  subst hn
  obtain ⟨i0, hi, hz0, hz1, hz2⟩ := info_parts infoR
  have hB := O.hB
  have hB0 := O.hB0
  cases bo with
  | none =>
    obtain ⟨rfl, rfl⟩ := hR.nil rfl
    obtain rfl : R = [] := List.eq_nil_of_length_eq_zero hR.len
    have hrun := run_append_owned_none (P := Try.prog) (w := W) B 24 ty 39 i0 2 Try.underlying24 hi _ acc.length (rcs acc) O.own
    exact ⟨ao, cap, W, hrun, by rw [List.append_nil]; exact O, fun _ _ _ => rfl, Nat.le_refl _⟩
  | some ad =>
    obtain ⟨v', w2, hrun, hown, hgrow, hnil, hat⟩ := run_append_own_at (P := Try.prog) W B 24 ty 39 i0 (.agg #[.int .i64 0, .int .i64 0]) 2 16 Try.underlying24 hi hz0 hz1 hz2 rfl (by decide) (.slice ao acc.length cap) acc.length (rcs acc) O.own ad m c (rcs R) (by rw [rcs_length, hR.len]) (fun j u hj => hR.cells j u hj) (rcs_onecell R) (by unfold maxLen; omega) (by omega) hB
    have hrow : ∀ k, (Value.slice ao acc.length cap).ownBlock = some k → B ≤ k := fun k hk => (O.own.lt k hk).1
    have hsz := hgrow.size
    have hbel : Below B0 w w2 := O.below.grown hgrow (by omega) (fun k hk => by have := hrow k hk; omega)
    have hm : m = R.length := hR.len.symm
    have hown2 : w2.ownsRow B 39 2 v' (acc ++ R).length (rcs (acc ++ R)) := by rw [List.length_append, rcs_append, ← hm]; exact hown
    have hfr : ∀ k, k < W.heap.size → (Value.slice ao acc.length cap).ownBlock ≠ some k → w2.heap[k]? = W.heap[k]? := fun k hk hne => hgrow.block k hk (fun e => hne e.symm)
    rcases hown.2 with ⟨h0, h00⟩ | ⟨q, cap2, cur, hv, r⟩
    · subst h0
      have e0 : acc.length + m = 0 := h00
      refine ⟨none, 0, w2, by rw [e0]; exact hrun, ⟨by rw [List.length_append, ← hm, e0] at hown2; rw [List.length_append, ← hm, e0]; exact hown2, hbel, by omega, hB0⟩, hfr, hsz⟩
    · subst hv
      exact ⟨some ⟨q, 0, none⟩, cap2, w2, hrun, ⟨by rw [List.length_append, ← hm] at hown2 ⊢; exact hown2, hbel, by omega, hB0⟩, hfr, hsz⟩
/-- append as an operation that comes up -/
theorem step_app {ops : Array Oper} {o : Oper} {a : Act} {K : Act → World → Prop} {Q : Exit → Act → World → Prop} {E : Prop} {v1 v2 v' : Value} {w2 : World} (hgd : o.guard = none) (s x : Operand) (ho : o.op = .call { callee := .builtin .append, args := #[s, x], argTypes := #[24, 24] })
    (hs : a.eval s = v1) (hx : a.eval x = v2) (hrun : (Builtin.append_ #[24, 24] o.type #[v1, v2]).run Try.prog W = .ok v' w2) (hK : K (a.put o.dst v') w2) :
    if Region.wanted o (yielded ops a.tmps) = true then Oper.wp Try.prog o a W K Q else E := by
  have hw : Region.wanted o (yielded ops a.tmps) = true := by simp [Region.wanted, hgd]
  rw [if_pos hw]
  unfold Oper.wp
  simp [execOp, ho, resolve, invoke, builtin, hs, hx, hrun, Result.andThen]
  exact hK
theorem qset_qset (qs : Nat → Qp) (k : Nat) (a b : Qp) : qset (qset qs k a) k b = qset qs k b := by
  funext t; unfold qset; split <;> rfl
/-- the book of one pair has grown: what is stored -/
theorem QI.book {w0 : World} {qs : Nat → Qp} {N k : Nat} (h : QI w0 w g qs N) (hk : k < 4) (bo : Option Addr) (bn bc : Nat) (L : List Rn) (S : RSrc w bo bn bc L) (hl : L.length ≤ N + 1) (hnew : ∀ ad, bo = some ad → ad.block < w.heap.size ∧ ad.block ≠ g ∧ ∀ j, j < 4 → ad.block ≠ (qs j).tb) {f : Nat} (hf : k * 4 = f) :
    QI w0 (w.setCell ⟨g, f + 3, none⟩ (.slice bo bn bc)) g (qset qs k { qs k with bo := bo, bn := bn, bc := bc, L := L }) (N + 1) := by
  subst hf
  have E := h.each k hk
  refine h.onPair hk _ (h.box.set k 3 hk (by omega) (.slice bo bn bc) _ rfl) (Fr.setCell _ _ _ _) (Nat.le_succ N) E.tab S hl E.t0 E.tg (fun ad ha => (hnew ad ha).2.1) (fun ad ha => (hnew ad ha).1) (fun j hj hn => h.tne k j hk hj (Ne.symm hn)) (fun ad ha => ⟨(hnew ad ha).2.2 k hk, fun j hj _ => (hnew ad ha).2.2 j hj⟩) (fun j hj _ ad ha => h.bne j k hj hk ad ha)
end Go.Proofs.Ytikpjlbchnpmmaa
