/- The law's apart: the lists are marked. -/
import Derived.Test.YtioioagomlpmeaaDBs
namespace Go.Proofs.Ytioioagomlpmeaa
open Go.RowKit
variable {w0 w w' w2 : World} {β : Nat × Nat → Option Nat} {ao bo lo wo cw : Option Addr} {n lc wc i j cc : Nat} {F W : List Sl} {X Y : Nat → List Int}

structure L1 (w0 w : World) (β : Nat × Nat → Option Nat) (lo : Option Addr) (n lc : Nat) (F : List Sl) (X : Nat → List Int) (wo : Option Addr) (i wc : Nat) (W : List Sl) : Prop where
  b : Bs w0 w β lo n lc F
  rows : ∀ q, q < n → IR w (fr F q).a (fr F q).n (fr F q).c (X q)
  so : SO 34 w wo i wc W
  ow : β (0, 1) = blk wo
  wr : ∀ q, q < i → IR w (fr W q).a (fr W q).n (fr W q).c (X q) ∧ β (2, q) = blk (fr W q).a
theorem ne12 {a b c d : Nat} (h : a ≠ c) : ((a, b) : Nat × Nat) ≠ (c, d) := fun e => h (congrArg Prod.fst e)
theorem ne22 {a b c d : Nat} (h : b ≠ d) : ((a, b) : Nat × Nat) ≠ (c, d) := fun e => h (congrArg Prod.snd e)
/-- a row beside them grows -/
theorem L1.beside (h : L1 w0 w β lo n lc F X wo i wc W) (a : Ap w w' ao bo) (x : Nat × Nat) (hx : β x = blk ao) (h1 : x.1 ≠ 1) (h2 : x.1 ≠ 2) (h0 : x ≠ (0, 0)) (h01 : x ≠ (0, 1)) (hl : ∀ k, blk bo = some k → k < w'.heap.size) : L1 w0 w' (upd β x (blk bo)) lo n lc F X wo i wc W := by
  have kp := h.b.reg.kept a hx
  refine ⟨h.b.grow a x h1 h0 hx hl, fun q hq => (h.rows q hq).keep fun k e => kp (1, q) (fun e => h1 (by rw [← e])) k (by rw [h.b.o1 q hq]; exact e), h.so.keep fun k e => kp (0, 1) (fun e => h01 e.symm) k (by rw [h.ow]; exact e), by rw [upd_ne (fun e => h01 e.symm)]; exact h.ow, fun q hq => ⟨(h.wr q hq).1.keep fun k e => kp (2, q) (fun e => h2 (by rw [← e])) k (by rw [(h.wr q hq).2]; exact e), by rw [upd_ne (fun e => h2 (by rw [← e]))]; exact (h.wr q hq).2⟩⟩
def Xu (X : Nat → List Int) (i : Nat) (l : List Int) : Nat → List Int := fun q => if q = i then l else X q
theorem Xu_at (X : Nat → List Int) (i : Nat) (l : List Int) : Xu X i l i = l := by unfold Xu; rw [if_pos rfl]
theorem Xu_ne {X : Nat → List Int} {i q : Nat} {l : List Int} (h : q ≠ i) : Xu X i l q = X q := by unfold Xu; rw [if_neg h]
/-- a number is stored into the list in hand -/
theorem L1.set {l : List Int} (h : L1 w0 w β lo n lc F X wo i wc W) (hi : i < n) (r : IR w' (fr F i).a (fr F i).n (fr F i).c l) (a : Ap w w' (fr F i).a (fr F i).a) : L1 w0 w' β lo n lc F (Xu X i l) wo i wc W := by
  have kp := h.b.reg.kept a (h.b.o1 i hi)
  refine ⟨h.b.row i hi a, fun q hq => ?_, h.so.keep fun k e => kp (0, 1) (ne12 (by decide)) k (by rw [h.ow]; exact e), h.ow, fun q hq => ?_⟩
  · by_cases e : q = i
    · rw [e, Xu_at]; exact r
    · rw [Xu_ne e]
      exact (h.rows q hq).keep fun k e2 => kp (1, q) (ne22 e) k (by rw [h.b.o1 q hq]; exact e2)
  · rw [Xu_ne (by omega)]
    exact ⟨(h.wr q hq).1.keep fun k e => kp (2, q) (ne12 (by decide)) k (by rw [(h.wr q hq).2]; exact e), (h.wr q hq).2⟩
/-- the row in hand is put behind the others -/
theorem L1.push {wo' : Option Addr} {wc' : Nat} (h : L1 w0 w β lo n lc F X wo i wc W) (r : IR w cw j cc (X i)) (hc : β (0, 3) = blk cw) (so : SO 34 w' wo' (i + 1) wc' (W ++ [⟨cw, j, cc⟩])) (a : Ap w w' wo wo') :
    ∃ β', L1 w0 w' β' lo n lc F X wo' (i + 1) wc' (W ++ [⟨cw, j, cc⟩]) ∧ β' (0, 3) = none := by
  have kp := h.b.reg.kept a h.ow
  have hW := h.so.len
  have g1 := h.b.grow a (0, 1) (by decide) (by decide) h.ow (fun k e => so.lt k e)
  have g2 := g1.move (0, 3) (2, i) (by decide) (by decide) (by simp) (ne12 (by decide))
  rw [upd_ne (show ((0, 3) : Nat × Nat) ≠ (0, 1) by decide), hc] at g2
  refine ⟨_, ⟨g2, fun q hq => (h.rows q hq).keep fun k e => kp (1, q) (ne12 (by decide)) k (by rw [h.b.o1 q hq]; exact e), so, ?_, fun q hq => ?_⟩, ?_⟩
  · rw [upd_ne (ne12 (by decide)), upd_ne (by decide), upd_at]
  · by_cases e : q = i
    · subst e
      have e1 : fr (W ++ [⟨cw, j, cc⟩]) q = ⟨cw, j, cc⟩ := getD_snoc_eq _ _ _ _ hW.symm
      rw [e1, upd_at]
      exact ⟨r.keep fun k e => kp (0, 3) (by decide) k (by rw [hc]; exact e), rfl⟩
    · have e1 : fr (W ++ [⟨cw, j, cc⟩]) q = fr W q := getD_snoc_lt _ _ _ _ (by omega)
      have hq' : q < i := by omega
      rw [e1, upd_ne (ne22 e), upd_ne (ne12 (by decide)), upd_ne (ne12 (by decide))]
      exact ⟨(h.wr q hq').1.keep fun k e => kp (2, q) (ne12 (by decide)) k (by rw [(h.wr q hq').2]; exact e), (h.wr q hq').2⟩
  · rw [upd_ne (ne12 (by decide)), upd_at]
theorem take_set (l : List Int) (j : Nat) (x : Int) (h : j < l.length) : (l.set j x).take (j + 1) = l.take j ++ [x] := by
  rw [List.take_succ_eq_append_getElem (by simpa using h)]
  simp [List.take_set]
  exact List.set_eq_of_length_le (by simp; omega)
end Go.Proofs.Ytioioagomlpmeaa
