/- The law's apart: what is where. -/
import Derived.Test.YtioioagomlpmeaaDSo
namespace Go.Proofs.Ytioioagomlpmeaa
open Go.RowKit
variable {w0 w w' w2 : World} {β : Nat × Nat → Option Nat} {ao bo lo wo : Option Addr} {n lc wc i : Nat} {F W : List Sl} {X Y : Nat → List Int}

/-- but for the blocks in S, all old memory is as it was -/
structure Frm (w0 w : World) (S : Nat → Prop) : Prop where
  os : w.os = w0.os
  tape : w.tape = w0.tape
  output : w.output = w0.output
  size : w0.heap.size ≤ w.heap.size
  block : ∀ k, k < w0.heap.size → ¬ S k → w.heap[k]? = w0.heap[k]?
theorem Frm.refl (w : World) (S : Nat → Prop) : Frm w w S := ⟨rfl, rfl, rfl, Nat.le_refl _, fun _ _ _ => rfl⟩
theorem Frm.ap {S : Nat → Prop} (h : Frm w0 w S) (a : Ap w w' ao bo) (hs : ∀ k, blk ao = some k → k < w0.heap.size → S k) : Frm w0 w' S :=
  ⟨a.grown.os.trans h.os, a.grown.tape.trans h.tape, a.grown.output.trans h.output, Nat.le_trans h.size a.grown.size, fun k hk hn => (a.grown.block k (Nat.lt_of_lt_of_le hk h.size) (fun e => hn (hs k e.symm hk))).trans (h.block k hk hn)⟩
theorem Frm.below {S : Nat → Prop} (h : Frm w0 w S) (hb : Below w.heap.size w w') : Frm w0 w' S :=
  ⟨hb.os.trans h.os, hb.tape.trans h.tape, hb.output.trans h.output, Nat.le_trans h.size hb.size, fun k hk hn => (hb.block k (Nat.lt_of_lt_of_le hk h.size)).trans (h.block k hk hn)⟩
def fr (F : List Sl) (q : Nat) : Sl := F.getD q sl0
/-- the lists, and the names of blocks -/
structure Bs (w0 w : World) (β : Nat × Nat → Option Nat) (lo : Option Addr) (n lc : Nat) (F : List Sl) : Prop where
  reg : Reg w β
  frm : Frm w0 w (fun k => ∃ q, q < n ∧ blk (fr F q).a = some k)
  nw : ∀ x : Nat × Nat, x.1 ≠ 1 → x ≠ (0, 0) → ∀ k, β x = some k → w0.heap.size ≤ k
  out : SO 34 w lo n lc F
  o0 : β (0, 0) = blk lo
  o1 : ∀ q, q < n → β (1, q) = blk (fr F q).a
/-- what a name has grows -/
theorem Bs.grow (h : Bs w0 w β lo n lc F) (a : Ap w w' ao bo) (x : Nat × Nat) (h1 : x.1 ≠ 1) (h0 : x ≠ (0, 0)) (hx : β x = blk ao) (hl : ∀ k, blk bo = some k → k < w'.heap.size) : Bs w0 w' (upd β x (blk bo)) lo n lc F := by
  refine ⟨h.reg.grow a hx hl, h.frm.ap a (fun k e hk => ?_), fun y hy hy0 k e => ?_, h.out.keep fun k e => h.reg.kept a hx (0, 0) (fun e => h0 e.symm) k (by rw [h.o0]; exact e), ?_, fun q hq => ?_⟩
  · have := h.nw x h1 h0 k (by rw [hx]; exact e)
    omega
  · by_cases hyx : y = x
    · rw [hyx, upd_at] at e
      rcases a.lies with g | ⟨j, g, hj⟩
      · exact h.nw x h1 h0 k (by rw [hx, ← g]; exact e)
      · rw [g] at e
        have := Option.some.inj e
        have := h.frm.size
        omega
    · rw [upd_ne hyx] at e
      exact h.nw y hy hy0 k e
  · rw [upd_ne (fun e => h0 e.symm)]; exact h.o0
  · rw [upd_ne (fun e => h1 (by rw [← e]))]; exact h.o1 q hq
/-- new memory gets a name -/
theorem Bs.new (h : Bs w0 w β lo n lc F) (hb : NewB w w' bo) (x : Nat × Nat) (h1 : x.1 ≠ 1) (h0 : x ≠ (0, 0)) (hl : ∀ k, blk bo = some k → k < w'.heap.size) : Bs w0 w' (upd β x (blk bo)) lo n lc F := by
  refine ⟨h.reg.new hb hl x, h.frm.below hb.1, fun y hy hy0 k e => ?_, h.out.keep fun k e => hb.1.block k (h.out.lt k e), ?_, fun q hq => ?_⟩
  · by_cases hyx : y = x
    · rw [hyx, upd_at] at e
      have := hb.2 k e
      have := h.frm.size
      omega
    · rw [upd_ne hyx] at e
      exact h.nw y hy hy0 k e
  · rw [upd_ne (fun e => h0 e.symm)]; exact h.o0
  · rw [upd_ne (fun e => h1 (by rw [← e]))]; exact h.o1 q hq
theorem Bs.below (h : Bs w0 w β lo n lc F) (hb : Below w.heap.size w w') : Bs w0 w' β lo n lc F :=
  ⟨h.reg.below hb, h.frm.below hb, h.nw, h.out.keep fun k e => hb.block k (h.out.lt k e), h.o0, h.o1⟩
/-- one of the lists is written in its own place -/
theorem Bs.row (h : Bs w0 w β lo n lc F) (q : Nat) (hq : q < n) (a : Ap w w' (fr F q).a (fr F q).a) : Bs w0 w' β lo n lc F := by
  have hx := h.o1 q hq
  refine ⟨⟨fun x k e => Nat.lt_of_lt_of_le (h.reg.lt x k e) a.grown.size, h.reg.inj⟩, h.frm.ap a (fun k e _ => ⟨q, hq, e⟩), h.nw, h.out.keep fun k e => h.reg.kept a hx (0, 0) (fun e => by cases e) k (by rw [h.o0]; exact e), h.o0, h.o1⟩
theorem Bs.drop (h : Bs w0 w β lo n lc F) (x : Nat × Nat) (h1 : x.1 ≠ 1) (h0 : x ≠ (0, 0)) : Bs w0 w (upd β x none) lo n lc F := by
  refine ⟨h.reg.drop x, h.frm, fun y hy hy0 k e => ?_, h.out, by rw [upd_ne (fun e => h0 e.symm)]; exact h.o0, fun q hq => by rw [upd_ne (fun e => h1 (by rw [← e]))]; exact h.o1 q hq⟩
  by_cases hyx : y = x
  · rw [hyx, upd_at] at e; cases e
  · rw [upd_ne hyx] at e; exact h.nw y hy hy0 k e
theorem Bs.move (h : Bs w0 w β lo n lc F) (x y : Nat × Nat) (hx1 : x.1 ≠ 1) (hx0 : x ≠ (0, 0)) (hy1 : y.1 ≠ 1) (hy0 : y ≠ (0, 0)) : Bs w0 w (upd (upd β x none) y (β x)) lo n lc F := by
  have hd := h.drop x hx1 hx0
  refine ⟨h.reg.move x y, h.frm, fun z hz hz0 k e => ?_, h.out, by rw [upd_ne (fun e => hy0 e.symm)]; exact hd.o0, fun q hq => by rw [upd_ne (fun e => hy1 (by rw [← e]))]; exact hd.o1 q hq⟩
  by_cases hzy : z = y
  · rw [hzy, upd_at] at e; exact h.nw x hx1 hx0 k e
  · rw [upd_ne hzy] at e; exact hd.nw z hz hz0 k e
theorem NSrc.keep {m c : Nat} {Z : List Int} (h : NSrc w ao m c Z) (hk : ∀ k, blk ao = some k → w'.heap[k]? = w.heap[k]?) : NSrc w' ao m c Z :=
  ⟨h.len, h.nil, fun ad ha t ht => by
    rw [← h.cell ad ha t ht]
    exact World.cell?_of_block (by rw [block_of_add]; exact hk ad.block (by rw [ha]; rfl))⟩
/-- the front part of a row -/
theorem IR.front {m c an ac : Nat} {Z : List Int} (h : IR w ao m c Z) (ha : an ≤ m) (hn : ao = none → ac = 0) : NSrc w ao an ac (Z.take an) := by
  have hl := h.len
  refine ⟨by simp; omega, fun e => ⟨?_, hn e⟩, fun ad e t ht => ?_⟩
  · have := (h.src.nil e).1; omega
  · rw [h.src.cell ad e t (by omega)]
    simp [List.getD, ht]
end Go.Proofs.Ytioioagomlpmeaa
