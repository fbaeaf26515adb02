/- Rows of bytes that grow; a number's bytes. -/
import Derived.Test.YtpnnlfhknnnfhaaGreatDoorLBase
import Derived.WalkKit
import Derived.WalkSpells
import Derived.Deep.QuietTactic
import Derived.BigQuiet
import Derived.Deep.RegionHeld
import Derived.Lib.QuietBelow
import Derived.Laws.Cells
import Derived.Laws.Tables
import Derived.Laws.AppendOwnNone
import Derived.Maps.AppendAt
import Derived.Lib.SliceRun
import Derived.Deep.OwnRows
import Derived.Deep.Heap
import Derived.Deep.CutRange
namespace Go.Proofs.YtpnnlfhknnnfhaaGreatDoor.Y
open Go.RowKit

variable {w w' w2 : World} {g : Nat}
def bcs (L : List Int) : List Value := L.map (Value.int .u8)
theorem bcs_append (L M : List Int) : bcs (L ++ M) = bcs L ++ bcs M := by simp [bcs]
theorem bcs_length (L : List Int) : (bcs L).length = L.length := by simp [bcs]
theorem bcs_one (L : List Int) : ∀ u ∈ bcs L, u.oneCell' = true := by
  intro u hu
  obtain ⟨z, _, rfl⟩ := List.mem_map.1 hu
  rfl
theorem bcs_at (L : List Int) (t : Nat) (ht : t < L.length) : (bcs L)[t]? = some (.int .u8 (L.getD t 0)) := by
  simp [bcs, ht, List.getD]
/-- a row of bytes with its room behind it, at the beginning of a block -/
def BR (w : World) (ao : Option Addr) (n cap : Nat) (Z : List Int) : Prop := w.ownsRow 0 5 1 (.slice ao n cap) n (bcs Z)
theorem BR.len {ao : Option Addr} {n cap : Nat} {Z : List Int} (h : BR w ao n cap Z) : Z.length = n := by
  have := h.1
  rw [bcs_length] at this
  omega
theorem BR.nil (w : World) : BR w none 0 0 [] := World.ownsRow_nil _ _ _ _
/-- the block of a row -/
def blk (ao : Option Addr) : Option Nat := ao.map (·.block)
theorem ownBlock_blk (ao : Option Addr) (n cap : Nat) : (Value.slice ao n cap).ownBlock = blk ao := by cases ao <;> rfl
/-- the row grew: its old block alone may have been written; it lies there still, or in new memory -/
structure Ap (w w' : World) (ao bo : Option Addr) : Prop where
  grown : w.grownBy w' (blk ao)
  lies : blk bo = blk ao ∨ ∃ k, blk bo = some k ∧ w.heap.size ≤ k
theorem Ap.refl (w : World) (ao : Option Addr) : Ap w w ao ao := ⟨⟨rfl, rfl, rfl, Nat.le_refl _, fun _ _ _ => rfl⟩, Or.inl rfl⟩
theorem Ap.trans {ao bo co : Option Addr} (h : Ap w w' ao bo) (k : Ap w' w2 bo co) : Ap w w2 ao co := by
  refine ⟨⟨k.grown.os.trans h.grown.os, k.grown.tape.trans h.grown.tape, k.grown.output.trans h.grown.output, Nat.le_trans h.grown.size k.grown.size, fun i hi hne => ?_⟩, ?_⟩
  · refine (k.grown.block i (Nat.lt_of_lt_of_le hi h.grown.size) ?_).trans (h.grown.block i hi hne)
    rcases h.lies with e | ⟨j, e, hj⟩
    · rw [e]; exact hne
    · rw [e]
      intro x
      have := Option.some.inj x
      omega
  · rcases k.lies with e | ⟨j, e, hj⟩
    · rw [e]
      exact h.lies
    · exact Or.inr ⟨j, e, Nat.le_trans h.grown.size hj⟩
theorem Ap.new (w : World) (o : Obj) (ao : Option Addr) : Ap w (w.alloc o) ao ao :=
  ⟨⟨rfl, rfl, rfl, by simp, fun k hk _ => Below.heap_alloc w o k hk⟩, Or.inl rfl⟩
theorem infoB : (Tryz.prog.info? 5).map (fun i => (i.zero, i.size, i.bytes)) = some (some (.int .u8 0), 1, 1) := by kernel_rfl
theorem BR.out {n : Nat} {Z : List Int} {v : Value} (h : w.ownsRow 0 5 1 v n (bcs Z)) : ∃ ao cap, v = .slice ao n cap ∧ BR w ao n cap Z := by
  rcases h.2 with ⟨h0, h00⟩ | ⟨q, cap2, cur, hv, r⟩
  · subst h0 h00
    exact ⟨none, 0, rfl, h⟩
  · subst hv
    exact ⟨_, _, rfl, h⟩
/-- an append of bytes that are read at an address -/
theorem BR.app {ao : Option Addr} {n cap : Nat} {Z Y : List Int} (h : BR w ao n cap Z) (ad : Addr) (m c : Nat) (hY : Y.length = m) (hc : ∀ t, t < m → w.cell? (ad.add t) = some (.int .u8 (Y.getD t 0))) (hb : n + m ≤ 140737488355328)
    {ops : Array Oper} {rest : List Oper} {o : Oper} {a : Act} {Q : Exit → Act → World → Prop} (hgd : o.guard = none) (s y : Operand) (ho : o.op = .call { callee := .builtin .append, args := #[s, y], argTypes := #[56, 56] })
    (hs : a.eval s = .slice ao n cap) (hy : a.eval y = .slice (some ad) m c)
    (hK : ∀ (bo : Option Addr) (cap2 : Nat) (w2 : World), BR w2 bo (n + m) cap2 (Z ++ Y) → Ap w w2 ao bo → wpList Tryz.prog ops Q rest (a.put o.dst (.slice bo (n + m) cap2)) w2) :
    wpList Tryz.prog ops Q (o :: rest) a w := by
  obtain ⟨i0, hi, hz0, hz1, hz2⟩ := info_parts infoB
  refine wpList_append_own_at _ hgd s y 56 ho 0 5 i0 (.int .u8 0) 1 1 Tryz.underlying56 hi hz0 hz1 hz2 rfl (by decide) _ n (bcs Z) hs h ad m c (bcs Y) hy (by rw [bcs_length, hY, Nat.mul_one]) (fun j u hj => ?_) (bcs_one Y) (by unfold maxLen; omega) (by omega) (Nat.zero_le _) ?_
  · have hl : j < Y.length := by rw [← bcs_length]; exact (List.getElem?_eq_some_iff.1 hj).1
    rw [bcs_at Y j hl] at hj
    rw [hc j (by omega)]
    exact hj
  · intro v' w2 hown hgrow _ hat
    rw [← bcs_append] at hown
    obtain ⟨bo, c2, rfl, hB⟩ := BR.out hown
    rw [ownBlock_blk] at hgrow
    rw [ownBlock_blk, ownBlock_blk] at hat
    refine hK bo c2 w2 hB ⟨hgrow, ?_⟩
    rcases hat with e | e
    · exact Or.inl e
    · exact Or.inr ⟨_, e, Nat.le_refl _⟩
theorem BR.keep {ao : Option Addr} {n cap : Nat} {Z : List Int} (h : BR w ao n cap Z) (hk : ∀ k, blk ao = some k → w'.heap[k]? = w.heap[k]?) : BR w' ao n cap Z := by
  refine ⟨h.1, ?_⟩
  rcases h.2 with h0 | ⟨q, cap2, cur, hv, hq, hh, r⟩
  · exact Or.inl h0
  · simp only [Value.slice.injEq, true_and] at hv
    obtain ⟨rfl, rfl⟩ := hv
    exact Or.inr ⟨q, cap, cur, rfl, hq, (hk q rfl).trans hh, r⟩
theorem BR.lt {ao : Option Addr} {n cap : Nat} {Z : List Int} (h : BR w ao n cap Z) (k : Nat) (hk : blk ao = some k) : k < w.heap.size := by
  rcases h.2 with h0 | ⟨q, cap2, cur, hv, hq, hh, r⟩
  · simp only [Value.slice.injEq] at h0
    rw [h0.1.1] at hk
    cases hk
  · simp only [Value.slice.injEq, true_and] at hv
    obtain ⟨rfl, rfl⟩ := hv
    have : q = k := Option.some.inj hk
    subst this
    exact (Array.getElem?_eq_some_iff.1 hh).1
theorem BR.new {ao : Option Addr} {n cap : Nat} {Z : List Int} (h : BR w ao n cap Z) (o : Obj) : BR (w.alloc o) ao n cap Z := h.keep fun k hk => Below.heap_alloc w o k (h.lt k hk)
/-- of one byte, laid ahead of it -/
theorem BR.app1 {ao : Option Addr} {n cap : Nat} {Z : List Int} (h : BR w ao n cap Z) (x : Int) (hb : n + 1 ≤ 140737488355328)
    {ops : Array Oper} {rest : List Oper} {o : Oper} {a : Act} {Q : Exit → Act → World → Prop} (hgd : o.guard = none) (s y : Operand) (ho : o.op = .call { callee := .builtin .append, args := #[s, y], argTypes := #[56, 56] })
    (hs : a.eval s = .slice ao n cap) (hy : a.eval y = .slice (some ⟨w.heap.size, 0, none⟩) 1 1)
    (hK : ∀ (bo : Option Addr) (cap2 : Nat) (w2 : World), BR w2 bo (n + 1) cap2 (Z ++ [x]) → Ap w w2 ao bo → wpList Tryz.prog ops Q rest (a.put o.dst (.slice bo (n + 1) cap2)) w2) :
    wpList Tryz.prog ops Q (o :: rest) a (w.alloc (.cells #[.int .u8 x] 5)) := by
  refine (h.new (.cells #[.int .u8 x] 5)).app ⟨w.heap.size, 0, none⟩ 1 1 (Y := [x]) rfl (fun t ht => ?_) hb hgd s y ho hs hy fun bo c2 w2 hB hA => hK bo c2 w2 hB ((Ap.new w _ ao).trans hA)
  obtain rfl : t = 0 := by omega
  exact cell_one_new w _ _ 0 _ rfl
/-! ### a number's bytes -/
/-- a byte written over -/
theorem BR.put {lo : Option Addr} {m lc : Nat} {Z : List Int} (h : BR w lo m lc Z) (k : Nat) (hk : k < m) (x : Int) : ∃ b, lo = some ⟨b, 0, none⟩ ∧ w.cell? ⟨b, k, none⟩ = some (.int .u8 (Z.getD k 0)) ∧ w.frozen? ⟨b, k, none⟩ = false ∧ BR (w.setCell ⟨b, k, none⟩ (.int .u8 x)) lo m lc (Z.set k x) ∧ Ap w (w.setCell ⟨b, k, none⟩ (.int .u8 x)) lo lo := by
  have hl := h.len
  rcases h.2 with ⟨h0, h00⟩ | ⟨q, cap2, cur, hv, hq, hh, y⟩
  · omega
  · have hv' := hv
    simp only [Value.slice.injEq, true_and] at hv'
    obtain ⟨rfl, rfl⟩ := hv'
    obtain ⟨h1, g1⟩ := World.ownsRow.stored (show w.ownsRow 0 5 1 (.slice (some ⟨q, 0, none⟩) m lc) m (bcs Z) from h) k (.int .u8 x)
    have e : (bcs Z).set k (.int .u8 x) = bcs (Z.set k x) := by simp [bcs]
    rw [e] at h1
    exact ⟨q, rfl, by rw [World.ownsRow.cellAt (show w.ownsRow 0 5 1 (.slice (some ⟨q, 0, none⟩) m lc) m (bcs Z) from h) k (by omega), bcs_at Z k (by omega)], World.ownsRow.frozenAt (show w.ownsRow 0 5 1 (.slice (some ⟨q, 0, none⟩) m lc) m (bcs Z) from h) k, h1, g1, Or.inl rfl⟩
end Go.Proofs.YtpnnlfhknnnfhaaGreatDoor.Y
