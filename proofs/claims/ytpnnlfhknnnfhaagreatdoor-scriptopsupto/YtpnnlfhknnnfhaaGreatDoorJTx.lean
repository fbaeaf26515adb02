/- Rows of texts that grow. -/
import Derived.Test.YtpnnlfhknnnfhaaGreatDoorJBy
import Derived.WalkKit
import Derived.WalkSpells
import Derived.Deep.QuietTactic
import Derived.BigQuiet
import Derived.Deep.RegionHeld
import Derived.Lib.QuietBelow
import Derived.Laws.Cells
import Derived.Laws.Tables
import Derived.Laws.AppendOwnNone
import Derived.Maps.AppendAt
import Derived.Lib.SliceRun
import Derived.Deep.OwnRows
import Derived.Deep.Heap
import Derived.Deep.CutRange
namespace Go.Proofs.YtpnnlfhknnnfhaaGreatDoor.V
open Go.RowKit
open Y (blk ownBlock_blk Ap Ap.refl Ap.trans Ap.new)

variable {w w' w2 : World} {g : Nat}
def scs (L : List ByteArray) : List Value := L.map Value.string
theorem scs_append (L M : List ByteArray) : scs (L ++ M) = scs L ++ scs M := by simp [scs]
theorem scs_length (L : List ByteArray) : (scs L).length = L.length := by simp [scs]
theorem scs_one (L : List ByteArray) : ∀ u ∈ scs L, u.oneCell' = true := by
  intro u hu
  obtain ⟨z, _, rfl⟩ := List.mem_map.1 hu
  rfl
theorem scs_at (L : List ByteArray) (t : Nat) (ht : t < L.length) : (scs L)[t]? = some (.string (L.getD t ⟨#[]⟩)) := by
  simp [scs, ht, List.getD]
/-- a row of bytes with its room behind it, at the beginning of a block -/
def SR (w : World) (ao : Option Addr) (n cap : Nat) (Z : List ByteArray) : Prop := w.ownsRow 0 9 1 (.slice ao n cap) n (scs Z)
theorem SR.len {ao : Option Addr} {n cap : Nat} {Z : List ByteArray} (h : SR w ao n cap Z) : Z.length = n := by
  have := h.1
  rw [scs_length] at this
  omega
theorem SR.nil (w : World) : SR w none 0 0 [] := World.ownsRow_nil _ _ _ _
theorem infoT : (Tryz.prog.info? 9).map (fun i => (i.zero, i.size, i.bytes)) = some (some (.string ⟨#[]⟩), 1, 16) := by kernel_rfl
theorem SR.out {n : Nat} {Z : List ByteArray} {v : Value} (h : w.ownsRow 0 9 1 v n (scs Z)) : ∃ ao cap, v = .slice ao n cap ∧ SR w ao n cap Z := by
  rcases h.2 with ⟨h0, h00⟩ | ⟨q, cap2, cur, hv, r⟩
  · subst h0 h00
    exact ⟨none, 0, rfl, h⟩
  · subst hv
    exact ⟨_, _, rfl, h⟩
/-- an append of bytes that are read at an address -/
theorem SR.app {ao : Option Addr} {n cap : Nat} {Z Y : List ByteArray} (h : SR w ao n cap Z) (ad : Addr) (m c : Nat) (hY : Y.length = m) (hc : ∀ t, t < m → w.cell? (ad.add t) = some (.string (Y.getD t ⟨#[]⟩))) (hb : n + m ≤ 8796093022000)
    {ops : Array Oper} {rest : List Oper} {o : Oper} {a : Act} {Q : Exit → Act → World → Prop} (hgd : o.guard = none) (s y : Operand) (ho : o.op = .call { callee := .builtin .append, args := #[s, y], argTypes := #[30, 30] })
    (hs : a.eval s = .slice ao n cap) (hy : a.eval y = .slice (some ad) m c)
    (hK : ∀ (bo : Option Addr) (cap2 : Nat) (w2 : World), SR w2 bo (n + m) cap2 (Z ++ Y) → Ap w w2 ao bo → wpList Tryz.prog ops Q rest (a.put o.dst (.slice bo (n + m) cap2)) w2) :
    wpList Tryz.prog ops Q (o :: rest) a w := by
  obtain ⟨i0, hi, hz0, hz1, hz2⟩ := info_parts infoT
  refine wpList_append_own_at _ hgd s y 30 ho 0 9 i0 (.string ⟨#[]⟩) 1 16 Tryz.underlying30 hi hz0 hz1 hz2 rfl (by decide) _ n (scs Z) hs h ad m c (scs Y) hy (by rw [scs_length, hY, Nat.mul_one]) (fun j u hj => ?_) (scs_one Y) (by unfold maxLen; omega) (by omega) (Nat.zero_le _) ?_
  · have hl : j < Y.length := by rw [← scs_length]; exact (List.getElem?_eq_some_iff.1 hj).1
    rw [scs_at Y j hl] at hj
    rw [hc j (by omega)]
    exact hj
  · intro v' w2 hown hgrow _ hat
    rw [← scs_append] at hown
    obtain ⟨bo, c2, rfl, hB⟩ := SR.out hown
    rw [ownBlock_blk] at hgrow
    rw [ownBlock_blk, ownBlock_blk] at hat
    refine hK bo c2 w2 hB ⟨hgrow, ?_⟩
    rcases hat with e | e
    · exact Or.inl e
    · exact Or.inr ⟨_, e, Nat.le_refl _⟩
theorem SR.keep {ao : Option Addr} {n cap : Nat} {Z : List ByteArray} (h : SR w ao n cap Z) (hk : ∀ k, blk ao = some k → w'.heap[k]? = w.heap[k]?) : SR w' ao n cap Z := by
  refine ⟨h.1, ?_⟩
  rcases h.2 with h0 | ⟨q, cap2, cur, hv, hq, hh, r⟩
  · exact Or.inl h0
  · simp only [Value.slice.injEq, true_and] at hv
    obtain ⟨rfl, rfl⟩ := hv
    exact Or.inr ⟨q, cap, cur, rfl, hq, (hk q rfl).trans hh, r⟩
theorem SR.lt {ao : Option Addr} {n cap : Nat} {Z : List ByteArray} (h : SR w ao n cap Z) (k : Nat) (hk : blk ao = some k) : k < w.heap.size := by
  rcases h.2 with h0 | ⟨q, cap2, cur, hv, hq, hh, r⟩
  · simp only [Value.slice.injEq] at h0
    rw [h0.1.1] at hk
    cases hk
  · simp only [Value.slice.injEq, true_and] at hv
    obtain ⟨rfl, rfl⟩ := hv
    have : q = k := Option.some.inj hk
    subst this
    exact (Array.getElem?_eq_some_iff.1 hh).1
theorem SR.new {ao : Option Addr} {n cap : Nat} {Z : List ByteArray} (h : SR w ao n cap Z) (o : Obj) : SR (w.alloc o) ao n cap Z := h.keep fun k hk => Below.heap_alloc w o k (h.lt k hk)
/-- of one byte, laid ahead of it -/
theorem SR.app1 {ao : Option Addr} {n cap : Nat} {Z : List ByteArray} (h : SR w ao n cap Z) (x : ByteArray) (hb : n + 1 ≤ 8796093022000)
    {ops : Array Oper} {rest : List Oper} {o : Oper} {a : Act} {Q : Exit → Act → World → Prop} (hgd : o.guard = none) (s y : Operand) (ho : o.op = .call { callee := .builtin .append, args := #[s, y], argTypes := #[30, 30] })
    (hs : a.eval s = .slice ao n cap) (hy : a.eval y = .slice (some ⟨w.heap.size, 0, none⟩) 1 1)
    (hK : ∀ (bo : Option Addr) (cap2 : Nat) (w2 : World), SR w2 bo (n + 1) cap2 (Z ++ [x]) → Ap w w2 ao bo → wpList Tryz.prog ops Q rest (a.put o.dst (.slice bo (n + 1) cap2)) w2) :
    wpList Tryz.prog ops Q (o :: rest) a (w.alloc (.cells #[.string x] 9)) := by
  refine (h.new (.cells #[.string x] 9)).app ⟨w.heap.size, 0, none⟩ 1 1 (Y := [x]) rfl (fun t ht => ?_) hb hgd s y ho hs hy fun bo c2 w2 hB hA => hK bo c2 w2 hB ((Ap.new w _ ao).trans hA)
  obtain rfl : t = 0 := by omega
  exact cell_one_new w _ _ 0 _ rfl
end Go.Proofs.YtpnnlfhknnnfhaaGreatDoor.V
