/- What grows, what is new. -/
import Derived.Test.YtheiblagjeekjaaDoorSwL
import Derived.WalkKit
import Derived.WalkSpells
import Derived.Deep.QuietTactic
import Derived.BigQuiet
import Derived.Deep.RegionHeld
import Derived.Lib.QuietBelow
import Derived.Laws.Cells
import Derived.Laws.Tables
import Derived.Laws.AppendOwnNone
import Derived.Maps.AppendAt
import Derived.Lib.SliceRun
import Derived.Deep.OwnRows
import Derived.Deep.Heap
import Derived.Deep.CutRange
namespace Go.Proofs.YtheiblagjeekjaaDoor
open Go.RowKit

theorem w64 {x : Int} (h1 : -9223372036854775808 ≤ x) (h2 : x ≤ 9223372036854775807) : wrap64 x = x := by unfold wrap64; omega
theorem below_new (w : World) (o : Obj) : Below w.heap.size w (w.alloc o) := (Below.refl _ _).alloc (Nat.le_refl _) _
variable {w w' w2 : World} {g : Nat}
/-- the block of a row -/
def blk (ao : Option Addr) : Option Nat := ao.map (·.block)
theorem ownBlock_blk (ao : Option Addr) (n cap : Nat) : (Value.slice ao n cap).ownBlock = blk ao := by cases ao <;> rfl
/-- the row grew: its old block alone may have been written; it lies there still, or in new memory -/
structure Ap (w w' : World) (ao bo : Option Addr) : Prop where
  grown : w.grownBy w' (blk ao)
  lies : blk bo = blk ao ∨ ∃ k, blk bo = some k ∧ w.heap.size ≤ k
theorem Ap.refl (w : World) (ao : Option Addr) : Ap w w ao ao := ⟨⟨rfl, rfl, rfl, Nat.le_refl _, fun _ _ _ => rfl⟩, Or.inl rfl⟩
theorem Ap.trans {ao bo co : Option Addr} (h : Ap w w' ao bo) (k : Ap w' w2 bo co) : Ap w w2 ao co := by
  refine ⟨⟨k.grown.os.trans h.grown.os, k.grown.tape.trans h.grown.tape, k.grown.output.trans h.grown.output, Nat.le_trans h.grown.size k.grown.size, fun i hi hne => ?_⟩, ?_⟩
  · refine (k.grown.block i (Nat.lt_of_lt_of_le hi h.grown.size) ?_).trans (h.grown.block i hi hne)
    rcases h.lies with e | ⟨j, e, hj⟩
    · rw [e]; exact hne
    · rw [e]
      intro x
      have := Option.some.inj x
      omega
  · rcases k.lies with e | ⟨j, e, hj⟩
    · rw [e]
      exact h.lies
    · exact Or.inr ⟨j, e, Nat.le_trans h.grown.size hj⟩
theorem Ap.new (w : World) (o : Obj) (ao : Option Addr) : Ap w (w.alloc o) ao ao :=
  ⟨⟨rfl, rfl, rfl, by simp, fun k hk _ => Below.heap_alloc w o k hk⟩, Or.inl rfl⟩
theorem below_drew1 (w : World) : Below w.heap.size w w.drew := ⟨rfl, rfl, rfl, Nat.le_refl _, fun _ _ => rfl⟩
theorem below_drewN (w : World) (n : Nat) : Below w.heap.size w (w.drewN n) := ⟨rfl, rfl, rfl, Nat.le_refl _, fun _ _ => rfl⟩
theorem block_of_add (a : Addr) (n : Nat) : (a.add n).block = a.block := by unfold Addr.add; split <;> rfl
/-- new memory -/
def NewB (w w' : World) (bo : Option Addr) : Prop := Below w.heap.size w w' ∧ ∀ k, blk bo = some k → w.heap.size ≤ k
theorem Ap.fresh {o : Obj} {bo : Option Addr} (h : Ap (w.alloc o) w' (some ⟨w.heap.size, 0, none⟩) bo) : NewB w w' bo := by
  have hs := h.grown.size
  rw [World.size_alloc] at hs
  refine ⟨(below_new w o).trans ⟨h.grown.os, h.grown.tape, h.grown.output, h.grown.size, fun k hk => h.grown.block k (by rw [World.size_alloc]; omega) (fun e => ?_)⟩, fun k hk => ?_⟩
  · have : k = w.heap.size := Option.some.inj e
    omega
  · rcases h.lies with e | ⟨j, e, hj⟩
    · rw [e] at hk
      have : w.heap.size = k := Option.some.inj hk
      omega
    · rw [e] at hk
      have := Option.some.inj hk
      rw [World.size_alloc] at hj
      omega
theorem NewB.of_ap {bo : Option Addr} (h : Ap w w' none bo) : NewB w w' bo :=
  ⟨⟨h.grown.os, h.grown.tape, h.grown.output, h.grown.size, fun k hk => h.grown.block k hk (fun e => by cases e)⟩, fun k hk => by
    rcases h.lies with e | ⟨j, e, hj⟩
    · rw [e] at hk; cases hk
    · rw [e] at hk
      have := Option.some.inj hk
      omega⟩
theorem NewB.pre {bo : Option Addr} (hb : Below w.heap.size w w') (h : NewB w' w2 bo) : NewB w w2 bo :=
  ⟨hb.trans (h.1.mono hb.size), fun k hk => Nat.le_trans hb.size (h.2 k hk)⟩
end Go.Proofs.YtheiblagjeekjaaDoor
