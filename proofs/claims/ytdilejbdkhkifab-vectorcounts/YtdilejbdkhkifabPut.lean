/- Put and the reference's Put: their contracts. -/
import Derived.Test.YtdilejbdkhkifabIsN
namespace Go.Proofs.Ytdilejbdkhkifab
open Go.RowKit
attribute [local go_sem ↓] ld56_eq st56_eq
attribute [local go_sem] zeros_VC cells_VA

/-- a list and an error are handed back -/
def Gives2 (w w' : World) (e : Ending) (Z : List Int) (E : Int) : Prop := ∃ ao n c, e = .returned (.tuple #[.slice ao n c, .int .i64 E]) ∧ Src w' ao n c Z ∧ Below w.heap.size w w' ∧ ∀ ad, ao = some ad → w.heap.size ≤ ad.block
theorem src_nil (w : World) : Src w none 0 0 [] := ⟨rfl, fun _ => ⟨rfl, rfl⟩, fun ad h => by cases h⟩
theorem isR_no {r : Int} (h : isR r = false) : r < 0 ∨ 16 ≤ r := by unfold isR at h; simp at h; omega
theorem isR_yes {r : Int} (h : isR r = true) : ∃ k : Nat, r = k ∧ k < 16 := by
  unfold isR at h; simp at h; exact ⟨r.toNat, by omega, by omega⟩
/-- an array variable that is new and filled: the world behind it -/
theorem fresh56 (w w1 : World) (f : Nat → Int) (hb : Below w.heap.size w w1) : ∃ w2 : World, (st56 (.pointer (some ⟨w1.heap.size, 0, none⟩)) (VA f)).run Try.prog (w1.alloc (.cells (VC fun _ => 0) 43)) = .ok () w2 ∧ Arr w2 w1.heap.size 43 f ∧ Below w.heap.size w w2 ∧ Below w1.heap.size w1 w2 :=
  ⟨_, run_st56 (arr_new w1 43 (fun _ => 0)), (arr_new w1 43 (fun _ => 0)).setRow, below_setRow (hb.alloc hb.size _) hb.size, below_setRow ((Below.refl _ _).alloc (Nat.le_refl _) _) (Nat.le_refl _)⟩
end Go.Proofs.Ytdilejbdkhkifab
