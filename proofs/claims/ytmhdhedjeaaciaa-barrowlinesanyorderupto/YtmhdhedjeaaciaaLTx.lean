/- A line's cell written over; texts compared. -/
import Derived.Test.YtmhdhedjeaaciaaLOf
import Derived.Test.YtmhdhedjeaaciaaLMe
import Derived.Deep.OwnRows
namespace Go.Proofs.Ytmhdhedjeaaciaa
open Go.RowKit

theorem set0_LC' (t : ByteArray) : ((LC ln0).setIfInBounds 0 (.string t)) = LC ⟨t, 0, 0⟩ := rfl
theorem LBox.setC {w : World} {g : Nat} {T : TypeId} {l y : Ln} (h : LBox w g T l) (j : Nat) (v : Value) (hy : (LC l).setIfInBounds j v = LC y) : LBox (w.setCell ⟨g, j, none⟩ v) g T y ∧ w.frozen? ⟨g, j, none⟩ = false := by
  unfold LBox at h ⊢
  exact ⟨by rw [heap_setCell_same w g j _ T _ h, hy], by simp [World.frozen?, h]⟩
theorem neS {a b : ByteArray} (h : a ≠ b) : (a.toList == b.toList) = false := (eqS_no a b).2 h
theorem yesS {a b : ByteArray} (h : a = b) : (a.toList == b.toList) = true := (eqS_iff a b).2 h
end Go.Proofs.Ytmhdhedjeaaciaa
