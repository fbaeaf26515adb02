/- Blocks by name: each name has at most one block, no two names the same one. -/
import Derived.Test.YtgnclfeicgbjpaaDIr
namespace Go.Proofs.Ytgnclfeicgbjpaa
open Go.RowKit
variable {w w' : World} {β : Nat × Nat → Option Nat} {ao bo : Option Addr}

structure Reg (w : World) (β : Nat × Nat → Option Nat) : Prop where
  lt : ∀ x k, β x = some k → k < w.heap.size
  inj : ∀ x y k, β x = some k → β y = some k → x = y
def upd (β : Nat × Nat → Option Nat) (x : Nat × Nat) (v : Option Nat) : Nat × Nat → Option Nat := fun y => if y = x then v else β y
theorem upd_at (β : Nat × Nat → Option Nat) (x : Nat × Nat) (v : Option Nat) : upd β x v x = v := by unfold upd; rw [if_pos rfl]
theorem upd_ne {β : Nat × Nat → Option Nat} {x y : Nat × Nat} {v : Option Nat} (h : y ≠ x) : upd β x v y = β y := by unfold upd; rw [if_neg h]
theorem Reg.below (h : Reg w β) (hb : Below w.heap.size w w') : Reg w' β := ⟨fun x k e => Nat.lt_of_lt_of_le (h.lt x k e) hb.size, h.inj⟩
theorem Reg.drop (h : Reg w β) (x : Nat × Nat) : Reg w (upd β x none) := by
  refine ⟨fun y k e => ?_, fun y z k e f => ?_⟩
  · by_cases hy : y = x
    · rw [hy, upd_at] at e; cases e
    · rw [upd_ne hy] at e; exact h.lt y k e
  · by_cases hy : y = x
    · rw [hy, upd_at] at e; cases e
    · by_cases hz : z = x
      · rw [hz, upd_at] at f; cases f
      · rw [upd_ne hy] at e
        rw [upd_ne hz] at f
        exact h.inj y z k e f
/-- a name gets a block that is no other name's -/
theorem Reg.put (h : Reg w β) (x : Nat × Nat) (v : Option Nat) (hl : ∀ k, v = some k → k < w.heap.size) (hn : ∀ k, v = some k → ∀ y, y ≠ x → β y ≠ some k) : Reg w (upd β x v) := by
  refine ⟨fun y k e => ?_, fun y z k e f => ?_⟩
  · by_cases hy : y = x
    · rw [hy, upd_at] at e; exact hl k e
    · rw [upd_ne hy] at e; exact h.lt y k e
  · by_cases hy : y = x
    · by_cases hz : z = x
      · rw [hy, hz]
      · rw [hy, upd_at] at e
        rw [upd_ne hz] at f
        exact absurd f (hn k e z hz)
    · rw [upd_ne hy] at e
      by_cases hz : z = x
      · rw [hz, upd_at] at f
        exact absurd e (hn k f y hy)
      · rw [upd_ne hz] at f
        exact h.inj y z k e f
/-- new memory gets a name -/
theorem Reg.new (h : Reg w β) (hb : NewB w w' bo) (hl : ∀ k, blk bo = some k → k < w'.heap.size) (x : Nat × Nat) : Reg w' (upd β x (blk bo)) :=
  (h.below hb.1).put x _ hl fun k e y _ f => by have := hb.2 k e; have := h.lt y k f; omega
/-- what a name has grows: the other names' blocks stay -/
theorem Reg.kept (h : Reg w β) (a : Ap w w' ao bo) {x : Nat × Nat} (hx : β x = blk ao) : ∀ y, y ≠ x → ∀ k, β y = some k → w'.heap[k]? = w.heap[k]? :=
  fun y hy k e => a.grown.block k (h.lt y k e) (fun f => hy (h.inj y x k e (by rw [hx]; exact f.symm)))
theorem Reg.grow (h : Reg w β) (a : Ap w w' ao bo) {x : Nat × Nat} (hx : β x = blk ao) (hl : ∀ k, blk bo = some k → k < w'.heap.size) : Reg w' (upd β x (blk bo)) := by
  have h' : Reg w' β := ⟨fun y k e => Nat.lt_of_lt_of_le (h.lt y k e) a.grown.size, h.inj⟩
  refine h'.put x _ hl fun k e y hy f => ?_
  rcases a.lies with g | ⟨j, g, hj⟩
  · exact hy (h.inj y x k f (by rw [hx, ← g]; exact e))
  · rw [g] at e
    have := Option.some.inj e
    have := h.lt y k f
    omega
/-- a name gives its block to another -/
theorem Reg.move (h : Reg w β) (x y : Nat × Nat) : Reg w (upd (upd β x none) y (β x)) := by
  refine (h.drop x).put y _ (fun k e => h.lt x k e) fun k e z hz f => ?_
  by_cases hzx : z = x
  · rw [hzx, upd_at] at f; cases f
  · rw [upd_ne hzx] at f
    exact hzx (h.inj z x k f e)
end Go.Proofs.Ytgnclfeicgbjpaa
