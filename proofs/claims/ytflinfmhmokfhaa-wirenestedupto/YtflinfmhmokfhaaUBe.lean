/- The world in which a reader's f begins. -/
import Derived.Test.YtflinfmhmokfhaaURi
namespace Go.Proofs.Ytflinfmhmokfhaa
open Go.RowKit
variable {w w' w2 : World} {g : Nat}

/-- the world in which a reader's f begins, over w -/
structure Beg (w W1 : World) (ro : Option Addr) (rn rc n0 : Nat) : Prop where
  e : Var W1 w.heap.size (.int .i64 0) 26
  r : Rdr W1 (w.heap.size + 1) ro rn rc 0 false
  v : Var W1 (w.heap.size + 2) (ptr (w.heap.size + 1)) 25
  n : n0 = w.heap.size + 3 ∧ W1.heap.size = n0
  b : Below w.heap.size w W1
theorem beg (w : World) (ro : Option Addr) (rn rc : Nat) : Beg w (W0 w ro rn rc) ro rn rc (w.heap.size + 3) := by
  have b1 := below_new w (.cells #[.int .i64 0] 26)
  have h1 := heap_alloc_new w (.cells #[.int .i64 0] 26)
  have s1 := World.size_alloc w (.cells #[.int .i64 0] 26)
  generalize hw1 : w.alloc (.cells #[.int .i64 0] 26) = w1 at b1 h1 s1
  have b2 := below_new w1 (.cells #[.slice ro rn rc, .int .i64 0, .bool false] 59)
  have h2 := heap_alloc_new w1 (.cells #[.slice ro rn rc, .int .i64 0, .bool false] 59)
  have s2 := World.size_alloc w1 (.cells #[.slice ro rn rc, .int .i64 0, .bool false] 59)
  generalize hw2 : w1.alloc (.cells #[.slice ro rn rc, .int .i64 0, .bool false] 59) = w2 at b2 h2 s2
  have b3 := below_new w2 (.cells #[ptr (w.heap.size + 1)] 25)
  have h3 := heap_alloc_new w2 (.cells #[ptr (w.heap.size + 1)] 25)
  have s3 := World.size_alloc w2 (.cells #[ptr (w.heap.size + 1)] 25)
  have e0 : W0 w ro rn rc = w2.alloc (.cells #[ptr (w.heap.size + 1)] 25) := by unfold W0; rw [hw1, hw2]
  rw [e0]
  rw [s1] at h2 s2
  rw [s2] at h3 s3
  refine ⟨?_, ?_, h3, ⟨rfl, by omega⟩, b1.trans ((b2.trans (b3.mono b2.size)).mono b1.size)⟩
  · exact (b3.block _ (by omega)).trans ((b2.block _ (by omega)).trans h1)
  · exact (b3.block _ (by omega)).trans h2
theorem rdr_inj {so so' : Option Addr} {sn sn' sc sc' : Nat} {e e' : Int} {o o' : Bool} (h : Rdr w g so sn sc e o) (k : Rdr w g so' sn' sc' e' o') : sn = sn' ∧ e = e' := by
  unfold Rdr at h k
  rw [h] at k
  simp at k
  exact ⟨k.1.2.1, k.2.1⟩
end Go.Proofs.Ytflinfmhmokfhaa
