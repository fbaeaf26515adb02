/- VectorFinds: the law's walk. -/
import Derived.Test.YtdilejbdkhkifabHas
namespace Go.Proofs.Ytdilejbdkhkifab
open Go.RowKit

theorem lit_src (w : World) (Z : List Int) (C : Array Value) (hC : C = (Z.map (Value.int .i64)).toArray) (T : TypeId) (n : Nat) (hn : Z.length = n) : Src (w.alloc (.cells C T)) (some ⟨w.heap.size, 0, none⟩) n n Z := by
  subst hC hn
  refine ⟨rfl, fun h => (by cases h), fun ad h t ht => ?_⟩
  obtain rfl := Option.some.inj h
  rw [Addr.add_lit, Nat.zero_add, World.cell?_alloc_new]
  simp [List.getD, ht]

end Go.Proofs.Ytdilejbdkhkifab
