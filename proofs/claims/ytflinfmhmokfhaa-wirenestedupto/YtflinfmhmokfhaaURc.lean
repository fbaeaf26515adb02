/- A region that draws its order and recovers in it. -/
import Derived.Test.YtflinfmhmokfhaaRows
import Derived.WalkKit
import Derived.Orders
import Derived.Recover
namespace Go.Proofs.Ytflinfmhmokfhaa

theorem wpS_region_draw {P : Program} {id : Nat} {ops : Array Oper} {Q : Exit → Act → List Frame → World → Prop} {a : Act} {cs : List Frame} {w : World}
    (h : ∀ t, wpOpsS P ops Q (Region.schedule (P.follows .mixedOrders) ops t) a cs { w with drawn := w.drawn + 1 }) : (Code.region id ops true).wpS P Q a cs w :=
  fun b k hb hr => let ⟨e, a', cs', w', q, r⟩ := wp_opsS _ a cs _ (h _) b k hb hr; ⟨e, a', cs', w', q, .of_steps (.one step_region_draw) r⟩
/-- one operation that is ready comes first -/
theorem lin_step (md : Region.Mode) (ops : Array Oper) (fuel t : Nat) (listed : Array Bool) (rs : List Nat) (h : Region.ready md ops listed = rs) (hne : rs ≠ []) :
    ∃ i, i ∈ rs ∧ ∃ t', Region.linearise.go md ops (fuel + 1) t listed [] = i :: Region.linearise.go md ops fuel t' (listed.setIfInBounds i true) [] := by
  subst h
  simp only [Region.linearise.go]
  change ∃ i, i ∈ Region.ready md ops listed ∧ ∃ t', (match (Region.ready md ops listed)[t % (Region.ready md ops listed).length]? with
      | some i => Region.linearise.go md ops fuel (t / (Region.ready md ops listed).length) (listed.setIfInBounds i true) [i]
      | none => [].reverse) = i :: Region.linearise.go md ops fuel t' (listed.setIfInBounds i true) []
  cases hi : (Region.ready md ops listed)[t % (Region.ready md ops listed).length]? with
  | none =>
    exfalso
    cases hr : Region.ready md ops listed with
    | nil => exact hne hr
    | cons x xs =>
      rw [hr] at hi
      have hlt : t % (x :: xs).length < (x :: xs).length := Nat.mod_lt _ (by simp)
      simp at hi
      simp at hlt
      omega
  | some i =>
    refine ⟨i, List.mem_of_getElem? hi, t / (Region.ready md ops listed).length, ?_⟩
    simp only []
    rw [linearise_go_acc, List.reverse_singleton, List.singleton_append]
theorem lin_end (md : Region.Mode) (ops : Array Oper) (t : Nat) (listed : Array Bool) : Region.linearise.go md ops 0 t listed [] = [] := rfl
/-- four operations, the first two in either order -/
theorem sched_two {P : Program} {ops : Array Oper} (hm : P.follows .mixedOrders = true) (h1 : ops.size = 4) (h0 : Region.ready .any ops #[false, false, false, false] = [0, 1]) (ha : Region.ready .any ops #[true, false, false, false] = [1]) (hb : Region.ready .any ops #[false, true, false, false] = [0]) (hc : Region.ready .any ops #[true, true, false, false] = [2]) (hd : Region.ready .any ops #[true, true, true, false] = [3]) (t : Nat) :
    Region.schedule (P.follows .mixedOrders) ops t = [0, 1, 2, 3] ∨ Region.schedule (P.follows .mixedOrders) ops t = [1, 0, 2, 3] := by
  have e : Region.schedule (P.follows .mixedOrders) ops t = Region.linearise.go .any ops 4 t #[false, false, false, false] [] := by
    simp only [Region.schedule, hm, Bool.true_or, if_true]
    unfold Region.linearise
    rw [h1]
    rfl
  rw [e]
  obtain ⟨i, hi, t1, e1⟩ := lin_step .any ops 3 t _ _ h0 (by simp)
  rw [e1]
  have tail : ∀ t, Region.linearise.go .any ops 2 t #[true, true, false, false] [] = [2, 3] := fun t => by
    obtain ⟨i, hi, t1, e1⟩ := lin_step .any ops 1 t _ _ hc (by simp)
    obtain rfl := List.mem_singleton.1 hi
    rw [e1]
    obtain ⟨i, hi, t2, e2⟩ := lin_step .any ops 0 t1 _ _ hd (by simp)
    obtain rfl := List.mem_singleton.1 hi
    exact congrArg _ e2
  simp only [List.mem_cons, List.not_mem_nil, or_false] at hi
  rcases hi with rfl | rfl
  · left
    obtain ⟨i, hi, t2, e2⟩ := lin_step .any ops 2 t1 _ _ ha (by simp)
    obtain rfl := List.mem_singleton.1 hi
    exact congrArg _ (e2.trans (congrArg _ (tail t2)))
  · right
    obtain ⟨i, hi, t2, e2⟩ := lin_step .any ops 2 t1 _ _ hb (by simp)
    obtain rfl := List.mem_singleton.1 hi
    exact congrArg _ (e2.trans (congrArg _ (tail t2)))
theorem wpS_region_two {P : Program} {id : Nat} {ops : Array Oper} {Q : Exit → Act → List Frame → World → Prop} {a : Act} {cs : List Frame} {w : World} (hm : P.follows .mixedOrders = true) (h1 : ops.size = 4) (h0 : Region.ready .any ops #[false, false, false, false] = [0, 1]) (ha : Region.ready .any ops #[true, false, false, false] = [1]) (hb : Region.ready .any ops #[false, true, false, false] = [0]) (hc : Region.ready .any ops #[true, true, false, false] = [2]) (hd : Region.ready .any ops #[true, true, true, false] = [3])
    (x : wpOpsS P ops Q [0, 1, 2, 3] a cs w.drew) (y : wpOpsS P ops Q [1, 0, 2, 3] a cs w.drew) : (Code.region id ops true).wpS P Q a cs w :=
  wpS_region_draw fun t => by
    rcases sched_two hm h1 h0 ha hb hc hd t with e | e
    · rw [e]; exact x
    · rw [e]; exact y
end Go.Proofs.Ytflinfmhmokfhaa
