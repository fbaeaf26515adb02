/- Entries appended, as a run: what else stands in the memory stays. -/
import Derived.Test.YtfpmijfcemopoaaGreatKb38
import Derived.Maps.AppendAt
import Derived.Laws.AppendOwnNone
namespace Go.Proofs.YtfpmijfcemopoaaGreat.K
open Go.RowKit
theorem OwnE.empty {B0 B : Nat} {w w' : World} (hb : Below B0 w w') (hB : B ≤ w'.heap.size) (h0 : B0 ≤ B) : OwnE B0 B w (w'.alloc (.cells #[] 49)) (some ⟨w'.heap.size, 0, none⟩) 0 [] := by
 refine ⟨⟨rfl, Or.inr ⟨w'.heap.size, 0, #[], rfl, hB, heap_alloc_new _ _, Nat.le_refl _, Nat.zero_le _, rfl, rfl⟩⟩, hb.alloc (by omega) _, by simp; omega, h0⟩
theorem OwnE.appRun {B0 B : Nat} {w W : World} {ao : Option Addr} {cap : Nat} {acc : List En} (O : OwnE B0 B w W ao cap acc) (bo : Option Addr) (m c : Nat) (R : List En) (hR : ESrc W bo m c R) (n l : Nat) (hn : acc.length = n) (hl : n + m = l) (hlen : l ≤ 3518437208883) :
  ∃ a' c' W', (Builtin.append_ #[23, 23] 23 #[.slice ao n cap, .slice bo m c]).run Tryz.prog W = .ok (.slice a' l c') W' ∧ OwnE B0 B w W' a' c' (acc ++ R) ∧ (∀ q, q < W.heap.size → (Value.slice ao n cap).ownBlock ≠ some q → W'.heap[q]? = W.heap[q]?) ∧ ((Value.slice a' l c').ownBlock = (Value.slice ao n cap).ownBlock ∨ (Value.slice a' l c').ownBlock = some W.heap.size) ∧ W.heap.size ≤ W'.heap.size := by
 subst hn hl
 obtain ⟨i0, hi, hz0, hz1, hz2⟩ := info_parts info28
 have hB := O.hB
 have hB0 := O.hB0
 cases bo with
 | none =>
  obtain ⟨rfl, rfl⟩ := hR.2.1 rfl
  obtain rfl : R = [] := List.eq_nil_of_length_eq_zero hR.1
  have hrun := run_append_owned_none (P := Tryz.prog) (w := W) B 23 23 49 i0 4 Tryz.underlying23 hi _ acc.length (ecs acc) O.own
  exact ⟨ao, cap, W, hrun, by rw [List.append_nil]; exact O, fun _ _ _ => rfl, .inl rfl, Nat.le_refl _⟩
 | some ad =>
  obtain ⟨v', W2, hrun, hown, hgrow, _, hat⟩ := run_append_own_at (P := Tryz.prog) W B 23 23 49 i0 (.agg #[.int .i64 0, .int .i64 0, .string ⟨#[]⟩, .int .i64 0]) 4 40 Tryz.underlying23 hi hz0 hz1 hz2 rfl (by decide) (.slice ao acc.length cap) acc.length (ecs acc) O.own ad m c (ecs R) (by rw [ecs_length, hR.1]) (fun j u hj => hR.cells j u hj) (ecs_onecell R) (by unfold maxLen; omega) (by omega) hB
  have hrow : ∀ k, (Value.slice ao acc.length cap).ownBlock = some k → B ≤ k := fun k hk => (O.own.lt k hk).1
  have hsz := hgrow.size
  have hbel : Below B0 w W2 := O.below.grown hgrow (by omega) (fun k hk => by have := hrow k hk; omega)
  have hm : m = R.length := hR.1.symm
  have hown2 : W2.ownsRow B 49 4 v' (acc ++ R).length (ecs (acc ++ R)) := by rw [List.length_append, ecs_append, ← hm]; exact hown
  rcases hown.2 with ⟨h0, h00⟩ | ⟨g, cap2, cur, hv, r⟩
  ·subst h0
   have e0 : acc.length + m = 0 := h00
   rw [e0]
   refine ⟨none, 0, W2, hrun, ⟨?_, hbel, by omega, hB0⟩, fun q hq hn => hgrow.block q hq (fun e => hn e.symm), hat, hsz⟩
   rw [List.length_append, ← hm, e0] at hown2
   rw [List.length_append, ← hm, e0]
   exact hown2
  ·subst hv
   refine ⟨some ⟨g, 0, none⟩, cap2, W2, hrun, ⟨?_, hbel, by omega, hB0⟩, fun q hq hn => hgrow.block q hq (fun e => hn e.symm), hat, hsz⟩
   rw [List.length_append, ← hm] at hown2 ⊢
   exact hown2
end Go.Proofs.YtfpmijfcemopoaaGreat.K
