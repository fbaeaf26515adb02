/- append to a row of one's own: which block it lies in behind it, and what else stands. -/
import Derived.Test.YtmhdhedjeaaciaaLOwn
import Derived.Maps.AppendAt
namespace Go.Proofs.Ytmhdhedjeaaciaa
open Go.RowKit

theorem fold_EC (e : En) : Array.foldl (fun cs x => cs.setIfInBounds x.snd x.fst) (EC en0) (EC e).zipIdx 0 4 = EC e := rfl
theorem take_snoc (L : List En) (k : Nat) (h : k < L.length) : L.take (k + 1) = L.take k ++ [L.getD k en0] := by
  rw [List.take_succ_eq_append_getElem h]; simp [List.getD, h]
theorem OwnE.append2 {B0 B : Nat} {w w' : World} {ao : Option Addr} {cap : Nat} {acc : List En} (O : OwnE B0 B w w' ao cap acc) (e : En) (C : Array Value) (hC : C = EC e) (hlen : acc.length < 3518437208883)
    {ops : Array Oper} {rest : List Oper} {o : Oper} {a : Act} {Q : Exit → Act → World → Prop} (hgd : o.guard = none) (s x : Operand) (ho : o.op = .call { callee := .builtin .append, args := #[s, x], argTypes := #[22, 22] })
    (n : Nat) (hn : acc.length = n) (hs : a.eval s = .slice ao n cap) (hx : a.eval x = .slice (some ⟨w'.heap.size, 0, none⟩) 1 1)
    (hK : ∀ (g cap2 : Nat) (w2 : World), OwnE B0 B w w2 (some ⟨g, 0, none⟩) cap2 (acc ++ [e]) → (∀ k, k < w'.heap.size → (∀ ad, ao = some ad → ad.block ≠ k) → w2.heap[k]? = w'.heap[k]?) → ((∃ ad, ao = some ad ∧ ad.block = g) ∨ w'.heap.size < g) → wpList Try.prog ops Q rest (a.put o.dst (.slice (some ⟨g, 0, none⟩) (n + 1) cap2)) w2) :
    wpList Try.prog ops Q (o :: rest) a (w'.alloc (.cells C 40)) := by
  subst hn hC
  obtain ⟨i0, hi, hz0, hz1, hz2⟩ := info_parts info28
  have hB := O.hB
  have hB0 := O.hB0
  refine wpList_append_own_at _ hgd s x 22 ho B 40 i0 (.agg #[.int .i64 0, .int .i64 0, .string ⟨#[]⟩, .int .i64 0]) 4 40 Try.underlying22 hi hz0 hz1 hz2 rfl (by decide) _ acc.length (ecs acc) hs (O.own.alloc _) ⟨w'.heap.size, 0, none⟩ 1 1 (EC e).toList hx (by simp [EC]) ?_ ?_ (by unfold maxLen; omega) (by omega) (by simp; omega) ?_
  · intro j u hj
    rw [Addr.add_lit, Nat.zero_add, World.cell?_alloc_new]
    simpa using hj
  · intro u hu
    exact EC_one e u hu
  · intro v' w2 hown hgrow _ hblk
    rcases hown.2 with ⟨h0, h00⟩ | ⟨g, cap2, cur, hv, hbg, hgg, hnc, hcm, hcsz, htake⟩
    · omega
    · subst hv
      have hrow : ∀ k, (Value.slice ao acc.length cap).ownBlock = some k → B ≤ k := fun k hk => (O.own.lt k hk).1
      have hsz := hgrow.size
      rw [World.size_alloc] at hsz
      refine hK g cap2 w2 ⟨?_, (O.below.alloc (by omega) _).grown hgrow (by simp; omega) (fun k hk => by have := hrow k hk; omega), by omega, hB0⟩ (fun k hk hne => ?_) ?_
      · rw [List.length_append, ecs_append, ecs_one]; exact hown
      · rw [hgrow.block k (by simp; omega) (fun e => by
          cases ao with
          | none => simp [Value.ownBlock] at e
          | some ad => simp [Value.ownBlock] at e; exact hne ad rfl e.symm)]
        exact Below.heap_alloc _ _ _ (by omega)
      · rcases hblk with h | h
        · cases ao with
          | none => simp [Value.ownBlock] at h
          | some ad => simp [Value.ownBlock] at h; exact Or.inl ⟨ad, rfl, h.symm⟩
        · simp [Value.ownBlock] at h; exact Or.inr (by omega)
theorem cell_kept {w w2 : World} {a : Addr} (h : w2.heap[a.block]? = w.heap[a.block]?) : w2.cell? a = w.cell? a := by
  unfold World.cell?; rw [h]
theorem ESrc.kept {w w2 : World} {ao : Option Addr} {m c : Nat} {L : List En} (h : ESrc w ao m c L) (hk : ∀ ad, ao = some ad → w2.heap[ad.block]? = w.heap[ad.block]?) : ESrc w2 ao m c L := by
  refine ⟨h.1, h.2.1, fun ad ha t ht => ?_, h.2.2.2⟩
  have A := h.2.2.1 ad ha t ht
  have hb : ∀ j, w2.cell? ((ad.add (t * 4)).add j) = w.cell? ((ad.add (t * 4)).add j) := fun j => cell_kept (by rw [block_add, block_add]; exact hk ad ha)
  have hb0 : w2.cell? (ad.add (t * 4)) = w.cell? (ad.add (t * 4)) := cell_kept (by rw [block_add]; exact hk ad ha)
  exact ⟨hb0.trans A.c0, (hb 1).trans A.c1, (hb 2).trans A.c2, (hb 3).trans A.c3⟩
theorem OwnE.lt {B0 B : Nat} {w w' : World} {ao : Option Addr} {cap : Nat} {acc : List En} (O : OwnE B0 B w w' ao cap acc) (ad : Addr) (h : ao = some ad) : ad.block < w'.heap.size := by
  subst h
  exact (O.own.lt ad.block (by simp [Value.ownBlock])).2
end Go.Proofs.Ytmhdhedjeaaciaa
