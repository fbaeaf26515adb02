/- A row of entries that the call itself grows by append. -/
import Derived.Test.YtmhdhedjeaaciaaLSome
import Derived.Lib.OthersKept
namespace Go.Proofs.Ytmhdhedjeaaciaa
open Go.RowKit

def ecs (L : List En) : List Value := (L.map (fun e => (EC e).toList)).flatten
theorem ecs_append (L R : List En) : ecs (L ++ R) = ecs L ++ ecs R := by simp [ecs]
theorem ecs_one (e : En) : ecs [e] = (EC e).toList := by simp [ecs]
theorem ecs_length (L : List En) : (ecs L).length = L.length * 4 := by
  induction L with
  | nil => rfl
  | cons a L ih => have : ecs (a :: L) = (EC a).toList ++ ecs L := rfl; rw [this, List.length_append, ih]; simp [EC]; omega
theorem ecs_at (L : List En) (t j : Nat) (ht : t < L.length) (hj : j < 4) : (ecs L)[t * 4 + j]? = (EC (L.getD t en0)).toList[j]? := by
  induction L generalizing t with
  | nil => simp at ht
  | cons a L ih =>
    have e : ecs (a :: L) = (EC a).toList ++ ecs L := rfl
    cases t with
    | zero => rw [e, List.getElem?_append_left (by simp [EC]; omega)]; simp [List.getD]
    | succ t =>
      rw [e, List.getElem?_append_right (by simp [EC]; omega)]
      have h := ih t (by simpa using ht)
      have e4 : (t + 1) * 4 + j - (EC a).toList.length = t * 4 + j := by simp [EC]; omega
      rw [e4, h]; simp [List.getD]
theorem info28 : (Try.prog.info? 40).map (fun i => (i.zero, i.size, i.bytes)) = some (some (.agg #[.int .i64 0, .int .i64 0, .string ⟨#[]⟩, .int .i64 0]), 4, 40) := by kernel_rfl

/-- the slice owns just these entries, in blocks from B on; below B0 all is as it was -/
structure OwnE (B0 B : Nat) (w w' : World) (ao : Option Addr) (cap : Nat) (acc : List En) : Prop where
  own : w'.ownsRow B 40 4 (.slice ao acc.length cap) acc.length (ecs acc)
  below : Below B0 w w'
  hB : B ≤ w'.heap.size
  hB0 : B0 ≤ B
theorem OwnE.nil {B0 B : Nat} {w w' : World} (hb : Below B0 w w') (hB : B ≤ w'.heap.size) (h0 : B0 ≤ B) : OwnE B0 B w w' none 0 [] :=
  ⟨World.ownsRow_nil _ _ _ _, hb, hB, h0⟩
theorem OwnE.append {B0 B : Nat} {w w' : World} {ao : Option Addr} {cap : Nat} {acc : List En} (O : OwnE B0 B w w' ao cap acc) (e : En) (C : Array Value) (hC : C = EC e) (hlen : acc.length < 3518437208883)
    {ops : Array Oper} {rest : List Oper} {o : Oper} {a : Act} {Q : Exit → Act → World → Prop} (hgd : o.guard = none) (s x : Operand) (ho : o.op = .call { callee := .builtin .append, args := #[s, x], argTypes := #[22, 22] })
    (n : Nat) (hn : acc.length = n) (hs : a.eval s = .slice ao n cap) (hx : a.eval x = .slice (some ⟨w'.heap.size, 0, none⟩) 1 1)
    (hK : ∀ (g cap2 : Nat) (w2 : World), OwnE B0 B w w2 (some ⟨g, 0, none⟩) cap2 (acc ++ [e]) → (∀ k, k < B → w2.heap[k]? = w'.heap[k]?) → wpList Try.prog ops Q rest (a.put o.dst (.slice (some ⟨g, 0, none⟩) (n + 1) cap2)) w2) :
    wpList Try.prog ops Q (o :: rest) a (w'.alloc (.cells C 40)) := by
  subst hn hC
  obtain ⟨i0, hi, hz0, hz1, hz2⟩ := info_parts info28
  have hB := O.hB
  have hB0 := O.hB0
  refine wpList_append_own _ hgd s x 22 ho B 40 i0 (.agg #[.int .i64 0, .int .i64 0, .string ⟨#[]⟩, .int .i64 0]) 4 40 Try.underlying22 hi hz0 hz1 hz2 rfl (by decide) _ acc.length (ecs acc) hs (O.own.alloc _) ⟨w'.heap.size, 0, none⟩ 1 1 (EC e).toList hx (by simp [EC]) ?_ ?_ (by unfold maxLen; omega) (by omega) (by simp; omega) ?_
  · intro j u hj
    rw [Addr.add_lit, Nat.zero_add, World.cell?_alloc_new]
    simpa using hj
  · intro u hu
    exact EC_one e u hu
  · intro v' w2 hown hgrow _
    rcases hown.2 with ⟨h0, h00⟩ | ⟨g, cap2, cur, hv, hbg, hgg, hnc, hcm, hcsz, htake⟩
    · omega
    · subst hv
      have hrow : ∀ k, (Value.slice ao acc.length cap).ownBlock = some k → B ≤ k := fun k hk => (O.own.lt k hk).1
      have hsz := hgrow.size
      rw [World.size_alloc] at hsz
      refine hK g cap2 w2 ⟨?_, (O.below.alloc (by omega) _).grown hgrow (by simp; omega) (fun k hk => by have := hrow k hk; omega), by omega, hB0⟩ (fun k hk => ?_)
      · rw [List.length_append, ecs_append, ecs_one]; exact hown
      · rw [hgrow.block k (by simp; omega) (fun e => by have := hrow k e.symm; omega)]
        exact Below.heap_alloc _ _ _ (by omega)
theorem OwnE.later {B0 B : Nat} {w w' w2 : World} {ao : Option Addr} {cap : Nat} {acc : List En} (O : OwnE B0 B w w' ao cap acc) (hb : Below w'.heap.size w' w2) : OwnE B0 B w w2 ao cap acc := by
  refine ⟨⟨O.own.1, ?_⟩, O.below.trans (hb.mono (Nat.le_trans O.hB0 O.hB)), Nat.le_trans O.hB hb.size, O.hB0⟩
  rcases O.own.2 with h | ⟨g, cap2, cur, hv, hbg, hgg, r⟩
  · exact Or.inl h
  · exact Or.inr ⟨g, cap2, cur, hv, hbg, (hb.block g (Array.getElem?_eq_some_iff.1 hgg).1).trans hgg, r⟩
theorem OwnE.src {B0 B : Nat} {w w' : World} {ao : Option Addr} {cap : Nat} {acc : List En} (O : OwnE B0 B w w' ao cap acc) (hs : ∀ e ∈ acc, e.sku.size ≤ maxLen) (hl : acc.length ≤ 3518437208883) : ESrc w' ao acc.length cap acc ∧ ∀ ad, ao = some ad → B ≤ ad.block := by
  rcases O.own.2 with ⟨h0, h00⟩ | ⟨g, cap2, cur, hv, hbg, hgg, hnc, hcm, hcsz, htake⟩
  · simp only [Value.slice.injEq] at h0
    obtain ⟨rfl, e0, rfl⟩ := h0
    exact ⟨⟨rfl, fun _ => ⟨h00, rfl⟩, fun ad h => (by cases h), hs, hl⟩, fun ad h => (by cases h)⟩
  · simp only [Value.slice.injEq, true_and] at hv
    obtain ⟨rfl, rfl⟩ := hv
    have cell : ∀ t j, t < acc.length → j < 4 → w'.cell? ⟨g, t * 4 + j, none⟩ = (EC (acc.getD t en0)).toList[j]? := fun t j ht hj => by
      rw [O.own.cellAt (t * 4 + j) (by omega), ecs_at _ t j ht hj]
    refine ⟨⟨rfl, fun h => (by cases h), fun ad h t ht => ?_, hs, hl⟩, fun ad h => by obtain rfl := Option.some.inj h; exact hbg⟩
    obtain rfl := Option.some.inj h
    refine ⟨?_, ?_, ?_, ?_⟩
    · rw [Addr.add_lit, Nat.zero_add]; exact cell t 0 ht (by omega)
    · rw [Addr.add_lit, Addr.add_lit, Nat.zero_add]; exact cell t 1 ht (by omega)
    · rw [Addr.add_lit, Addr.add_lit, Nat.zero_add]; exact cell t 2 ht (by omega)
    · rw [Addr.add_lit, Addr.add_lit, Nat.zero_add]; exact cell t 3 ht (by omega)
end Go.Proofs.Ytmhdhedjeaaciaa
