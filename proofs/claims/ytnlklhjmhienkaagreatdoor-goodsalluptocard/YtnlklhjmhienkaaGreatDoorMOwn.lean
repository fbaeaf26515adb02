/- A row of bytes that the call itself grows by append: what is known of it, the law of append, string(out). -/
import Derived.Test.YtnlklhjmhienkaaGreatDoorMBy
import Derived.Lib.OthersKept
namespace Go.Proofs.YtnlklhjmhienkaaGreatDoor.M
open Go.RowKit

/-- the slice (ao, its length, cap) owns just these bytes, in blocks from B on; below B0 all is as it was -/
structure Own (B0 B : Nat) (w w' : World) (ao : Option Addr) (cap : Nat) (acc : List UInt8) : Prop where
  own : w'.ownsRow B 5 1 (.slice ao acc.length cap) acc.length (acc.map V8)
  below : Below B0 w w'
  hB : B ≤ w'.heap.size
  hB0 : B0 ≤ B

theorem Own.nil {B0 B : Nat} {w w' : World} (hb : Below B0 w w') (hB : B ≤ w'.heap.size) (h0 : B0 ≤ B) : Own B0 B w w' none 0 [] :=
  ⟨World.ownsRow_nil _ _ _ _, hb, hB, h0⟩
theorem Own.drewN {B0 B : Nat} {w w' : World} {ao : Option Addr} {cap : Nat} {acc : List UInt8} (O : Own B0 B w w' ao cap acc) (n : Nat) : Own B0 B w (w'.drewN n) ao cap acc :=
  ⟨O.own, O.below.trans ⟨rfl, rfl, rfl, Nat.le_refl _, fun _ _ => rfl⟩, O.hB, O.hB0⟩

theorem Own.append {B0 B : Nat} {w w' : World} {ao : Option Addr} {cap : Nat} {acc : List UInt8} (O : Own B0 B w w' ao cap acc) (cs : List UInt8) (C : Array Value) (hC : C = (cs.map V8).toArray) (hcs : 0 < cs.length) (hlen : acc.length + cs.length ≤ 100000)
    {ops : Array Oper} {rest : List Oper} {o : Oper} {a : Act} {Q : Exit → Act → World → Prop} (hgd : o.guard = none) (s x : Operand) (ho : o.op = .call { callee := .builtin .append, args := #[s, x], argTypes := #[59, 59] })
    (n : Nat) (hn : acc.length = n) (hs : a.eval s = .slice ao n cap) (m : Nat) (hm : cs.length = m) (hx : a.eval x = .slice (some ⟨w'.heap.size, 0, none⟩) m m)
    (hK : ∀ (g cap2 : Nat) (w2 : World), Own B0 B w w2 (some ⟨g, 0, none⟩) cap2 (acc ++ cs) → (∀ k, k < B → w2.heap[k]? = w'.heap[k]?) → wpList Tryz.prog ops Q rest (a.put o.dst (.slice (some ⟨g, 0, none⟩) (n + m) cap2)) w2) :
    wpList Tryz.prog ops Q (o :: rest) a (w'.alloc (.cells C 5)) := by
  subst hn hm hC
  obtain ⟨i0, hi, hz0, hz1, hz2⟩ := info_parts info5
  have hB := O.hB
  have hB0 := O.hB0
  refine wpList_append_own _ hgd s x 59 ho B 5 i0 (.int .u8 0) 1 1 Tryz.underlying59 hi hz0 hz1 hz2 rfl (by decide) _ acc.length (acc.map V8) hs (O.own.alloc _) ⟨w'.heap.size, 0, none⟩ cs.length cs.length (cs.map V8) hx (by simp) ?_ ?_ (by unfold maxLen; omega) (by omega) (by simp; omega) ?_
  · intro j u hj
    rw [Addr.add_lit, Nat.zero_add, World.cell?_alloc_new]
    simpa using hj
  · intro u hu
    simp only [List.mem_map] at hu
    obtain ⟨c, _, rfl⟩ := hu
    rfl
  · intro v' w2 hown hgrow _
    rcases hown.2 with ⟨h0, h00⟩ | ⟨g, cap2, cur, hv, hbg, hgg, hnc, hcm, hcsz, htake⟩
    · omega
    · subst hv
      have hrow : ∀ k, (Value.slice ao acc.length cap).ownBlock = some k → B ≤ k := fun k hk => (O.own.lt k hk).1
      have hsz := hgrow.size
      rw [World.size_alloc] at hsz
      refine hK g cap2 w2 ⟨?_, (O.below.alloc (by omega) _).grown hgrow (by simp; omega) (fun k hk => by have := hrow k hk; omega), by omega, hB0⟩ (fun k hk => ?_)
      · rw [List.length_append, List.map_append]; exact hown
      · rw [hgrow.block k (by simp; omega) (fun e => by have := hrow k e.symm; omega)]
        exact Below.heap_alloc _ _ _ (by omega)

theorem Own.later {B0 B : Nat} {w w' w2 : World} {ao : Option Addr} {cap : Nat} {acc : List UInt8} (O : Own B0 B w w' ao cap acc) (hb : Below w'.heap.size w' w2) : Own B0 B w w2 ao cap acc := by
  refine ⟨⟨O.own.1, ?_⟩, O.below.trans (hb.mono (Nat.le_trans O.hB0 O.hB)), Nat.le_trans O.hB hb.size, O.hB0⟩
  rcases O.own.2 with h | ⟨g, cap2, cur, hv, hbg, hgg, r⟩
  · exact Or.inl h
  · exact Or.inr ⟨g, cap2, cur, hv, hbg, (hb.block g (Array.getElem?_eq_some_iff.1 hgg).1).trans hgg, r⟩

/-- string(out) -/
theorem Own.text {B0 B : Nat} {w w' : World} {ao : Option Addr} {cap : Nat} {acc : List UInt8} (O : Own B0 B w w' ao cap acc) (n : Nat) (hn : acc.length = n) : (convert 59 9 (.slice ao n cap)).run Tryz.prog w' = .ok (.string (bs acc)) w' := by
  subst hn
  rcases O.own.2 with ⟨h0, h00⟩ | ⟨g, cap2, cur, hv, hbg, hgg, hnc, hcm, hcsz, htake⟩
  · have e : acc = [] := List.eq_nil_of_length_eq_zero h00
    subst e
    simp only [Value.slice.injEq] at h0
    obtain ⟨rfl, _, rfl⟩ := h0
    exact run_convert_bytes_nil w' 59 5 Tryz.underlying59 Tryz.underlying5 0 0 9 Tryz.underlying9
  · simp only [Value.slice.injEq, true_and] at hv
    obtain ⟨rfl, rfl⟩ := hv
    refine run_convert_bytes_back w' 59 9 5 ⟨g, 0, none⟩ cap acc Tryz.underlying59 Tryz.underlying5 Tryz.underlying9 (fun j hj => ?_)
    rw [Addr.add_lit, Nat.zero_add, O.own.cellAt j (by omega)]
    simp [hj, V8]
end Go.Proofs.YtnlklhjmhienkaaGreatDoor.M
