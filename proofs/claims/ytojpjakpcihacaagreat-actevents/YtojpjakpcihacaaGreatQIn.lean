/- Rows of numbers that the call grows. -/
import Derived.Test.YtojpjakpcihacaaGreatVKb
import Derived.Test.YtojpjakpcihacaaGreatRKit
import Derived.Laws.AppendOwnNone
import Derived.Maps.AppendAt
namespace Go.Proofs.YtojpjakpcihacaaGreat
open Go.RowKit

theorem isrc_at {w : World} {ao : Option Addr} {n c : Nat} {Z : List Int} (S : V.Src w ao n c Z) (k : Nat) (h : k < n) : ∃ ad, ao = some ad ∧ w.cell? (ad.add k) = some (.int .i64 (Z.getD k 0)) := by
  cases ao with
  | none => have := S.2.1 rfl; omega
  | some ad => exact ⟨ad, rfl, S.2.2 ad rfl k h⟩
def ics (L : List Int) : List Value := L.map (Value.int .i64)
theorem ics_append (L M : List Int) : ics (L ++ M) = ics L ++ ics M := by simp [ics]
theorem ics_length (L : List Int) : (ics L).length = L.length := by simp [ics]
theorem ics_one (L : List Int) : ∀ u ∈ ics L, u.oneCell' = true := by
  intro u hu
  obtain ⟨z, _, rfl⟩ := List.mem_map.1 hu
  rfl
theorem ics_at (L : List Int) (t : Nat) (ht : t < L.length) : (ics L)[t]? = some (.int .i64 (L.getD t 0)) := by
  simp [ics, ht, List.getD]
/-- the slice owns just these numbers, in blocks from B on; below B0 all is as it was -/
structure OwnI (B0 B : Nat) (w w' : World) (ao : Option Addr) (cap : Nat) (acc : List Int) : Prop where
  own : w'.ownsRow B 3 1 (.slice ao acc.length cap) acc.length (ics acc)
  below : Below B0 w w'
  hB : B ≤ w'.heap.size
  hB0 : B0 ≤ B
theorem OwnI.nil {B0 B : Nat} {w w' : World} (hb : Below B0 w w') (hB : B ≤ w'.heap.size) (h0 : B0 ≤ B) : OwnI B0 B w w' none 0 [] :=
  ⟨World.ownsRow_nil _ _ _ _, hb, hB, h0⟩
theorem OwnI.later {B0 B : Nat} {w w' w2 : World} {ao : Option Addr} {cap : Nat} {acc : List Int} (O : OwnI B0 B w w' ao cap acc) (hb : Below w'.heap.size w' w2) : OwnI B0 B w w2 ao cap acc := by
  refine ⟨⟨O.own.1, ?_⟩, O.below.trans (hb.mono (Nat.le_trans O.hB0 O.hB)), Nat.le_trans O.hB hb.size, O.hB0⟩
  rcases O.own.2 with h | ⟨g, cap2, cur, hv, hbg, hgg, r⟩
  · exact Or.inl h
  · exact Or.inr ⟨g, cap2, cur, hv, hbg, (hb.block g (Array.getElem?_eq_some_iff.1 hgg).1).trans hgg, r⟩
theorem infoI : (Tryz.prog.info? 3).map (fun i => (i.zero, i.size, i.bytes)) = some (some (.int .i64 0), 1, 8) := by kernel_rfl
/-- a list of numbers is appended, as an operation; also what becomes of the other blocks -/
theorem OwnI.append {B0 B : Nat} {w w' : World} {ao : Option Addr} {cap : Nat} {acc : List Int} (O : OwnI B0 B w w' ao cap acc) (E : List Int) (ad : Addr) (m c : Nat) (S : V.Src w' (some ad) m c E) (hlen : acc.length + m ≤ 17592186044415)
    {ops : Array Oper} {rest : List Oper} {o : Oper} {a : Act} {Q : Exit → Act → World → Prop} (hgd : o.guard = none) (s x : Operand) (ho : o.op = .call { callee := .builtin .append, args := #[s, x], argTypes := #[22, 22] })
    (n : Nat) (hn : acc.length = n) (hs : a.eval s = .slice ao n cap) (hx : a.eval x = .slice (some ad) m c)
    (hK : ∀ (ao2 : Option Addr) (cap2 : Nat) (w2 : World), OwnI B0 B w w2 ao2 cap2 (acc ++ E) → (∀ k, k < w'.heap.size → (Value.slice ao acc.length cap).ownBlock ≠ some k → w2.heap[k]? = w'.heap[k]? ∧ ∀ ad2, ao2 = some ad2 → ad2.block ≠ k) → w'.heap.size ≤ w2.heap.size → wpList Tryz.prog ops Q rest (a.put o.dst (.slice ao2 (n + m) cap2)) w2) :
    wpList Tryz.prog ops Q (o :: rest) a w' := by
  subst hn
  obtain rfl : E.length = m := S.1
  obtain ⟨i0, hi, hz0, hz1, hz2⟩ := info_parts infoI
  have hB := O.hB
  have hB0 := O.hB0
  refine wpList_append_own_at _ hgd s x 22 ho B 3 i0 (.int .i64 0) 1 8 Tryz.underlying22 hi hz0 hz1 hz2 rfl (by decide) _ acc.length (ics acc) hs O.own ad E.length c (ics E) hx (by rw [ics_length, Nat.mul_one]) (fun j u hj => ?_) (ics_one E) (by unfold maxLen; omega) (by omega) hB ?_
  · have hl : j < E.length := by rw [← ics_length]; exact (List.getElem?_eq_some_iff.1 hj).1
    rw [ics_at E j hl] at hj
    rw [S.2.2 ad rfl j hl]
    exact hj
  intro v' w2 hown hgrow _ hat
  have hrow : ∀ k, (Value.slice ao acc.length cap).ownBlock = some k → B ≤ k := fun k hk => (O.own.lt k hk).1
  have hsz := hgrow.size
  have hb2 : Below B0 w w2 := O.below.grown hgrow (by omega) (fun k hk => by have := hrow k hk; omega)
  rw [← ics_append] at hown
  rcases hown.2 with ⟨h0, h00⟩ | ⟨g, cap2, cur, hv, r⟩
  · subst h0
    have e1 : acc = [] := List.eq_nil_of_length_eq_zero (by omega)
    have e2 : E = [] := List.eq_nil_of_length_eq_zero (by omega)
    subst e1 e2
    exact hK none 0 w2 ⟨hown, hb2, by omega, hB0⟩ (fun k hk hne => ⟨hgrow.block k hk (fun e => hne e.symm), fun ad2 h => by cases h⟩) hsz
  · subst hv
    refine hK (some ⟨g, 0, none⟩) cap2 w2 ⟨by rw [List.length_append]; exact hown, hb2, by omega, hB0⟩ (fun k hk hne => ⟨hgrow.block k hk (fun e => hne e.symm), fun ad2 h e => ?_⟩) hsz
    obtain rfl := Option.some.inj h
    have e' : g = k := e
    rcases hat with h | h
    · exact hne (by rw [← h, ← e']; rfl)
    · simp [Value.ownBlock] at h; omega
theorem OwnI.appendS {B0 B : Nat} {w w' : World} {ao : Option Addr} {cap : Nat} {acc : List Int} (O : OwnI B0 B w w' ao cap acc) (E : List Int) (xo : Option Addr) (m c : Nat) (S : V.Src w' xo m c E) (hlen : acc.length + m ≤ 17592186044415)
    {ops : Array Oper} {rest : List Oper} {o : Oper} {a : Act} {Q : Exit → Act → World → Prop} (hgd : o.guard = none) (s x : Operand) (ho : o.op = .call { callee := .builtin .append, args := #[s, x], argTypes := #[22, 22] })
    (n : Nat) (hn : acc.length = n) (hs : a.eval s = .slice ao n cap) (hx : a.eval x = .slice xo m c)
    (hK : ∀ (ao2 : Option Addr) (cap2 : Nat) (w2 : World), OwnI B0 B w w2 ao2 cap2 (acc ++ E) → wpList Tryz.prog ops Q rest (a.put o.dst (.slice ao2 (n + m) cap2)) w2) :
    wpList Tryz.prog ops Q (o :: rest) a w' := by
  cases xo with
  | some ad => exact O.append E ad m c S hlen hgd s x ho n hn hs hx (fun ao2 cap2 w2 h _ _ => hK ao2 cap2 w2 h)
  | none =>
    obtain ⟨rfl, rfl⟩ := S.2.1 rfl
    have e := List.eq_nil_of_length_eq_zero S.1
    subst e
    subst hn
    obtain ⟨i0, hi, hz0, hz1, hz2⟩ := info_parts infoI
    refine wpList_append_own_none hgd s x 22 ho B 3 i0 1 Tryz.underlying22 hi _ acc.length (ics acc) hs O.own hx ?_
    have := hK ao cap w'
    rw [List.append_nil, Nat.add_zero] at this
    exact this O
theorem OwnI.src {B0 B : Nat} {w w' : World} {ao : Option Addr} {cap : Nat} {acc : List Int} (O : OwnI B0 B w w' ao cap acc) : V.Src w' ao acc.length cap acc ∧ (∀ ad, ao = some ad → B ≤ ad.block) ∧ acc.length ≤ cap ∧ cap ≤ maxLen := by
  rcases O.own.2 with ⟨h0, h00⟩ | ⟨g, cap2, cur, hv, hbg, hgg, hnc, hcm, hcsz, htake⟩
  · simp only [Value.slice.injEq] at h0
    obtain ⟨rfl, e0, rfl⟩ := h0
    exact ⟨⟨rfl, fun _ => ⟨h00, rfl⟩, fun ad h => (by cases h)⟩, fun ad h => (by cases h), by omega, by unfold maxLen; omega⟩
  · simp only [Value.slice.injEq, true_and] at hv
    obtain ⟨rfl, rfl⟩ := hv
    refine ⟨⟨rfl, fun h => (by cases h), fun ad h t ht => ?_⟩, fun ad h => by obtain rfl := Option.some.inj h; exact hbg, hnc, hcm⟩
    obtain rfl := Option.some.inj h
    rw [Addr.add_lit, Nat.zero_add, O.own.cellAt t (by omega), ics_at acc t ht]
/-- the row may lie in any of the blocks that stand -/
theorem src_off {w w' : World} {ao : Option Addr} {n c : Nat} {Z : List Int} (h : V.Src w ao n c Z) (hk : ∀ ad, ao = some ad → w'.heap[ad.block]? = w.heap[ad.block]?) : V.Src w' ao n c Z := h.off hk
theorem OwnI.made (w : World) (C : Array Value) (cap : Nat) (hc : C.size = cap * 1) (hm : cap ≤ maxLen) : OwnI w.heap.size w.heap.size w (w.alloc (.cells C 3)) (some ⟨w.heap.size, 0, none⟩) cap [] :=
  ⟨World.ownsRow_made w C cap (Nat.le_refl _) hm hc, below_new w _, by simp, Nat.le_refl _⟩
/-- the blocks of two rows are apart -/
theorem OwnI.lt {B0 B : Nat} {w w' : World} {ao : Option Addr} {cap : Nat} {acc : List Int} (O : OwnI B0 B w w' ao cap acc) {k : Nat} (h : (Value.slice ao acc.length cap).ownBlock = some k) : B ≤ k ∧ k < w'.heap.size := O.own.lt k h
theorem ilit1 (w : World) (x : Int) (C : Array Value) (hC : C = #[.int .i64 x]) (T : TypeId) : V.Src (w.alloc (.cells C T)) (some ⟨w.heap.size, 0, none⟩) 1 1 [x] := by
  subst hC
  refine ⟨rfl, fun h => (by cases h), fun ad h t ht => ?_⟩
  obtain rfl := Option.some.inj h
  rw [Addr.add_lit, Nat.zero_add, World.cell?_alloc_new]
  obtain rfl : t = 0 := by omega
  rfl
/-- parts of a row -/
theorem src_take {w : World} {ad : Addr} {n c : Nat} {Z : List Int} (h : V.Src w (some ad) n c Z) (k : Nat) (hk : k ≤ n) : V.Src w (some ad) k c (Z.take k) := by
  refine ⟨by rw [List.length_take, h.1]; omega, fun e => (by cases e), fun a e t ht => ?_⟩
  rw [h.2.2 a e t (by omega)]
  simp [List.getD, ht]
theorem src_drop {w : World} {ad : Addr} {n c : Nat} {Z : List Int} (h : V.Src w (some ad) n c Z) (k : Nat) (hk : k ≤ n) (c' : Nat) : V.Src w (some (ad.add k)) (n - k) c' (Z.drop k) := by
  refine ⟨by rw [List.length_drop, h.1], fun e => (by cases e), fun a e t ht => ?_⟩
  obtain rfl := Option.some.inj e
  rw [add_add, h.2.2 ad rfl (k + t) (by omega)]
  simp [List.getD, List.getElem?_drop]
end Go.Proofs.YtojpjakpcihacaaGreat
