/- Rows of numbers. -/
import Derived.Test.YtinicdnpkihbkaaEBs
import Derived.Laws.OwnMore
namespace Go.Proofs.Ytinicdnpkihbkaa
open Go.RowKit
variable {w w' w2 : World} {g : Nat}
def ics (L : List Int) : List Value := L.map (Value.int .i64)
theorem ics_append (L M : List Int) : ics (L ++ M) = ics L ++ ics M := by simp [ics]
theorem ics_length (L : List Int) : (ics L).length = L.length := by simp [ics]
theorem ics_one (L : List Int) : ∀ u ∈ ics L, u.oneCell' = true := by
  intro u hu
  obtain ⟨z, _, rfl⟩ := List.mem_map.1 hu
  rfl
theorem ics_at (L : List Int) (t : Nat) (ht : t < L.length) : (ics L)[t]? = some (.int .i64 (L.getD t 0)) := by
  simp [ics, ht, List.getD]
/-- a row of numbers with its room behind it, at the beginning of a block -/
def IR (w : World) (ao : Option Addr) (n cap : Nat) (Z : List Int) : Prop := w.ownsRow 0 3 1 (.slice ao n cap) n (ics Z)
theorem IR.len {ao : Option Addr} {n cap : Nat} {Z : List Int} (h : IR w ao n cap Z) : Z.length = n := by
  have := h.1
  rw [ics_length] at this
  omega
theorem IR.nil (w : World) : IR w none 0 0 [] := World.ownsRow_nil _ _ _ _
theorem infoI : (Try.prog.info? 3).map (fun i => (i.zero, i.size, i.bytes)) = some (some (.int .i64 0), 1, 8) := by kernel_rfl
theorem IR.out {n : Nat} {Z : List Int} {v : Value} (h : w.ownsRow 0 3 1 v n (ics Z)) : ∃ ao cap, v = .slice ao n cap ∧ IR w ao n cap Z := by
  rcases h.2 with ⟨h0, h00⟩ | ⟨q, cap2, cur, hv, r⟩
  · subst h0 h00
    exact ⟨none, 0, rfl, h⟩
  · subst hv
    exact ⟨_, _, rfl, h⟩
/-- an append of numbers that are read at an address -/
theorem IR.app {ao : Option Addr} {n cap : Nat} {Z Y : List Int} (h : IR w ao n cap Z) (ad : Addr) (m c : Nat) (hY : Y.length = m) (hc : ∀ t, t < m → w.cell? (ad.add t) = some (.int .i64 (Y.getD t 0))) (hb : n + m ≤ 17592186044316)
    {ops : Array Oper} {rest : List Oper} {o : Oper} {a : Act} {Q : Exit → Act → World → Prop} (hgd : o.guard = none) (s y : Operand) (ho : o.op = .call { callee := .builtin .append, args := #[s, y], argTypes := #[33, 33] })
    (hs : a.eval s = .slice ao n cap) (hy : a.eval y = .slice (some ad) m c)
    (hK : ∀ (bo : Option Addr) (cap2 : Nat) (w2 : World), IR w2 bo (n + m) cap2 (Z ++ Y) → Ap w w2 ao bo → wpList Try.prog ops Q rest (a.put o.dst (.slice bo (n + m) cap2)) w2) :
    wpList Try.prog ops Q (o :: rest) a w := by
  obtain ⟨i0, hi, hz0, hz1, hz2⟩ := info_parts infoI
  refine wpList_append_own_at _ hgd s y 33 ho 0 3 i0 (.int .i64 0) 1 8 Try.underlying33 hi hz0 hz1 hz2 rfl (by decide) _ n (ics Z) hs h ad m c (ics Y) hy (by rw [ics_length, hY, Nat.mul_one]) (fun j u hj => ?_) (ics_one Y) (by unfold maxLen; omega) (by omega) (Nat.zero_le _) ?_
  · have hl : j < Y.length := by rw [← ics_length]; exact (List.getElem?_eq_some_iff.1 hj).1
    rw [ics_at Y j hl] at hj
    rw [hc j (by omega)]
    exact hj
  · intro v' w2 hown hgrow _ hat
    rw [← ics_append] at hown
    obtain ⟨bo, c2, rfl, hB⟩ := IR.out hown
    rw [ownBlock_blk] at hgrow
    rw [ownBlock_blk, ownBlock_blk] at hat
    refine hK bo c2 w2 hB ⟨hgrow, ?_⟩
    rcases hat with e | e
    · exact Or.inl e
    · exact Or.inr ⟨_, e, Nat.le_refl _⟩
theorem IR.keep {ao : Option Addr} {n cap : Nat} {Z : List Int} (h : IR w ao n cap Z) (hk : ∀ k, blk ao = some k → w'.heap[k]? = w.heap[k]?) : IR w' ao n cap Z := by
  refine ⟨h.1, ?_⟩
  rcases h.2 with h0 | ⟨q, cap2, cur, hv, hq, hh, r⟩
  · exact Or.inl h0
  · simp only [Value.slice.injEq, true_and] at hv
    obtain ⟨rfl, rfl⟩ := hv
    exact Or.inr ⟨q, cap, cur, rfl, hq, (hk q rfl).trans hh, r⟩
theorem IR.lt {ao : Option Addr} {n cap : Nat} {Z : List Int} (h : IR w ao n cap Z) (k : Nat) (hk : blk ao = some k) : k < w.heap.size := by
  rcases h.2 with h0 | ⟨q, cap2, cur, hv, hq, hh, r⟩
  · simp only [Value.slice.injEq] at h0
    rw [h0.1.1] at hk
    cases hk
  · simp only [Value.slice.injEq, true_and] at hv
    obtain ⟨rfl, rfl⟩ := hv
    have : q = k := Option.some.inj hk
    subst this
    exact (Array.getElem?_eq_some_iff.1 hh).1
theorem IR.new {ao : Option Addr} {n cap : Nat} {Z : List Int} (h : IR w ao n cap Z) (o : Obj) : IR (w.alloc o) ao n cap Z := h.keep fun k hk => Below.heap_alloc w o k (h.lt k hk)
/-- of one byte, laid ahead of it -/
theorem IR.app1 {ao : Option Addr} {n cap : Nat} {Z : List Int} (h : IR w ao n cap Z) (x : Int) (hb : n + 1 ≤ 17592186044316)
    {ops : Array Oper} {rest : List Oper} {o : Oper} {a : Act} {Q : Exit → Act → World → Prop} (hgd : o.guard = none) (s y : Operand) (ho : o.op = .call { callee := .builtin .append, args := #[s, y], argTypes := #[33, 33] })
    (hs : a.eval s = .slice ao n cap) (hy : a.eval y = .slice (some ⟨w.heap.size, 0, none⟩) 1 1)
    (hK : ∀ (bo : Option Addr) (cap2 : Nat) (w2 : World), IR w2 bo (n + 1) cap2 (Z ++ [x]) → Ap w w2 ao bo → wpList Try.prog ops Q rest (a.put o.dst (.slice bo (n + 1) cap2)) w2) :
    wpList Try.prog ops Q (o :: rest) a (w.alloc (.cells #[.int .i64 x] 3)) := by
  refine (h.new (.cells #[.int .i64 x] 3)).app ⟨w.heap.size, 0, none⟩ 1 1 (Y := [x]) rfl (fun t ht => ?_) hb hgd s y ho hs hy fun bo c2 w2 hB hA => hK bo c2 w2 hB ((Ap.new w _ ao).trans hA)
  obtain rfl : t = 0 := by omega
  exact cell_one_new w _ _ 0 _ rfl
/-- a row of numbers, nil or not -/
structure NSrc (w : World) (ao : Option Addr) (m c : Nat) (Z : List Int) : Prop where
  len : Z.length = m
  nil : ao = none → m = 0 ∧ c = 0
  cell : ∀ ad, ao = some ad → ∀ t, t < m → w.cell? (ad.add t) = some (.int .i64 (Z.getD t 0))
theorem NSrc.below {ao : Option Addr} {m c : Nat} {Z : List Int} (h : NSrc w ao m c Z) (hb : Below w.heap.size w w') : NSrc w' ao m c Z :=
  ⟨h.len, h.nil, fun ad ha t ht => (hb.cell (World.block_lt_of_cell? w _ (h.cell ad ha t ht))).trans (h.cell ad ha t ht)⟩
theorem NSrc.of_own {B m c : Nat} {ao : Option Addr} {Z : List Int} (h : w.ownsRow B 3 1 (.slice ao m c) m (ics Z)) (hl : Z.length = m) : NSrc w ao m c Z := by
  rcases h.2 with ⟨h0, h00⟩ | ⟨q, cap2, cur, hv, r⟩
  · simp only [Value.slice.injEq] at h0
    obtain ⟨rfl, e0, rfl⟩ := h0
    exact ⟨hl, fun _ => ⟨e0, rfl⟩, (fun ad h => by cases h)⟩
  · simp only [Value.slice.injEq, true_and] at hv
    obtain ⟨rfl, rfl⟩ := hv
    refine ⟨hl, fun h => (by cases h), fun ad ha t ht => ?_⟩
    obtain rfl := Option.some.inj ha
    rw [Addr.add_lit, Nat.zero_add, h.cellAt t (by omega), ics_at Z t (by omega)]
theorem NSrc.at {ao : Option Addr} {m c : Nat} {Z : List Int} (h : NSrc w ao m c Z) (k : Nat) (hk : k < m) : ∃ ad, ao = some ad ∧ w.cell? (ad.add k) = some (.int .i64 (Z.getD k 0)) := by
  cases ao with
  | none => have := h.nil rfl; omega
  | some ad => exact ⟨ad, rfl, h.cell ad rfl k hk⟩
theorem IR.below {ao : Option Addr} {n cap : Nat} {Z : List Int} (h : IR w ao n cap Z) (hb : Below w.heap.size w w') : IR w' ao n cap Z := h.keep fun k hk => hb.block k (h.lt k hk)
theorem IR.src {ao : Option Addr} {n cap : Nat} {Z : List Int} (h : IR w ao n cap Z) : NSrc w ao n cap Z := NSrc.of_own h h.len
/-- run form: one number that was laid just before -/
theorem IR.runs1 {ao : Option Addr} {n cap : Nat} {Z : List Int} (h : IR w ao n cap Z) (x : Int) (hb : n + 1 ≤ 17592186044316) (ty : TypeId) :
    ∃ bo c2 w2, (Builtin.append_ #[33, 33] ty #[.slice ao n cap, .slice (some ⟨w.heap.size, 0, none⟩) 1 1]).run Try.prog (w.alloc (.cells #[.int .i64 x] 3)) = .ok (.slice bo (n + 1) c2) w2 ∧ IR w2 bo (n + 1) c2 (Z ++ [x]) ∧ Ap w w2 ao bo := by
  obtain ⟨i0, hi, hz0, hz1, hz2⟩ := info_parts infoI
  have hk := h.new (.cells #[.int .i64 x] 3)
  obtain ⟨v', w2, hrun, hown, hgrow, hnil, hat⟩ := run_append_own_at (P := Try.prog) (w.alloc (.cells #[.int .i64 x] 3)) 0 33 ty 3 i0 (.int .i64 0) 1 8 Try.underlying33 hi hz0 hz1 hz2 rfl (by decide) (.slice ao n cap) n (ics Z) hk ⟨w.heap.size, 0, none⟩ 1 1 (ics [x]) rfl (fun j u hj => by
    have hl : j < 1 := (List.getElem?_eq_some_iff.1 hj).1
    obtain rfl : j = 0 := by omega
    rw [cell_one_new w _ _ 0 _ rfl]
    exact hj) (ics_one [x]) (by unfold maxLen; omega) (by omega) (Nat.zero_le _)
  rw [← ics_append] at hown
  obtain ⟨bo, c2, rfl, hP⟩ := IR.out hown
  rw [ownBlock_blk] at hgrow
  rw [ownBlock_blk, ownBlock_blk] at hat
  refine ⟨bo, c2, w2, hrun, hP, (Ap.new w _ ao).trans ⟨hgrow, ?_⟩⟩
  rcases hat with e | e
  · exact Or.inl e
  · exact Or.inr ⟨_, e, Nat.le_refl _⟩
end Go.Proofs.Ytinicdnpkihbkaa
