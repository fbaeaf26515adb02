/- Rows of numbers with their room: what grows, in place or elsewhere. -/
import Derived.Test.YtgnclfeicgbjpaaDRf
import Derived.Laws.OwnMore
import Derived.Laws.AppendOwnNone
import Derived.Maps.AppendAt
import Derived.Lib.SliceRun
import Derived.Deep.OwnRows
import Derived.Deep.CutRange
import Derived.ArgAppend
namespace Go.Proofs.Ytgnclfeicgbjpaa
open Go.RowKit
variable {w w' w2 : World} {g : Nat}
/-- the block of a row -/
def blk (ao : Option Addr) : Option Nat := ao.map (·.block)
theorem ownBlock_blk (ao : Option Addr) (n cap : Nat) : (Value.slice ao n cap).ownBlock = blk ao := by cases ao <;> rfl
/-- the row grew: its old block alone may have been written; it lies there still, or in new memory -/
structure Ap (w w' : World) (ao bo : Option Addr) : Prop where
  grown : w.grownBy w' (blk ao)
  lies : blk bo = blk ao ∨ ∃ k, blk bo = some k ∧ w.heap.size ≤ k
theorem Ap.refl (w : World) (ao : Option Addr) : Ap w w ao ao := ⟨⟨rfl, rfl, rfl, Nat.le_refl _, fun _ _ _ => rfl⟩, Or.inl rfl⟩
theorem Ap.trans {ao bo co : Option Addr} (h : Ap w w' ao bo) (k : Ap w' w2 bo co) : Ap w w2 ao co := by
  refine ⟨⟨k.grown.os.trans h.grown.os, k.grown.tape.trans h.grown.tape, k.grown.output.trans h.grown.output, Nat.le_trans h.grown.size k.grown.size, fun i hi hne => ?_⟩, ?_⟩
  · refine (k.grown.block i (Nat.lt_of_lt_of_le hi h.grown.size) ?_).trans (h.grown.block i hi hne)
    rcases h.lies with e | ⟨j, e, hj⟩
    · rw [e]; exact hne
    · rw [e]
      intro x
      have := Option.some.inj x
      omega
  · rcases k.lies with e | ⟨j, e, hj⟩
    · rw [e]
      exact h.lies
    · exact Or.inr ⟨j, e, Nat.le_trans h.grown.size hj⟩
theorem Ap.new (w : World) (o : Obj) (ao : Option Addr) : Ap w (w.alloc o) ao ao :=
  ⟨⟨rfl, rfl, rfl, by simp, fun k hk _ => Below.heap_alloc w o k hk⟩, Or.inl rfl⟩
theorem block_of_add (a : Addr) (n : Nat) : (a.add n).block = a.block := by unfold Addr.add; split <;> rfl
/-- new memory -/
def NewB (w w' : World) (bo : Option Addr) : Prop := Below w.heap.size w w' ∧ ∀ k, blk bo = some k → w.heap.size ≤ k
theorem Ap.fresh {o : Obj} {bo : Option Addr} (h : Ap (w.alloc o) w' (some ⟨w.heap.size, 0, none⟩) bo) : NewB w w' bo := by
  have hs := h.grown.size
  rw [World.size_alloc] at hs
  refine ⟨(below_new w o).trans ⟨h.grown.os, h.grown.tape, h.grown.output, h.grown.size, fun k hk => h.grown.block k (by rw [World.size_alloc]; omega) (fun e => ?_)⟩, fun k hk => ?_⟩
  · have : k = w.heap.size := Option.some.inj e
    omega
  · rcases h.lies with e | ⟨j, e, hj⟩
    · rw [e] at hk
      have : w.heap.size = k := Option.some.inj hk
      omega
    · rw [e] at hk
      have := Option.some.inj hk
      rw [World.size_alloc] at hj
      omega
theorem NewB.of_ap {bo : Option Addr} (h : Ap w w' none bo) : NewB w w' bo :=
  ⟨⟨h.grown.os, h.grown.tape, h.grown.output, h.grown.size, fun k hk => h.grown.block k hk (fun e => by cases e)⟩, fun k hk => by
    rcases h.lies with e | ⟨j, e, hj⟩
    · rw [e] at hk; cases hk
    · rw [e] at hk
      have := Option.some.inj hk
      omega⟩
theorem NewB.pre {bo : Option Addr} (hb : Below w.heap.size w w') (h : NewB w' w2 bo) : NewB w w2 bo :=
  ⟨hb.trans (h.1.mono hb.size), fun k hk => Nat.le_trans hb.size (h.2 k hk)⟩
/-- a row of numbers with its room behind it, at the beginning of a block -/
def IR (w : World) (ao : Option Addr) (n cap : Nat) (Z : List Int) : Prop := w.ownsRow 0 3 1 (.slice ao n cap) n (ics Z)
theorem IR.len {ao : Option Addr} {n cap : Nat} {Z : List Int} (h : IR w ao n cap Z) : Z.length = n := by
  have := h.1
  rw [ics_length] at this
  omega
theorem IR.nil (w : World) : IR w none 0 0 [] := World.ownsRow_nil _ _ _ _
theorem IR.out {n : Nat} {Z : List Int} {v : Value} (h : w.ownsRow 0 3 1 v n (ics Z)) : ∃ ao cap, v = .slice ao n cap ∧ IR w ao n cap Z := by
  rcases h.2 with ⟨h0, h00⟩ | ⟨q, cap2, cur, hv, r⟩
  · subst h0 h00
    exact ⟨none, 0, rfl, h⟩
  · subst hv
    exact ⟨_, _, rfl, h⟩
/-- an append of numbers that are read at an address -/
theorem IR.app {ao : Option Addr} {n cap : Nat} {Z Y : List Int} (h : IR w ao n cap Z) (ad : Addr) (m c : Nat) (hY : Y.length = m) (hc : ∀ t, t < m → w.cell? (ad.add t) = some (.int .i64 (Y.getD t 0))) (hb : n + m ≤ 17592186044316)
    {ops : Array Oper} {rest : List Oper} {o : Oper} {a : Act} {Q : Exit → Act → World → Prop} (hgd : o.guard = none) (s y : Operand) (ho : o.op = .call { callee := .builtin .append, args := #[s, y], argTypes := #[38, 38] })
    (hs : a.eval s = .slice ao n cap) (hy : a.eval y = .slice (some ad) m c)
    (hK : ∀ (bo : Option Addr) (cap2 : Nat) (w2 : World), IR w2 bo (n + m) cap2 (Z ++ Y) → Ap w w2 ao bo → wpList Try.prog ops Q rest (a.put o.dst (.slice bo (n + m) cap2)) w2) :
    wpList Try.prog ops Q (o :: rest) a w := by
  obtain ⟨i0, hi, hz0, hz1, hz2⟩ := info_parts infoI
  refine wpList_append_own_at _ hgd s y 38 ho 0 3 i0 (.int .i64 0) 1 8 Try.underlying38 hi hz0 hz1 hz2 rfl (by decide) _ n (ics Z) hs h ad m c (ics Y) hy (by rw [ics_length, hY, Nat.mul_one]) (fun j u hj => ?_) (ics_one Y) (by unfold maxLen; omega) (by omega) (Nat.zero_le _) ?_
  · have hl : j < Y.length := by rw [← ics_length]; exact (List.getElem?_eq_some_iff.1 hj).1
    rw [ics_at Y j hl] at hj
    rw [hc j (by omega)]
    exact hj
  · intro v' w2 hown hgrow _ hat
    rw [← ics_append] at hown
    obtain ⟨bo, c2, rfl, hB⟩ := IR.out hown
    rw [ownBlock_blk] at hgrow
    rw [ownBlock_blk, ownBlock_blk] at hat
    refine hK bo c2 w2 hB ⟨hgrow, ?_⟩
    rcases hat with e | e
    · exact Or.inl e
    · exact Or.inr ⟨_, e, Nat.le_refl _⟩
theorem IR.keep {ao : Option Addr} {n cap : Nat} {Z : List Int} (h : IR w ao n cap Z) (hk : ∀ k, blk ao = some k → w'.heap[k]? = w.heap[k]?) : IR w' ao n cap Z := by
  refine ⟨h.1, ?_⟩
  rcases h.2 with h0 | ⟨q, cap2, cur, hv, hq, hh, r⟩
  · exact Or.inl h0
  · simp only [Value.slice.injEq, true_and] at hv
    obtain ⟨rfl, rfl⟩ := hv
    exact Or.inr ⟨q, cap, cur, rfl, hq, (hk q rfl).trans hh, r⟩
theorem IR.lt {ao : Option Addr} {n cap : Nat} {Z : List Int} (h : IR w ao n cap Z) (k : Nat) (hk : blk ao = some k) : k < w.heap.size := by
  rcases h.2 with h0 | ⟨q, cap2, cur, hv, hq, hh, r⟩
  · simp only [Value.slice.injEq] at h0
    rw [h0.1.1] at hk
    cases hk
  · simp only [Value.slice.injEq, true_and] at hv
    obtain ⟨rfl, rfl⟩ := hv
    have : q = k := Option.some.inj hk
    subst this
    exact (Array.getElem?_eq_some_iff.1 hh).1
theorem IR.new {ao : Option Addr} {n cap : Nat} {Z : List Int} (h : IR w ao n cap Z) (o : Obj) : IR (w.alloc o) ao n cap Z := h.keep fun k hk => Below.heap_alloc w o k (h.lt k hk)
/-- of one byte, laid ahead of it -/
theorem IR.app1 {ao : Option Addr} {n cap : Nat} {Z : List Int} (h : IR w ao n cap Z) (x : Int) (hb : n + 1 ≤ 17592186044316)
    {ops : Array Oper} {rest : List Oper} {o : Oper} {a : Act} {Q : Exit → Act → World → Prop} (hgd : o.guard = none) (s y : Operand) (ho : o.op = .call { callee := .builtin .append, args := #[s, y], argTypes := #[38, 38] })
    (hs : a.eval s = .slice ao n cap) (hy : a.eval y = .slice (some ⟨w.heap.size, 0, none⟩) 1 1)
    (hK : ∀ (bo : Option Addr) (cap2 : Nat) (w2 : World), IR w2 bo (n + 1) cap2 (Z ++ [x]) → Ap w w2 ao bo → wpList Try.prog ops Q rest (a.put o.dst (.slice bo (n + 1) cap2)) w2) :
    wpList Try.prog ops Q (o :: rest) a (w.alloc (.cells #[.int .i64 x] 3)) := by
  refine (h.new (.cells #[.int .i64 x] 3)).app ⟨w.heap.size, 0, none⟩ 1 1 (Y := [x]) rfl (fun t ht => ?_) hb hgd s y ho hs hy fun bo c2 w2 hB hA => hK bo c2 w2 hB ((Ap.new w _ ao).trans hA)
  obtain rfl : t = 0 := by omega
  exact cell_one_new w _ _ 0 _ rfl
/-- a row of numbers, nil or not -/
structure NSrc (w : World) (ao : Option Addr) (m c : Nat) (Z : List Int) : Prop where
  len : Z.length = m
  nil : ao = none → m = 0 ∧ c = 0
  cell : ∀ ad, ao = some ad → ∀ t, t < m → w.cell? (ad.add t) = some (.int .i64 (Z.getD t 0))
theorem NSrc.below {ao : Option Addr} {m c : Nat} {Z : List Int} (h : NSrc w ao m c Z) (hb : Below w.heap.size w w') : NSrc w' ao m c Z :=
  ⟨h.len, h.nil, fun ad ha t ht => (hb.cell (World.block_lt_of_cell? w _ (h.cell ad ha t ht))).trans (h.cell ad ha t ht)⟩
theorem NSrc.of_own {B m c : Nat} {ao : Option Addr} {Z : List Int} (h : w.ownsRow B 3 1 (.slice ao m c) m (ics Z)) (hl : Z.length = m) : NSrc w ao m c Z := by
  rcases h.2 with ⟨h0, h00⟩ | ⟨q, cap2, cur, hv, r⟩
  · simp only [Value.slice.injEq] at h0
    obtain ⟨rfl, e0, rfl⟩ := h0
    exact ⟨hl, fun _ => ⟨e0, rfl⟩, (fun ad h => by cases h)⟩
  · simp only [Value.slice.injEq, true_and] at hv
    obtain ⟨rfl, rfl⟩ := hv
    refine ⟨hl, fun h => (by cases h), fun ad ha t ht => ?_⟩
    obtain rfl := Option.some.inj ha
    rw [Addr.add_lit, Nat.zero_add, h.cellAt t (by omega), ics_at Z t (by omega)]
theorem NSrc.at {ao : Option Addr} {m c : Nat} {Z : List Int} (h : NSrc w ao m c Z) (k : Nat) (hk : k < m) : ∃ ad, ao = some ad ∧ w.cell? (ad.add k) = some (.int .i64 (Z.getD k 0)) := by
  cases ao with
  | none => have := h.nil rfl; omega
  | some ad => exact ⟨ad, rfl, h.cell ad rfl k hk⟩
theorem IR.below {ao : Option Addr} {n cap : Nat} {Z : List Int} (h : IR w ao n cap Z) (hb : Below w.heap.size w w') : IR w' ao n cap Z := h.keep fun k hk => hb.block k (h.lt k hk)
theorem IR.src {ao : Option Addr} {n cap : Nat} {Z : List Int} (h : IR w ao n cap Z) : NSrc w ao n cap Z := NSrc.of_own h h.len
/-- run form: one number that was laid just before -/
theorem IR.runs1 {ao : Option Addr} {n cap : Nat} {Z : List Int} (h : IR w ao n cap Z) (x : Int) (hb : n + 1 ≤ 17592186044316) (ty : TypeId) :
    ∃ bo c2 w2, (Builtin.append_ #[38, 38] ty #[.slice ao n cap, .slice (some ⟨w.heap.size, 0, none⟩) 1 1]).run Try.prog (w.alloc (.cells #[.int .i64 x] 3)) = .ok (.slice bo (n + 1) c2) w2 ∧ IR w2 bo (n + 1) c2 (Z ++ [x]) ∧ Ap w w2 ao bo := by
  obtain ⟨i0, hi, hz0, hz1, hz2⟩ := info_parts infoI
  have hk := h.new (.cells #[.int .i64 x] 3)
  obtain ⟨v', w2, hrun, hown, hgrow, hnil, hat⟩ := run_append_own_at (P := Try.prog) (w.alloc (.cells #[.int .i64 x] 3)) 0 38 ty 3 i0 (.int .i64 0) 1 8 Try.underlying38 hi hz0 hz1 hz2 rfl (by decide) (.slice ao n cap) n (ics Z) hk ⟨w.heap.size, 0, none⟩ 1 1 (ics [x]) rfl (fun j u hj => by
    have hl : j < 1 := (List.getElem?_eq_some_iff.1 hj).1
    obtain rfl : j = 0 := by omega
    rw [cell_one_new w _ _ 0 _ rfl]
    exact hj) (ics_one [x]) (by unfold maxLen; omega) (by omega) (Nat.zero_le _)
  rw [← ics_append] at hown
  obtain ⟨bo, c2, rfl, hP⟩ := IR.out hown
  rw [ownBlock_blk] at hgrow
  rw [ownBlock_blk, ownBlock_blk] at hat
  refine ⟨bo, c2, w2, hrun, hP, (Ap.new w _ ao).trans ⟨hgrow, ?_⟩⟩
  rcases hat with e | e
  · exact Or.inl e
  · exact Or.inr ⟨_, e, Nat.le_refl _⟩

/-- append of one number: in place, or elsewhere with all that was there kept -/
theorem IR.runsK {ao : Option Addr} {n cap : Nat} {Z : List Int} (h : IR w ao n cap Z) (x : Int) (hb : n + 1 ≤ 17592186044316) (ty : TypeId) :
    ∃ bo c2 w2, (Builtin.append_ #[38, 38] ty #[.slice ao n cap, .slice (some ⟨w.heap.size, 0, none⟩) 1 1]).run Try.prog (w.alloc (.cells #[.int .i64 x] 3)) = .ok (.slice bo (n + 1) c2) w2 ∧ IR w2 bo (n + 1) c2 (Z ++ [x]) ∧ Ap w w2 ao bo ∧ (bo = ao ∨ NewB w w2 bo) := by
  obtain ⟨bo, c2, w2, hrun, hI, hA⟩ := h.runs1 x hb ty
  refine ⟨bo, c2, w2, hrun, hI, hA, ?_⟩
  cases ao with
  | none => exact Or.inr (NewB.of_ap hA)
  | some ad =>
    obtain ⟨q, rfl⟩ : ∃ q, ad = ⟨q, 0, none⟩ := by
      rcases h.2 with ⟨h0, _⟩ | ⟨q, cap2, cur, hv, _⟩
      · cases h0
      · simp only [Value.slice.injEq, Option.some.injEq] at hv
        exact ⟨q, hv.1⟩
    by_cases hc : cap < n + 1
    · right
      obtain ⟨i0, hi, hz0, hz1, hz2⟩ := info_parts infoI
      have hk := h.new (.cells #[.int .i64 x] 3)
      obtain ⟨v', w3, hrun3, ho3, hg3⟩ := run_append_arg_grows (P := Try.prog) (w.alloc (.cells #[.int .i64 x] 3)) 38 ty 3 i0 (.int .i64 0) 1 8 Try.underlying38 hi hz0 hz1 hz2 rfl (by decide) ⟨q, 0, none⟩ n cap (ics Z) (by rw [ics_length, h.len, Nat.mul_one])
        (fun j u hj => by
          have hl : j < Z.length := by rw [← ics_length]; exact (List.getElem?_eq_some_iff.1 hj).1
          have := hk.src.cell ⟨q, 0, none⟩ rfl j (by rw [← h.len]; exact hl)
          rw [this, ← hj, ics_at Z j hl]) ⟨w.heap.size, 0, none⟩ 1 1 (ics [x]) rfl (fun j u hj => by
          have hl : j < 1 := (List.getElem?_eq_some_iff.1 hj).1
          obtain rfl : j = 0 := by omega
          rw [cell_one_new w _ _ 0 _ rfl]
          exact hj) hc (by unfold maxLen; omega) (by omega)
      rw [hrun] at hrun3
      simp only [Result.ok.injEq] at hrun3
      obtain ⟨ev, rfl⟩ := hrun3
      rw [← ev] at ho3
      have hBel : Below w.heap.size w w2 := (below_new w _).trans ⟨hg3.os, hg3.tape, hg3.output, hg3.size, fun k hk => hg3.block k (by simp; omega) (by simp)⟩
      refine ⟨hBel, fun k hk => ?_⟩
      have := (ho3.lt k (by rw [ownBlock_blk]; exact hk)).1
      rw [World.size_alloc] at this
      omega
    · left
      obtain ⟨i0, hi, hz0, hz1, hz2⟩ := info_parts infoI
      have hk := h.new (.cells #[.int .i64 x] 3)
      have hin : (w.alloc (.cells #[.int .i64 x] 3)).cell? ⟨q, n, none⟩ ≠ none ∧ (w.alloc (.cells #[.int .i64 x] 3)).frozen? ⟨q, n, none⟩ = false := by
        rcases hk.2 with ⟨h0, _⟩ | ⟨q', cap2, cur, hv, _, hgg, hnc, hcm, hcsz, _⟩
        · cases h0
        · simp only [Value.slice.injEq, Option.some.injEq, Addr.mk.injEq, true_and, and_true] at hv
          obtain ⟨rfl, rfl⟩ := hv
          refine ⟨?_, by simp [World.frozen?, hgg]⟩
          have : n < cur.size := by omega
          simp [World.cell?, hgg, this]
      have hr2 := run_append_room_cells (P := Try.prog) (w.alloc (.cells #[.int .i64 x] 3)) 38 ty 3 i0 Try.underlying38 hi q 0 n cap ⟨w.heap.size, 0, none⟩ 1 1 (ics [x]) (by rw [hz1]; rfl) (fun j u hj => by
          have hl : j < 1 := (List.getElem?_eq_some_iff.1 hj).1
          obtain rfl : j = 0 := by omega
          rw [cell_one_new w _ _ 0 _ rfl]
          exact hj) (ics_one [x]) (by omega) (fun j hj => by
          have hl : j < 1 := hj
          obtain rfl : j = 0 := by omega
          rw [hz1, Nat.mul_one, Nat.zero_add, Nat.add_zero]
          exact Option.isSome_iff_ne_none.2 hin.1) (fun j hj => by
          have hl : j < 1 := hj
          obtain rfl : j = 0 := by omega
          rw [hz1, Nat.mul_one, Nat.zero_add, Nat.add_zero]
          exact hin.2)
      rw [hrun] at hr2
      simp only [Result.ok.injEq, Value.slice.injEq] at hr2
      exact hr2.1.1
end Go.Proofs.Ytgnclfeicgbjpaa
