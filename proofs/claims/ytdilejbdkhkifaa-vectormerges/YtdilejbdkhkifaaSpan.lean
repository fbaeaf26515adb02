/- Spans as a row that the call itself grows, in a region that draws its order. -/
import Derived.Test.YtdilejbdkhkifaaPut
import Derived.Deep.RegionLaw
namespace Go.Proofs.Ytdilejbdkhkifaa
open Go.RowKit

/-- a span's cells -/
def spC (s : Int × Int × Int) : List Value := [.int .i64 s.1, .int .i64 s.2.1, .int .i64 s.2.2]
def spCs (l : List (Int × Int × Int)) : List Value := (l.map spC).flatten
theorem spCs_length (l : List (Int × Int × Int)) : (spCs l).length = l.length * 3 := by
  induction l with
  | nil => rfl
  | cons s l ih => simp [spCs] at ih ⊢; rw [ih]; simp [spC]; omega
theorem spCs_append (l r : List (Int × Int × Int)) : spCs (l ++ r) = spCs l ++ spCs r := by simp [spCs]
theorem spCs_one (s : Int × Int × Int) : spCs [s] = spC s := by simp [spCs]
theorem spCs_at (l : List (Int × Int × Int)) (t j : Nat) (ht : t < l.length) (hj : j < 3) : (spCs l)[t * 3 + j]? = (spC (l.getD t (0, 0, 0)))[j]? := by
  induction l generalizing t with
  | nil => simp at ht
  | cons s l ih =>
    cases t with
    | zero =>
      have : (spCs (s :: l)) = spC s ++ spCs l := by simp [spCs]
      rw [this, List.getElem?_append_left (by simp [spC]; omega)]; simp [List.getD]
    | succ t =>
      have : (spCs (s :: l)) = spC s ++ spCs l := by simp [spCs]
      rw [this, List.getElem?_append_right (by simp [spC]; omega)]
      have h := ih t (by simpa using ht)
      have e : (t + 1) * 3 + j - (spC s).length = t * 3 + j := by simp [spC]; omega
      rw [e, h]; simp [List.getD]
theorem info53 : (Try.prog.info? 53).map (fun i => (i.zero, i.size, i.bytes)) = some (some (.agg #[.int .i64 0, .int .i64 0, .int .i64 0]), 3, 24) := by kernel_rfl

structure Own3 (B0 B : Nat) (w w' : World) (ao : Option Addr) (cap : Nat) (acc : List (Int × Int × Int)) : Prop where
  own : w'.ownsRow B 53 3 (.slice ao acc.length cap) acc.length (spCs acc)
  below : Below B0 w w'
  hB : B ≤ w'.heap.size
  hB0 : B0 ≤ B
theorem Own3.nil {B0 B : Nat} {w w' : World} (hb : Below B0 w w') (hB : B ≤ w'.heap.size) (h0 : B0 ≤ B) : Own3 B0 B w w' none 0 [] :=
  ⟨World.ownsRow_nil _ _ _ _, hb, hB, h0⟩
theorem Own3.drew {B0 B : Nat} {w w' : World} {ao : Option Addr} {cap : Nat} {acc : List (Int × Int × Int)} (O : Own3 B0 B w w' ao cap acc) : Own3 B0 B w w'.drew ao cap acc :=
  ⟨O.own, O.below.trans ⟨rfl, rfl, rfl, Nat.le_refl _, fun _ _ => rfl⟩, O.hB, O.hB0⟩
theorem Own3.drewN {B0 B : Nat} {w w' : World} {ao : Option Addr} {cap : Nat} {acc : List (Int × Int × Int)} (O : Own3 B0 B w w' ao cap acc) (n : Nat) : Own3 B0 B w (w'.drewN n) ao cap acc :=
  ⟨O.own, O.below.trans ⟨rfl, rfl, rfl, Nat.le_refl _, fun _ _ => rfl⟩, O.hB, O.hB0⟩
theorem Own3.step {B0 B : Nat} {w w' : World} {ao : Option Addr} {cap : Nat} {acc : List (Int × Int × Int)} (O : Own3 B0 B w w' ao cap acc) (r lo hi : Int) (hlen : acc.length ≤ 100000)
    {ops : Array Oper} {o : Oper} {a : Act} {K : Act → World → Prop} {Q : Exit → Act → World → Prop} {E : Prop} (hgd : o.guard = none) (s x : Operand) (ho : o.op = .call { callee := .builtin .append, args := #[s, x], argTypes := #[49, 49] })
    (n : Nat) (hn : acc.length = n) (hs : a.eval s = .slice ao n cap) (g0 : Nat) (hg0 : w'.heap.size = g0) (hx : a.eval x = .slice (some ⟨g0, 0, none⟩) 1 1)
    (hK : ∀ (g cap2 : Nat) (w2 : World), Own3 B0 B w w2 (some ⟨g, 0, none⟩) cap2 (acc ++ [(r, lo, hi)]) → (∀ k, k < B → w2.heap[k]? = w'.heap[k]?) → K (a.put o.dst (.slice (some ⟨g, 0, none⟩) (n + 1) cap2)) w2) :
    if Region.wanted o (yielded ops a.tmps) = true then Oper.wp Try.prog o a (w'.alloc (.cells #[.int .i64 r, .int .i64 lo, .int .i64 hi] 53)).drew K Q else E := by
  have hw : Region.wanted o (yielded ops a.tmps) = true := by simp [Region.wanted, hgd]
  rw [if_pos hw]
  subst hn hg0
  obtain ⟨i0, hi0, hz0, hz1, hz2⟩ := info_parts info53
  have hB := O.hB
  have hB0 := O.hB0
  have hown0 : (w'.alloc (.cells #[.int .i64 r, .int .i64 lo, .int .i64 hi] 53)).drew.ownsRow B 53 3 (.slice ao acc.length cap) acc.length (spCs acc) := O.own.alloc _
  obtain ⟨v', w2, hrun, hown, hgrow, _⟩ := run_append_own (P := Try.prog) (w'.alloc (.cells #[.int .i64 r, .int .i64 lo, .int .i64 hi] 53)).drew B 49 o.type 53 i0 (.agg #[.int .i64 0, .int .i64 0, .int .i64 0]) 3 24 Try.underlying49 hi0 hz0 hz1 hz2 rfl (by decide) (.slice ao acc.length cap) acc.length (spCs acc) hown0 ⟨w'.heap.size, 0, none⟩ 1 1 (spC (r, lo, hi)) rfl
    (fun j u hj => by
      rw [Addr.add_lit, Nat.zero_add]
      show (w'.alloc (.cells #[.int .i64 r, .int .i64 lo, .int .i64 hi] 53)).cell? _ = _
      rw [World.cell?_alloc_new]
      simpa [spC] using hj)
    (fun u hu => by simp [spC] at hu; rcases hu with rfl | rfl | rfl <;> rfl) (by unfold maxLen; omega) (by omega) (by show B ≤ (w'.alloc _).heap.size; simp; omega)
  unfold Oper.wp
  simp [execOp, ho, resolve, invoke, builtin, hs, hx, hrun, Result.andThen]
  rcases hown.2 with ⟨h0, h00⟩ | ⟨g, cap2, cur, hv, hbg, hgg, hnc, hcm, hcsz, htake⟩
  · omega
  · subst hv
    have hrow : ∀ k, (Value.slice ao acc.length cap).ownBlock = some k → B ≤ k := fun k hk => (O.own.lt k hk).1
    have hsz := hgrow.size
    have hsz' : (w'.alloc (.cells #[.int .i64 r, .int .i64 lo, .int .i64 hi] 53)).drew.heap.size = w'.heap.size + 1 := by show (w'.alloc _).heap.size = _; simp
    have hb1 : Below B0 w (w'.alloc (.cells #[.int .i64 r, .int .i64 lo, .int .i64 hi] 53)).drew := (O.below.alloc (by omega) _).trans ⟨rfl, rfl, rfl, Nat.le_refl _, fun _ _ => rfl⟩
    refine hK g cap2 w2 ⟨?_, hb1.grown hgrow (by rw [hsz']; omega) (fun k hk => by have := hrow k hk; omega), by omega, hB0⟩ (fun k hk => ?_)
    · rw [List.length_append, spCs_append, spCs_one]; exact hown
    · rw [hgrow.block k (by rw [hsz']; omega) (fun e => by have := hrow k e.symm; omega)]
      exact Below.heap_alloc _ _ _ (by omega)
/-- a list of spans -/
def SSrc (w : World) (ao : Option Addr) (m c : Nat) (L : List (Int × Int × Int)) : Prop :=
  L.length = m ∧ (ao = none → m = 0 ∧ c = 0) ∧ ∀ ad, ao = some ad → ∀ t, t < m → ∀ j, j < 3 → w.cell? (ad.add (t * 3 + j)) = (spC (L.getD t (0, 0, 0)))[j]?
theorem SSrc.below {w w' : World} {ao : Option Addr} {m c : Nat} {L : List (Int × Int × Int)} (h : SSrc w ao m c L) (hb : Below w.heap.size w w') : SSrc w' ao m c L :=
  ⟨h.1, h.2.1, fun ad ha t ht j hj => by
    have e := h.2.2 ad ha t ht j hj
    have hs : ∃ v, (spC (L.getD t (0, 0, 0)))[j]? = some v := by match j, hj with
      | 0, _ => exact ⟨_, rfl⟩
      | 1, _ => exact ⟨_, rfl⟩
      | 2, _ => exact ⟨_, rfl⟩
    obtain ⟨v, hv⟩ := hs
    rw [hv] at e ⊢
    exact (hb.cell (World.block_lt_of_cell? w _ e)).trans e⟩
theorem Own3.src {B0 B : Nat} {w w' : World} {ao : Option Addr} {cap : Nat} {acc : List (Int × Int × Int)} (O : Own3 B0 B w w' ao cap acc) : SSrc w' ao acc.length cap acc := by
  rcases O.own.2 with ⟨h0, h00⟩ | ⟨g, cap2, cur, hv, hbg, hgg, hnc, hcm, hcsz, htake⟩
  · simp only [Value.slice.injEq] at h0
    obtain ⟨rfl, e0, rfl⟩ := h0
    exact ⟨rfl, fun _ => ⟨h00, rfl⟩, fun ad h => by cases h⟩
  · simp only [Value.slice.injEq, true_and] at hv
    obtain ⟨rfl, rfl⟩ := hv
    refine ⟨rfl, fun h => (by cases h), fun ad h t ht j hj => ?_⟩
    obtain rfl := Option.some.inj h
    rw [Addr.add_lit, Nat.zero_add, O.own.cellAt (t * 3 + j) (by omega), spCs_at _ t j ht hj]
end Go.Proofs.Ytdilejbdkhkifaa
