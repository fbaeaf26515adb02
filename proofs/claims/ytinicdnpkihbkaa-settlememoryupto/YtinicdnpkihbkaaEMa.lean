/- Rows of numbers that are marked and grow, and a row beside them. -/
import Derived.Test.YtinicdnpkihbkaaERs
import Derived.Test.YtinicdnpkihbkaaEIr
namespace Go.Proofs.Ytinicdnpkihbkaa
open Go.RowKit
variable {w w1 w2 w3 wr : World} {ao lo : Option Addr} {n c m lc : Nat} {F : List Sl} {X : List (List Int)} {Z : List Int}

def rkI : RowK (List Int) := ⟨IR, fun h => IR.lt h, fun h => IR.keep h⟩
theorem IR.put (h : IR wr lo m lc Z) (k : Nat) (hk : k < m) (x : Int) : ∃ b, lo = some ⟨b, 0, none⟩ ∧ wr.cell? ⟨b, k, none⟩ = some (.int .i64 (Z.getD k 0)) ∧ wr.frozen? ⟨b, k, none⟩ = false ∧ IR (wr.setCell ⟨b, k, none⟩ (.int .i64 x)) lo m lc (Z.set k x) ∧ Ap wr (wr.setCell ⟨b, k, none⟩ (.int .i64 x)) lo lo := by
  have hl := h.len
  rcases h.2 with ⟨h0, h00⟩ | ⟨q, cap2, cur, hv, hq, hh, y⟩
  · omega
  · have hv' := hv
    simp only [Value.slice.injEq, true_and] at hv'
    obtain ⟨rfl, rfl⟩ := hv'
    obtain ⟨h1, g1⟩ := World.ownsRow.stored (show wr.ownsRow 0 3 1 (.slice (some ⟨q, 0, none⟩) m lc) m (ics Z) from h) k (.int .i64 x)
    have e : (ics Z).set k (.int .i64 x) = ics (Z.set k x) := by simp [ics]
    rw [e] at h1
    exact ⟨q, rfl, by rw [World.ownsRow.cellAt (show wr.ownsRow 0 3 1 (.slice (some ⟨q, 0, none⟩) m lc) m (ics Z) from h) k (by omega), ics_at Z k (by omega)], World.ownsRow.frozenAt (show wr.ownsRow 0 3 1 (.slice (some ⟨q, 0, none⟩) m lc) m (ics Z) from h) k, h1, g1, Or.inl rfl⟩
abbrev LN (w w1 w2 wr : World) (ao : Option Addr) (n c : Nat) (F : List Sl) (X : List (List Int)) : Prop := LR rkI 33 [] w w1 w2 wr ao n c F X
structure LI (w w1 w2 wr : World) (ao : Option Addr) (n c : Nat) (F : List Sl) (X : List (List Int)) (lo : Option Addr) (m lc : Nat) (Z : List Int) : Prop where
  l : LN w w1 w2 wr ao n c F X
  z : IR wr lo m lc Z
  zr : ∀ i, i < n → ∀ k, blk (F.getD i sl0).a = some k → blk lo ≠ some k
  zo : ∀ k, blk ao = some k → blk lo ≠ some k
  zn : ∀ k, blk lo = some k → w2.heap.size ≤ k
  ww : w.heap.size ≤ w2.heap.size
theorem LI.begin (h : LN w w1 w2 wr ao n c F X) (ww : w.heap.size ≤ w2.heap.size) : LI w w1 w2 (wr.alloc (.cells #[] 3)) ao n c F X (some ⟨wr.heap.size, 0, none⟩) 0 0 [] :=
  ⟨h.below (below_new wr _), ⟨by simp [ics], .inr ⟨wr.heap.size, 0, _, rfl, Nat.zero_le _, heap_alloc_new wr _, Nat.le_refl _, by unfold maxLen; omega, by simp, by simp [ics]⟩⟩,
    fun i hi k hk e => by have := IR.lt (h.r.row i hi) k hk; have := Option.some.inj e; simp only at *; omega,
    fun k hk e => by have := h.r.out.lt k hk; have := Option.some.inj e; simp only at *; omega,
    fun k hk => by have := Option.some.inj hk; have := h.sz; simp only at *; omega, ww⟩
theorem LI.set {x : List Int} (h : LI w w1 w2 wr ao n c F X lo m lc Z) (i : Nat) (hi : i < n) (r : IR w3 (F.getD i sl0).a (F.getD i sl0).n (F.getD i sl0).c x) (a : Ap wr w3 (F.getD i sl0).a (F.getD i sl0).a) : LI w w1 w2 w3 ao n c F (X.set i x) lo m lc Z :=
  ⟨LR.set h.l i hi r a, h.z.keep fun k hk => a.grown.block k (h.z.lt k hk) (fun e => h.zr i hi k e.symm hk), h.zr, h.zo, h.zn, h.ww⟩
theorem LI.grow {b : Nat} {x : List Int} {bo : Option Addr} {q c2 : Nat} (h : LI w w1 w2 wr (some ⟨b, 0, none⟩) n c F X lo m lc Z) (i : Nat) (hi : i < n) (r : IR w3 bo q c2 x) (a : Ap wr w3 (F.getD i sl0).a bo) : LI w w1 w2 (w3.setCell ⟨b, i, none⟩ (.slice bo q c2)) (some ⟨b, 0, none⟩) n c (F.set i ⟨bo, q, c2⟩) (X.set i x) lo m lc Z := by
  have hF := h.l.r.out.len
  refine ⟨LR.grow (ρ := rkI) h.l i hi r a, h.z.keep fun k hk => ?_, fun j hj k hk e => ?_, h.zo, h.zn, h.ww⟩
  · rw [heap_setCell_other w3 ⟨b, i, none⟩ k _ (fun e => h.zo b rfl (by rw [hk, e]))]
    exact a.grown.block k (h.z.lt k hk) (fun e => h.zr i hi k e.symm hk)
  · rw [getD_set _ _ _ _ _ (by omega)] at hk
    by_cases x1 : j = i
    · rw [if_pos x1] at hk
      rcases a.lies with y | ⟨j2, y, hj2⟩
      · exact h.zr i hi k (by rw [← y]; exact hk) e
      · have hk2 : blk bo = some k := hk
        rw [y] at hk2
        have := Option.some.inj hk2
        have := h.z.lt k e
        omega
    · rw [if_neg x1] at hk
      exact h.zr j hj k hk e
/-- the row beside them grows -/
theorem LI.long {l2 : Option Addr} {q c2 : Nat} {Z2 : List Int} (h : LI w w1 w2 wr ao n c F X lo m lc Z) (r : IR w3 l2 q c2 Z2) (a : Ap wr w3 lo l2) : LI w w1 w2 w3 ao n c F X l2 q c2 Z2 := by
  have st : ∀ k, k < wr.heap.size → blk lo ≠ some k → w3.heap[k]? = wr.heap[k]? := fun k hk hne => a.grown.block k hk (fun e => hne e.symm)
  have lies : ∀ k, blk l2 = some k → blk lo = some k ∨ wr.heap.size ≤ k := fun k hk => by
    rcases a.lies with e | ⟨j, e, hj⟩
    · left; rw [← e]; exact hk
    · right; rw [e] at hk; have := Option.some.inj hk; omega
  have nlo : ∀ k, k < w2.heap.size → blk lo ≠ some k := fun k hk e => by have := h.zn k e; omega
  refine ⟨⟨⟨h.l.r.out.keep fun k hk => st k (h.l.r.out.lt k hk) (h.zo k hk), h.l.r.len, fun i hi => IR.keep (h.l.r.row i hi) fun k hk => st k (IR.lt (h.l.r.row i hi) k hk) (h.zr i hi k hk), ⟨h.l.r.newo.1.trans ⟨a.grown.os, a.grown.tape, a.grown.output, a.grown.size, fun k hk => st k (Nat.lt_of_lt_of_le hk h.l.r.newo.1.size) (nlo k (Nat.lt_of_lt_of_le hk h.ww))⟩, h.l.r.newo.2⟩, h.l.r.new, h.l.r.ne, h.l.r.dis⟩, h.l.sep, h.l.sepo, fun k h1 h2 => (st k (Nat.lt_of_lt_of_le h2 h.l.sz) (nlo k h2)).trans (h.l.stay k h1 h2), Nat.le_trans h.l.sz a.grown.size⟩, r, fun i hi k hk e => ?_, fun k hk e => ?_, fun k hk => ?_, h.ww⟩
  · rcases lies k e with e | e
    · exact h.zr i hi k hk e
    · have := IR.lt (h.l.r.row i hi) k hk; omega
  · rcases lies k e with e | e
    · exact h.zo k hk e
    · have := h.l.r.out.lt k hk; omega
  · rcases lies k hk with e | e
    · exact h.zn k e
    · have := h.l.sz; omega
theorem LN.cell (h : LN w w1 w2 wr ao n c F X) (i : Nat) (hi : i < n) : ∃ b fa fn fc, ao = some ⟨b, 0, none⟩ ∧ F.getD i sl0 = ⟨fa, fn, fc⟩ ∧ wr.cell? ⟨b, i, none⟩ = some (.slice fa fn fc) ∧ IR wr fa fn fc (X.getD i []) := by
  obtain ⟨b, hb, hc, hf⟩ := h.r.out.at i hi
  exact ⟨b, _, _, _, hb, rfl, hc, h.r.row i hi⟩
/-! ### what the marks say -/
def mkA (k j : Nat) : Int := 1000 * (k : Int) + (j : Int)
def mkB (k j : Nat) : Int := -1 - 1000 * (k : Int) - (j : Int)
structure M1 (len0 : Nat → Nat) (X : List (List Int)) (n k i : Nat) : Prop where
  len : ∀ q, q < n → (X.getD q []).length = len0 q
  row : ∀ q, q < k → q < n → ∀ j, j < len0 q → (X.getD q []).getD j 0 = mkA q j
  now : ∀ j, j < i → (X.getD k []).getD j 0 = mkA k j
variable {len0 : Nat → Nat} {k i : Nat}
theorem M1.next (h : M1 len0 X n k i) (hk : k < n) (hX : X.length = n) (hi : i < len0 k) : M1 len0 (X.set k ((X.getD k []).set i (mkA k i))) n k (i + 1) := by
  have hl := h.len k hk
  refine ⟨fun q hq => ?_, fun q hq hc j hj => ?_, fun j hj => ?_⟩
  · rw [getD_set _ _ _ _ _ (by omega)]
    split
    · rename_i e
      subst e
      rw [List.length_set]; exact hl
    · exact h.len q hq
  · rw [getD_set _ _ _ _ _ (by omega), if_neg (by omega)]
    exact h.row q hq hc j hj
  · rw [getD_set _ _ _ _ _ (by omega), if_pos rfl, getD_set _ _ _ _ _ (by omega)]
    by_cases e : j = i
    · rw [if_pos e, e]
    · rw [if_neg e]
      exact h.now j (by omega)
theorem M1.turn (h : M1 len0 X n k (len0 k)) : M1 len0 X n (k + 1) 0 :=
  ⟨h.len, fun q hq hc j hj => by
    by_cases e : q = k
    · subst e; exact h.now j hj
    · exact h.row q (by omega) hc j hj, fun j hj => by omega⟩
structure M2 (len0 : Nat → Nat) (X : List (List Int)) (n k i : Nat) : Prop where
  keep : ∀ q, q < n → len0 q ≤ (X.getD q []).length ∧ ∀ j, j < len0 q → (X.getD q []).getD j 0 = mkA q j
  old : ∀ q, q < k → q < n → len0 q + 16 ≤ (X.getD q []).length ∧ ∀ j, j < 16 → (X.getD q []).getD (len0 q + j) 0 = mkB q j
  at' : k < n → (X.getD k []).length = len0 k + i
  now : k < n → ∀ j, j < i → j < 16 → (X.getD k []).getD (len0 k + j) 0 = mkB k j
  hi : ∀ q, k < q → q < n → (X.getD q []).length = len0 q
theorem M1.m2 (h : M1 len0 X n n 0) : M2 len0 X n 0 0 :=
  ⟨fun q hq => ⟨by rw [h.len q hq]; omega, h.row q hq hq⟩, (fun q hq => by omega), fun hk => by rw [h.len 0 hk]; rfl, (fun _ j hj => by omega), fun q _ hq => h.len q hq⟩
theorem M2.next (h : M2 len0 X n k i) (hk : k < n) (hX : X.length = n) (y : Int) (hy : i < 16 → y = mkB k i) : M2 len0 (X.set k (X.getD k [] ++ [y])) n k (i + 1) := by
  have hl := h.at' hk
  refine ⟨fun q hq => ?_, fun q hq hn => ?_, fun _ => ?_, fun _ j hj h16 => ?_, fun q h1 h2 => ?_⟩
  · rw [getD_set _ _ _ _ _ (by omega)]
    by_cases e : q = k
    · subst e
      rw [if_pos rfl]
      refine ⟨by rw [List.length_append]; omega, fun j hj => ?_⟩
      rw [getD_snoc_lt _ _ _ _ (by omega)]
      exact (h.keep q hq).2 j hj
    · rw [if_neg e]
      exact h.keep q hq
  · rw [getD_set _ _ _ _ _ (by omega), if_neg (by omega)]
    exact h.old q hq hn
  · rw [getD_set _ _ _ _ _ (by omega), if_pos rfl, List.length_append, hl]
    rfl
  · rw [getD_set _ _ _ _ _ (by omega), if_pos rfl]
    by_cases e : j = i
    · subst e
      rw [getD_snoc_eq _ _ _ _ hl.symm]
      exact hy h16
    · rw [getD_snoc_lt _ _ _ _ (by omega)]
      exact h.now hk j (by omega) h16
  · rw [getD_set _ _ _ _ _ (by omega), if_neg (by omega)]
    exact h.hi q h1 h2
theorem M2.turn (h : M2 len0 X n k i) (hi : 16 ≤ i) : M2 len0 X n (k + 1) 0 :=
  ⟨h.keep, fun q hq hn => by
    by_cases e : q = k
    · subst e
      exact ⟨by rw [h.at' hn]; omega, fun j hj => h.now hn j (by omega) hj⟩
    · exact h.old q (by omega) hn, fun hk => by rw [h.hi (k + 1) (by omega) hk]; rfl, (fun _ j hj => by omega), fun q h1 h2 => h.hi q (by omega) h2⟩
end Go.Proofs.Ytinicdnpkihbkaa
