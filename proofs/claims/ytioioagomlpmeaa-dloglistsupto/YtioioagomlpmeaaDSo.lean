/- Rows of slices. -/
import Derived.Test.YtioioagomlpmeaaDRg
namespace Go.Proofs.Ytioioagomlpmeaa
open Go.RowKit
structure Sl where
  a : Option Addr
  n : Nat
  c : Nat
def sl0 : Sl := ⟨none, 0, 0⟩
def slv (s : Sl) : Value := .slice s.a s.n s.c
def scs (F : List Sl) : List Value := F.map slv
theorem scs_append (F G : List Sl) : scs (F ++ G) = scs F ++ scs G := by simp [scs]
theorem scs_length (F : List Sl) : (scs F).length = F.length := by simp [scs]
theorem scs_one (F : List Sl) : ∀ u ∈ scs F, u.oneCell' = true := by
  intro u hu
  obtain ⟨z, _, rfl⟩ := List.mem_map.1 hu
  rfl
theorem scs_at (F : List Sl) (t : Nat) (ht : t < F.length) : (scs F)[t]? = some (slv (F.getD t sl0)) := by simp [scs, ht, List.getD]
variable {w w' w2 w0 : World}
/-- a row of slices that the call owns -/
abbrev SO (e : TypeId) (w : World) (ao : Option Addr) (n c : Nat) (F : List Sl) : Prop := w.ownsRow 0 e 1 (.slice ao n c) n (scs F)
variable {e t : TypeId} {ao : Option Addr} {n c : Nat} {F : List Sl}
theorem SO.len (h : SO e w ao n c F) : F.length = n := by have := h.1; rw [scs_length] at this; omega
theorem SO.lt (h : SO e w ao n c F) (k : Nat) (hk : blk ao = some k) : k < w.heap.size := by
  rcases h.2 with ⟨h0, _⟩ | ⟨q, cap2, cur, hv, hq, hh, _⟩
  · simp only [Value.slice.injEq] at h0
    rw [h0.1] at hk; cases hk
  · simp only [Value.slice.injEq, true_and] at hv
    obtain ⟨rfl, rfl⟩ := hv
    have : q = k := Option.some.inj hk
    subst this
    exact (Array.getElem?_eq_some_iff.1 hh).1
theorem SO.keep (h : SO e w ao n c F) (hk : ∀ k, blk ao = some k → w'.heap[k]? = w.heap[k]?) : SO e w' ao n c F := by
  refine ⟨h.1, ?_⟩
  rcases h.2 with h0 | ⟨q, cap2, cur, hv, hq, hh, x⟩
  · exact Or.inl h0
  · have hv' := hv
    simp only [Value.slice.injEq, true_and] at hv'
    obtain ⟨rfl, rfl⟩ := hv'
    exact Or.inr ⟨q, _, cur, hv, hq, (hk q rfl).trans hh, x⟩
theorem SO.at (h : SO e w ao n c F) (j : Nat) (hj : j < n) : ∃ b, ao = some ⟨b, 0, none⟩ ∧ w.cell? ⟨b, j, none⟩ = some (slv (F.getD j sl0)) ∧ w.frozen? ⟨b, j, none⟩ = false := by
  have hl := h.len
  rcases h.2 with ⟨h0, h00⟩ | ⟨q, cap2, cur, hv, hq, hh, x⟩
  · omega
  · have hv' := hv
    simp only [Value.slice.injEq, true_and] at hv'
    obtain ⟨rfl, rfl⟩ := hv'
    exact ⟨q, rfl, by rw [h.cellAt j (by omega), scs_at F j (by omega)], h.frozenAt j⟩
theorem SO.out {v : Value} (h : w.ownsRow 0 e 1 v n (scs F)) : ∃ ao c, v = .slice ao n c ∧ SO e w ao n c F := by
  rcases h.2 with ⟨h0, h00⟩ | ⟨q, cap2, cur, hv, r⟩
  · subst h0 h00
    exact ⟨none, 0, rfl, h⟩
  · subst hv
    exact ⟨_, _, rfl, h⟩
/-- append of a slice that was laid just before -/
theorem SO.app {s : Sl} (h : SO e w ao n c F) (hinf : (Try.prog.info? e).map (fun i => (i.zero, i.size, i.bytes)) = some (some (.slice none 0 0), 1, 24)) (hu : Try.prog.underlying t = some (.slice e)) (hb : n + 1 ≤ 5864062014800)
    {ops : Array Oper} {rest : List Oper} {o : Oper} {a : Act} {Qq : Exit → Act → World → Prop} (hgd : o.guard = none) (sl y : Operand) (ho : o.op = .call { callee := .builtin .append, args := #[sl, y], argTypes := #[t, t] })
    (hs : a.eval sl = .slice ao n c) (hy : a.eval y = .slice (some ⟨w.heap.size, 0, none⟩) 1 1)
    (hK : ∀ (bo : Option Addr) (c2 : Nat) (w2 : World), SO e w2 bo (n + 1) c2 (F ++ [s]) → Ap w w2 ao bo → wpList Try.prog ops Qq rest (a.put o.dst (.slice bo (n + 1) c2)) w2) :
    wpList Try.prog ops Qq (o :: rest) a (w.alloc (.cells #[.slice s.a s.n s.c] e)) := by
  obtain ⟨i0, hi, hz0, hz1, hz2⟩ := info_parts hinf
  have e1 : (Value.slice none 0 0).cells.size = 1 := by simp [Value.cells]
  have hk : SO e (w.alloc (.cells #[.slice s.a s.n s.c] e)) ao n c F := h.keep fun k e => Below.heap_alloc w _ k (h.lt k e)
  refine wpList_append_own_at _ hgd sl y t ho 0 e i0 (.slice none 0 0) 1 24 hu hi hz0 hz1 hz2 e1 (by decide) _ n (scs F) hs hk ⟨w.heap.size, 0, none⟩ 1 1 (scs [s]) hy rfl (fun j u hj => ?_) (scs_one [s]) (by unfold maxLen; omega) (by omega) (Nat.zero_le _) ?_
  · have hl : j < 1 := (List.getElem?_eq_some_iff.1 hj).1
    obtain rfl : j = 0 := by omega
    rw [cell_one_new w _ _ 0 _ rfl]
    exact hj
  · intro v' w2 hown hgrow _ hat
    rw [← scs_append] at hown
    obtain ⟨bo, c2, rfl, hP⟩ := SO.out hown
    rw [ownBlock_blk] at hgrow
    rw [ownBlock_blk, ownBlock_blk] at hat
    refine hK bo c2 w2 hP ((Ap.new w _ ao).trans ⟨hgrow, ?_⟩)
    rcases hat with x | x
    · exact Or.inl x
    · exact Or.inr ⟨_, x, Nat.le_refl _⟩
theorem getD_snoc_lt {β : Type} (l : List β) (x z : β) (i : Nat) (h : i < l.length) : (l ++ [x]).getD i z = l.getD i z := by rw [List.getD_eq_getElem?_getD, List.getD_eq_getElem?_getD, List.getElem?_append_left h]
theorem getD_snoc_eq {β : Type} (l : List β) (x z : β) (i : Nat) (h : i = l.length) : (l ++ [x]).getD i z = x := by subst h; simp [List.getD]

theorem infoS : (Try.prog.info? 34).map (fun i => (i.zero, i.size, i.bytes)) = some (some (.slice none 0 0), 1, 24) := by kernel_rfl
theorem getD_set {β : Type} (l : List β) (i j : Nat) (x z : β) (h : i < l.length) : (l.set i x).getD j z = if j = i then x else l.getD j z := by
  rw [List.getD_eq_getElem?_getD, List.getD_eq_getElem?_getD, List.getElem?_set]
  by_cases e : j = i
  · subst e; simp [h]
  · rw [if_neg (fun x => e x.symm), if_neg e]
/-- a slice is stored into the row -/
theorem SO.put (h : SO e w ao n c F) (j : Nat) (hj : j < n) (s : Sl) : ∃ b, ao = some ⟨b, 0, none⟩ ∧ w.cell? ⟨b, j, none⟩ = some (slv (F.getD j sl0)) ∧ w.frozen? ⟨b, j, none⟩ = false ∧ SO e (w.setCell ⟨b, j, none⟩ (slv s)) ao n c (F.set j s) ∧ Ap w (w.setCell ⟨b, j, none⟩ (slv s)) ao ao := by
  obtain ⟨b, rfl, hc, hf⟩ := h.at j hj
  obtain ⟨h1, g1⟩ := World.ownsRow.stored (show w.ownsRow 0 e 1 (.slice (some ⟨b, 0, none⟩) n c) n (scs F) from h) j (slv s)
  have ee : (scs F).set j (slv s) = scs (F.set j s) := by simp [scs]
  rw [ee] at h1
  exact ⟨b, rfl, hc, hf, h1, g1, Or.inl rfl⟩
/-- a number is stored into a row -/
theorem IR.put {lo : Option Addr} {m lc : Nat} {Z : List Int} (h : IR w lo m lc Z) (k : Nat) (hk : k < m) (x : Int) : ∃ b, lo = some ⟨b, 0, none⟩ ∧ w.cell? ⟨b, k, none⟩ = some (.int .i64 (Z.getD k 0)) ∧ w.frozen? ⟨b, k, none⟩ = false ∧ IR (w.setCell ⟨b, k, none⟩ (.int .i64 x)) lo m lc (Z.set k x) ∧ Ap w (w.setCell ⟨b, k, none⟩ (.int .i64 x)) lo lo := by
  have hl := h.len
  rcases h.2 with ⟨h0, h00⟩ | ⟨q, cap2, cur, hv, hq, hh, y⟩
  · omega
  · have hv' := hv
    simp only [Value.slice.injEq, true_and] at hv'
    obtain ⟨rfl, rfl⟩ := hv'
    obtain ⟨h1, g1⟩ := World.ownsRow.stored (show w.ownsRow 0 3 1 (.slice (some ⟨q, 0, none⟩) m lc) m (ics Z) from h) k (.int .i64 x)
    have e : (ics Z).set k (.int .i64 x) = ics (Z.set k x) := by simp [ics]
    rw [e] at h1
    exact ⟨q, rfl, by rw [World.ownsRow.cellAt (show w.ownsRow 0 3 1 (.slice (some ⟨q, 0, none⟩) m lc) m (ics Z) from h) k (by omega), ics_at Z k (by omega)], World.ownsRow.frozenAt (show w.ownsRow 0 3 1 (.slice (some ⟨q, 0, none⟩) m lc) m (ics Z) from h) k, h1, g1, Or.inl rfl⟩
end Go.Proofs.Ytioioagomlpmeaa
