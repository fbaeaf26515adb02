/- Rows of rows, of whatever rows. -/
import Derived.Test.YtinicdnpkihbkaaEMt
import Derived.Test.YtinicdnpkihbkaaESe
namespace Go.Proofs.Ytinicdnpkihbkaa
open Go.RowKit

/-- a kind of rows -/
structure RowK (α : Type) where
  P : World → Option Addr → Nat → Nat → α → Prop
  lt : ∀ {w : World} {ao : Option Addr} {n c : Nat} {x : α}, P w ao n c x → ∀ k, blk ao = some k → k < w.heap.size
  keep : ∀ {w w' : World} {ao : Option Addr} {n c : Nat} {x : α}, P w ao n c x → (∀ k, blk ao = some k → w'.heap[k]? = w.heap[k]?) → P w' ao n c x
def rkP : RowK (List Pr) := ⟨PR, fun h => PR.lt h, fun h => PR.keep h⟩
def rkQ : RowK (List Qr) := ⟨QR, fun h => QR.lt h, fun h => QR.keep h⟩
def scs (F : List Sl) : List Value := F.map slv
theorem scs_append (F G : List Sl) : scs (F ++ G) = scs F ++ scs G := by simp [scs]
theorem scs_length (F : List Sl) : (scs F).length = F.length := by simp [scs]
theorem scs_one (F : List Sl) : ∀ u ∈ scs F, u.oneCell' = true := by
  intro u hu
  obtain ⟨z, _, rfl⟩ := List.mem_map.1 hu
  rfl
theorem scs_at (F : List Sl) (t : Nat) (ht : t < F.length) : (scs F)[t]? = some (slv (F.getD t sl0)) := by simp [scs, ht, List.getD]
variable {w w' w2 w0 : World} {α : Type}
/-- a row of slices that the call owns -/
abbrev SO (e : TypeId) (w : World) (ao : Option Addr) (n c : Nat) (F : List Sl) : Prop := w.ownsRow 0 e 1 (.slice ao n c) n (scs F)
variable {e t : TypeId} {ao : Option Addr} {n c : Nat} {F : List Sl} {X : List α} {ρ : RowK α}
theorem SO.len (h : SO e w ao n c F) : F.length = n := by have := h.1; rw [scs_length] at this; omega
theorem SO.lt (h : SO e w ao n c F) (k : Nat) (hk : blk ao = some k) : k < w.heap.size := by
  rcases h.2 with ⟨h0, _⟩ | ⟨q, cap2, cur, hv, hq, hh, _⟩
  · simp only [Value.slice.injEq] at h0
    rw [h0.1] at hk; cases hk
  · simp only [Value.slice.injEq, true_and] at hv
    obtain ⟨rfl, rfl⟩ := hv
    have : q = k := Option.some.inj hk
    subst this
    exact (Array.getElem?_eq_some_iff.1 hh).1
theorem SO.keep (h : SO e w ao n c F) (hk : ∀ k, blk ao = some k → w'.heap[k]? = w.heap[k]?) : SO e w' ao n c F := by
  refine ⟨h.1, ?_⟩
  rcases h.2 with h0 | ⟨q, cap2, cur, hv, hq, hh, x⟩
  · exact Or.inl h0
  · have hv' := hv
    simp only [Value.slice.injEq, true_and] at hv'
    obtain ⟨rfl, rfl⟩ := hv'
    exact Or.inr ⟨q, _, cur, hv, hq, (hk q rfl).trans hh, x⟩
theorem SO.at (h : SO e w ao n c F) (j : Nat) (hj : j < n) : ∃ b, ao = some ⟨b, 0, none⟩ ∧ w.cell? ⟨b, j, none⟩ = some (slv (F.getD j sl0)) ∧ w.frozen? ⟨b, j, none⟩ = false := by
  have hl := h.len
  rcases h.2 with ⟨h0, h00⟩ | ⟨q, cap2, cur, hv, hq, hh, x⟩
  · omega
  · have hv' := hv
    simp only [Value.slice.injEq, true_and] at hv'
    obtain ⟨rfl, rfl⟩ := hv'
    exact ⟨q, rfl, by rw [h.cellAt j (by omega), scs_at F j (by omega)], h.frozenAt j⟩
theorem SO.out {v : Value} (h : w.ownsRow 0 e 1 v n (scs F)) : ∃ ao c, v = .slice ao n c ∧ SO e w ao n c F := by
  rcases h.2 with ⟨h0, h00⟩ | ⟨q, cap2, cur, hv, r⟩
  · subst h0 h00
    exact ⟨none, 0, rfl, h⟩
  · subst hv
    exact ⟨_, _, rfl, h⟩
/-- append of a slice that was laid just before -/
theorem SO.app {s : Sl} (h : SO e w ao n c F) (hinf : (Try.prog.info? e).map (fun i => (i.zero, i.size, i.bytes)) = some (some (.slice none 0 0), 1, 24)) (hu : Try.prog.underlying t = some (.slice e)) (hb : n + 1 ≤ 1000000)
    {ops : Array Oper} {rest : List Oper} {o : Oper} {a : Act} {Qq : Exit → Act → World → Prop} (hgd : o.guard = none) (sl y : Operand) (ho : o.op = .call { callee := .builtin .append, args := #[sl, y], argTypes := #[t, t] })
    (hs : a.eval sl = .slice ao n c) (hy : a.eval y = .slice (some ⟨w.heap.size, 0, none⟩) 1 1)
    (hK : ∀ (bo : Option Addr) (c2 : Nat) (w2 : World), SO e w2 bo (n + 1) c2 (F ++ [s]) → Ap w w2 ao bo → wpList Try.prog ops Qq rest (a.put o.dst (.slice bo (n + 1) c2)) w2) :
    wpList Try.prog ops Qq (o :: rest) a (w.alloc (.cells #[.slice s.a s.n s.c] e)) := by
  obtain ⟨i0, hi, hz0, hz1, hz2⟩ := info_parts hinf
  have e1 : (Value.slice none 0 0).cells.size = 1 := by simp [Value.cells]
  have hk : SO e (w.alloc (.cells #[.slice s.a s.n s.c] e)) ao n c F := h.keep fun k e => Below.heap_alloc w _ k (h.lt k e)
  refine wpList_append_own_at _ hgd sl y t ho 0 e i0 (.slice none 0 0) 1 24 hu hi hz0 hz1 hz2 e1 (by decide) _ n (scs F) hs hk ⟨w.heap.size, 0, none⟩ 1 1 (scs [s]) hy rfl (fun j u hj => ?_) (scs_one [s]) (by unfold maxLen; omega) (by omega) (Nat.zero_le _) ?_
  · have hl : j < 1 := (List.getElem?_eq_some_iff.1 hj).1
    obtain rfl : j = 0 := by omega
    rw [cell_one_new w _ _ 0 _ rfl]
    exact hj
  · intro v' w2 hown hgrow _ hat
    rw [← scs_append] at hown
    obtain ⟨bo, c2, rfl, hP⟩ := SO.out hown
    rw [ownBlock_blk] at hgrow
    rw [ownBlock_blk, ownBlock_blk] at hat
    refine hK bo c2 w2 hP ((Ap.new w _ ao).trans ⟨hgrow, ?_⟩)
    rcases hat with x | x
    · exact Or.inl x
    · exact Or.inr ⟨_, x, Nat.le_refl _⟩
/-- rows of rows, new since w0, each in memory of its own -/
structure RR (ρ : RowK α) (e : TypeId) (d : α) (w0 w : World) (ao : Option Addr) (n c : Nat) (F : List Sl) (X : List α) : Prop where
  out : SO e w ao n c F
  len : X.length = n
  row : ∀ i, i < n → ρ.P w (F.getD i sl0).a (F.getD i sl0).n (F.getD i sl0).c (X.getD i d)
  newo : NewB w0 w ao
  new : ∀ i, i < n → ∀ k, blk (F.getD i sl0).a = some k → w0.heap.size ≤ k
  ne : ∀ i, i < n → ∀ k, blk (F.getD i sl0).a = some k → blk ao ≠ some k
  dis : ∀ i j, i < n → j < n → i ≠ j → ∀ k, blk (F.getD i sl0).a = some k → blk (F.getD j sl0).a ≠ some k
variable {d : α}
theorem RR.below (h : RR ρ e d w0 w ao n c F X) (hb : Below w.heap.size w w2) : RR ρ e d w0 w2 ao n c F X :=
  ⟨h.out.keep fun k hk => hb.block k (h.out.lt k hk), h.len, fun i hi => ρ.keep (h.row i hi) fun k hk => hb.block k (ρ.lt (h.row i hi) k hk), h.newo.below hb, h.new, h.ne, h.dis⟩
theorem RR.pre (h : RR ρ e d w0 w ao n c F X) (hb : Below w'.heap.size w' w0) : RR ρ e d w' w ao n c F X :=
  ⟨h.out, h.len, h.row, NewB.pre hb h.newo, fun i hi k hk => Nat.le_trans hb.size (h.new i hi k hk), h.ne, h.dis⟩
theorem getD_snoc_lt {β : Type} (l : List β) (x z : β) (i : Nat) (h : i < l.length) : (l ++ [x]).getD i z = l.getD i z := by rw [List.getD_eq_getElem?_getD, List.getD_eq_getElem?_getD, List.getElem?_append_left h]
theorem getD_snoc_eq {β : Type} (l : List β) (x z : β) (i : Nat) (h : i = l.length) : (l ++ [x]).getD i z = x := by subst h; simp [List.getD]
/-- a new row is put behind the others -/
theorem RR.push {bo b2 : Option Addr} {m cc c2 : Nat} {x : α} {w3 : World} (h : RR ρ e d w0 w ao n c F X) (r : ρ.P w2 bo m cc x) (nb : NewB w w2 bo) (so : SO e w3 b2 (n + 1) c2 (F ++ [⟨bo, m, cc⟩])) (a : Ap w2 w3 ao b2) : RR ρ e d w0 w3 b2 (n + 1) c2 (F ++ [⟨bo, m, cc⟩]) (X ++ [x]) := by
  have h2 := h.below nb.1
  have hF := h.out.len
  have hX := h.len
  have rne : ∀ k, blk bo = some k → blk ao ≠ some k := fun k hk e => by have := nb.2 k hk; have := h.out.lt k e; omega
  have gF : ∀ i, i < n → (F ++ [(⟨bo, m, cc⟩ : Sl)]).getD i sl0 = F.getD i sl0 := fun i hi => getD_snoc_lt _ _ _ _ (by omega)
  have gN : (F ++ [(⟨bo, m, cc⟩ : Sl)]).getD n sl0 = ⟨bo, m, cc⟩ := getD_snoc_eq _ _ _ _ hF.symm
  have lies : ∀ k, blk b2 = some k → blk ao = some k ∨ w2.heap.size ≤ k := fun k hk => by
    rcases a.lies with e | ⟨j, e, hj⟩
    · left; rw [← e]; exact hk
    · right; rw [e] at hk; have := Option.some.inj hk; omega
  refine ⟨so, by simp [hX], fun i hi => ?_, h2.newo.ap a, fun i hi k hk => ?_, fun i hi k hk e => ?_, fun i j hi hj hij k hk e => ?_⟩
  · by_cases x1 : i < n
    · rw [gF i x1, getD_snoc_lt _ _ _ _ (by omega)]
      exact ρ.keep (h2.row i x1) fun k hk => a.grown.block k (ρ.lt (h2.row i x1) k hk) (fun e => h.ne i x1 k hk e.symm)
    · obtain rfl : i = n := by omega
      rw [gN, getD_snoc_eq _ _ _ _ hX.symm]
      exact ρ.keep r fun k hk => a.grown.block k (ρ.lt r k hk) (fun e => rne k hk e.symm)
  · by_cases x1 : i < n
    · rw [gF i x1] at hk
      exact h.new i x1 k hk
    · obtain rfl : i = n := by omega
      rw [gN] at hk
      have := nb.2 k hk
      have := h.newo.1.size
      omega
  · by_cases x1 : i < n
    · rw [gF i x1] at hk
      rcases lies k e with e | e
      · exact h.ne i x1 k hk e
      · have := ρ.lt (h2.row i x1) k hk; omega
    · obtain rfl : i = n := by omega
      rw [gN] at hk
      rcases lies k e with e | e
      · exact rne k hk e
      · have := ρ.lt r k hk; omega
  · by_cases x1 : i < n
    · rw [gF i x1] at hk
      by_cases x2 : j < n
      · rw [gF j x2] at e
        exact h.dis i j x1 x2 hij k hk e
      · obtain rfl : j = n := by omega
        rw [gN] at e
        have := ρ.lt (h.row i x1) k hk
        have := nb.2 k e
        omega
    · obtain rfl : i = n := by omega
      rw [gN] at hk
      have x2 : j < i := by omega
      rw [gF j x2] at e
      have := ρ.lt (h.row j x2) k e
      have := nb.2 k hk
      omega
theorem RR.nil (ρ : RowK α) (e : TypeId) (d : α) (w : World) : RR ρ e d w w none 0 0 [] [] :=
  ⟨World.ownsRow_nil _ _ _ _, rfl, (fun i hi => by omega), ⟨Below.refl _ _, (fun k hk => by cases hk)⟩, (fun i hi => by omega), (fun i hi => by omega), (fun i j hi => by omega)⟩
theorem RR.lit (ρ : RowK α) (e : TypeId) (d : α) (w : World) : RR ρ e d w (w.alloc (.cells #[] e)) (some ⟨w.heap.size, 0, none⟩) 0 0 [] [] :=
  ⟨⟨by simp [scs], .inr ⟨w.heap.size, 0, _, rfl, Nat.zero_le _, heap_alloc_new w _, Nat.le_refl _, by unfold maxLen; omega, by simp, by simp [scs]⟩⟩, rfl, (fun i hi => by omega), ⟨below_new w _, fun k hk => Nat.le_of_eq (Option.some.inj hk)⟩, (fun i hi => by omega), (fun i hi => by omega), (fun i j hi => by omega)⟩
end Go.Proofs.Ytinicdnpkihbkaa
