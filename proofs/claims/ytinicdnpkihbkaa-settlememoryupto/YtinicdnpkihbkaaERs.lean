/- Rows of rows: a row written over, a row that grows; beside them memory that stays. -/
import Derived.Test.YtinicdnpkihbkaaERo
namespace Go.Proofs.Ytinicdnpkihbkaa
open Go.RowKit
variable {w w' w1 w2 w0 w3 : World} {α : Type} {e t : TypeId} {ao : Option Addr} {n c : Nat} {F : List Sl} {X : List α} {ρ : RowK α} {d : α}

theorem getD_set {β : Type} (l : List β) (i j : Nat) (x z : β) (h : i < l.length) : (l.set i x).getD j z = if j = i then x else l.getD j z := by
  by_cases e : j = i
  · subst e
    rw [if_pos rfl]
    simp [List.getD, h]
  · rw [if_neg e, List.getD_eq_getElem?_getD, List.getD_eq_getElem?_getD, List.getElem?_set_ne (fun y => e y.symm)]
theorem scs_set (F : List Sl) (i : Nat) (s : Sl) : (scs F).set i (slv s) = scs (F.set i s) := by simp [scs]
/-- the row i is written over where it lies -/
theorem RR.set {x : α} (h : RR ρ e d w0 w ao n c F X) (i : Nat) (hi : i < n) (r : ρ.P w2 (F.getD i sl0).a (F.getD i sl0).n (F.getD i sl0).c x) (a : Ap w w2 (F.getD i sl0).a (F.getD i sl0).a) : RR ρ e d w0 w2 ao n c F (X.set i x) := by
  have hX := h.len
  have hbel : Below w0.heap.size w0 w2 := h.newo.1.trans ⟨a.grown.os, a.grown.tape, a.grown.output, a.grown.size, fun k hk => a.grown.block k (Nat.lt_of_lt_of_le hk h.newo.1.size) (fun y => by have := h.new i hi k y.symm; omega)⟩
  refine ⟨h.out.keep fun k hk => a.grown.block k (h.out.lt k hk) (fun y => h.ne i hi k y.symm hk), by simp [hX], fun j hj => ?_, ⟨hbel, h.newo.2⟩, h.new, h.ne, h.dis⟩
  rw [getD_set _ _ _ _ _ (by omega)]
  by_cases x1 : j = i
  · subst x1
    rw [if_pos rfl]
    exact r
  · rw [if_neg x1]
    exact ρ.keep (h.row j hj) fun k hk => a.grown.block k (ρ.lt (h.row j hj) k hk) (fun y => h.dis i j hi hj (fun z => x1 z.symm) k y.symm hk)
/-- the row i grows, and is written back -/
theorem RR.grow {x : α} {bo : Option Addr} {b m c2 : Nat} (h : RR ρ e d w0 w (some ⟨b, 0, none⟩) n c F X) (i : Nat) (hi : i < n) (r : ρ.P w2 bo m c2 x) (a : Ap w w2 (F.getD i sl0).a bo) : RR ρ e d w0 (w2.setCell ⟨b, i, none⟩ (.slice bo m c2)) (some ⟨b, 0, none⟩) n c (F.set i ⟨bo, m, c2⟩) (X.set i x) ∧ w2.cell? ⟨b, i, none⟩ = some (slv (F.getD i sl0)) ∧ w2.frozen? ⟨b, i, none⟩ = false := by
  have hX := h.len
  have hF := h.out.len
  have hob : b < w.heap.size := h.out.lt b rfl
  have keepb : w2.heap[b]? = w.heap[b]? := a.grown.block b hob (fun y => h.ne i hi b y.symm rfl)
  have so2 : SO e w2 (some ⟨b, 0, none⟩) n c F := h.out.keep fun k hk => by have := Option.some.inj hk; subst this; exact keepb
  have hbb : blk bo ≠ some b := fun y => by
    rcases a.lies with z | ⟨j, z, hj⟩
    · exact h.ne i hi b (by rw [← z]; exact y) rfl
    · rw [z] at y
      have := Option.some.inj y
      omega
  have keep : ∀ k, k ≠ b → (w2.setCell ⟨b, i, none⟩ (.slice bo m c2)).heap[k]? = w2.heap[k]? := fun k hk => heap_setCell_other w2 ⟨b, i, none⟩ k _ hk
  obtain ⟨so3, g3⟩ := so2.stored i (.slice bo m c2)
  have so4 : SO e (w2.setCell ⟨b, i, none⟩ (.slice bo m c2)) (some ⟨b, 0, none⟩) n c (F.set i ⟨bo, m, c2⟩) := by
    have := so3
    rw [show (.slice bo m c2 : Value) = slv ⟨bo, m, c2⟩ from rfl, scs_set] at this
    exact this
  have hnb : w0.heap.size ≤ b := h.newo.2 b rfl
  have hbel : Below w0.heap.size w0 (w2.setCell ⟨b, i, none⟩ (.slice bo m c2)) := h.newo.1.trans ⟨a.grown.os, a.grown.tape, a.grown.output, by simpa using a.grown.size, fun k hk => by
    rw [keep k (by omega)]
    exact a.grown.block k (Nat.lt_of_lt_of_le hk h.newo.1.size) (fun y => by have := h.new i hi k y.symm; omega)⟩
  have newb : ∀ k, blk bo = some k → blk (F.getD i sl0).a = some k ∨ w.heap.size ≤ k := fun k hk => by
    rcases a.lies with z | ⟨j, z, hj⟩
    · left; rw [← z]; exact hk
    · right; rw [z] at hk; have := Option.some.inj hk; omega
  have gF : ∀ j, (F.set i (⟨bo, m, c2⟩ : Sl)).getD j sl0 = if j = i then ⟨bo, m, c2⟩ else F.getD j sl0 := fun j => getD_set _ _ _ _ _ (by omega)
  refine ⟨⟨so4, by simp [hX], fun j hj => ?_, ⟨hbel, h.newo.2⟩, fun j hj k hk => ?_, fun j hj k hk y => ?_, fun j j' hj hj' hne k hk y => ?_⟩, ?_, ?_⟩
  · rw [gF, getD_set _ _ _ _ _ (by omega)]
    by_cases x1 : j = i
    · rw [if_pos x1, if_pos x1]
      exact ρ.keep r fun k hk => keep k (fun z => hbb (by rw [← z]; exact hk))
    · rw [if_neg x1, if_neg x1]
      refine ρ.keep (h.row j hj) fun k hk => ?_
      rw [keep k (fun z => h.ne j hj k hk (by rw [z]; rfl))]
      exact a.grown.block k (ρ.lt (h.row j hj) k hk) (fun y => h.dis i j hi hj (fun z => x1 z.symm) k y.symm hk)
  · rw [gF] at hk
    by_cases x1 : j = i
    · rw [if_pos x1] at hk
      rcases newb k hk with z | z
      · exact h.new i hi k z
      · have := h.newo.1.size; omega
    · rw [if_neg x1] at hk
      exact h.new j hj k hk
  · rw [gF] at hk
    by_cases x1 : j = i
    · rw [if_pos x1] at hk
      have : b = k := Option.some.inj y
      subst this
      exact hbb hk
    · rw [if_neg x1] at hk
      exact h.ne j hj k hk y
  · have key : ∀ j', j' < n → j' ≠ i → blk bo = some k → blk (F.getD j' sl0).a = some k → False := fun j' hj' hne' h1 h2 => by
      rcases newb k h1 with z | z
      · exact h.dis i j' hi hj' (fun q => hne' q.symm) k z h2
      · have := ρ.lt (h.row j' hj') k h2; omega
    rw [gF] at hk y
    by_cases x1 : j = i
    · rw [if_pos x1] at hk
      have x2 : ¬ j' = i := fun z => hne (x1.trans z.symm)
      rw [if_neg x2] at y
      exact key j' hj' x2 hk y
    · rw [if_neg x1] at hk
      by_cases x2 : j' = i
      · rw [if_pos x2] at y
        exact key j hj x1 y hk
      · rw [if_neg x2] at y
        exact h.dis j j' hj hj' hne k hk y
  · obtain ⟨b', hb', hc, hf⟩ := so2.at i hi
    obtain rfl : b = b' := by cases hb'; rfl
    exact hc
  · obtain ⟨b', hb', hc, hf⟩ := so2.at i hi
    obtain rfl : b = b' := by cases hb'; rfl
    exact hf
/-- rows of rows that stand in memory from w1 on, below w2 -/
structure RT (ρ : RowK α) (d : α) (w1 w2 : World) (ao : Option Addr) (n : Nat) (X : List α) : Prop where
  at' : ∀ i, i < n → ∃ b fa fn fc, ao = some ⟨b, 0, none⟩ ∧ w2.cell? ⟨b, i, none⟩ = some (.slice fa fn fc) ∧ ρ.P w2 fa fn fc (X.getD i d) ∧ w1.heap.size ≤ b ∧ b < w2.heap.size ∧ ∀ k, blk fa = some k → w1.heap.size ≤ k ∧ k < w2.heap.size
theorem RR.rt (h : RR ρ e d w0 w ao n c F X) : RT ρ d w0 w ao n X := ⟨fun i hi => by
  obtain ⟨b, hb, hc, hf⟩ := h.out.at i hi
  exact ⟨b, _, _, _, hb, hc, h.row i hi, h.newo.2 b (by rw [hb]; rfl), h.out.lt b (by rw [hb]; rfl), fun k hk => ⟨h.new i hi k hk, ρ.lt (h.row i hi) k hk⟩⟩⟩
/-- what lies between w1 and w2 has stayed -/
def Stay (w1 w2 w3 : World) : Prop := ∀ k, w1.heap.size ≤ k → k < w2.heap.size → w3.heap[k]? = w2.heap[k]?
theorem RT.read (h : RT ρ d w1 w2 ao n X) (s : Stay w1 w2 w3) (i : Nat) (hi : i < n) : ∃ b fa fn fc, ao = some ⟨b, 0, none⟩ ∧ w3.cell? ⟨b, i, none⟩ = some (.slice fa fn fc) ∧ ρ.P w3 fa fn fc (X.getD i d) := by
  obtain ⟨b, fa, fn, fc, h1, h2, h3, h4, h5, h6⟩ := h.at' i hi
  exact ⟨b, fa, fn, fc, h1, by rw [World.cell?_of_block (s b h4 h5)]; exact h2, ρ.keep h3 fun k hk => s k (h6 k hk).1 (h6 k hk).2⟩
/-- rows that may be written, beside what lies between w1 and w2 -/
structure LR (ρ : RowK α) (e : TypeId) (d : α) (w w1 w2 wr : World) (ao : Option Addr) (n c : Nat) (F : List Sl) (X : List α) : Prop where
  r : RR ρ e d w wr ao n c F X
  sep : ∀ i, i < n → ∀ k, blk (F.getD i sl0).a = some k → k < w1.heap.size ∨ w2.heap.size ≤ k
  sepo : ∀ k, blk ao = some k → k < w1.heap.size ∨ w2.heap.size ≤ k
  stay : Stay w1 w2 wr
  sz : w2.heap.size ≤ wr.heap.size
theorem LR.begin (h : RR ρ e d w w1 ao n c F X) (hb : Below w1.heap.size w1 w2) : LR ρ e d w w1 w2 w2 ao n c F X :=
  ⟨h.below hb, fun i hi k hk => Or.inl (ρ.lt (h.row i hi) k hk), fun k hk => Or.inl (h.out.lt k hk), fun _ _ _ => rfl, Nat.le_refl _⟩
theorem LR.below (h : LR ρ e d w w1 w2 w0 ao n c F X) (hb : Below w0.heap.size w0 w3) : LR ρ e d w w1 w2 w3 ao n c F X :=
  ⟨h.r.below hb, h.sep, h.sepo, fun k h1 h2 => (hb.block k (Nat.lt_of_lt_of_le h2 h.sz)).trans (h.stay k h1 h2), Nat.le_trans h.sz hb.size⟩
theorem LR.set {x : α} (h : LR ρ e d w w1 w2 w0 ao n c F X) (i : Nat) (hi : i < n) (r : ρ.P w3 (F.getD i sl0).a (F.getD i sl0).n (F.getD i sl0).c x) (a : Ap w0 w3 (F.getD i sl0).a (F.getD i sl0).a) : LR ρ e d w w1 w2 w3 ao n c F (X.set i x) :=
  ⟨h.r.set i hi r a, h.sep, h.sepo, fun k h1 h2 => (a.grown.block k (Nat.lt_of_lt_of_le h2 h.sz) (fun y => by have := h.sep i hi k y.symm; omega)).trans (h.stay k h1 h2), Nat.le_trans h.sz a.grown.size⟩
theorem LR.grow {b : Nat} {x : α} {bo : Option Addr} {m c2 : Nat} (h : LR ρ e d w w1 w2 w0 (some ⟨b, 0, none⟩) n c F X) (i : Nat) (hi : i < n) (r : ρ.P w3 bo m c2 x) (a : Ap w0 w3 (F.getD i sl0).a bo) : LR ρ e d w w1 w2 (w3.setCell ⟨b, i, none⟩ (.slice bo m c2)) (some ⟨b, 0, none⟩) n c (F.set i ⟨bo, m, c2⟩) (X.set i x) := by
  have hF := h.r.out.len
  refine ⟨(h.r.grow i hi r a).1, fun j hj k hk => ?_, h.sepo, fun k h1 h2 => ?_, Nat.le_trans h.sz (by simpa using a.grown.size)⟩
  · rw [getD_set _ _ _ _ _ (by omega)] at hk
    by_cases x1 : j = i
    · rw [if_pos x1] at hk
      rcases a.lies with z | ⟨q, z, hq⟩
      · exact h.sep i hi k (by rw [← z]; exact hk)
      · have hk2 : blk bo = some k := hk
        rw [z] at hk2
        have := Option.some.inj hk2
        have := h.sz
        omega
    · rw [if_neg x1] at hk
      exact h.sep j hj k hk
  · rw [heap_setCell_other w3 ⟨b, i, none⟩ k _ (by have := h.sepo b rfl; simp only; omega)]
    exact (a.grown.block k (Nat.lt_of_lt_of_le h2 h.sz) (fun y => by have := h.sep i hi k y.symm; omega)).trans (h.stay k h1 h2)
end Go.Proofs.Ytinicdnpkihbkaa
