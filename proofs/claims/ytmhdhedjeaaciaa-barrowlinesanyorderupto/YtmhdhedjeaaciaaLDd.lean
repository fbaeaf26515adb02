/- Plain: the list of the members, strictly by dots; two contents of one dot. -/
import Derived.Test.YtmhdhedjeaaciaaLSrt
import Derived.Lib.SlicesCompact
namespace Go.Proofs.Ytmhdhedjeaaciaa
open Go.RowKit

instance : DecidableEq En := fun a b =>
  decidable_of_iff (a.rep = b.rep ∧ a.num = b.num ∧ a.sku = b.sku ∧ a.qty = b.qty) ⟨fun ⟨h1, h2, h3, h4⟩ => by cases a; cases b; simp_all, fun h => by subst h; exact ⟨rfl, rfl, rfl, rfl⟩⟩
instance : Inhabited En := ⟨en0⟩
def sameDot (x y : En) : Bool := x.rep == y.rep && x.num == y.num
theorem ahead_of {x y : En} (h : leE x y = true) (hs : sameDot y x = false) : ahead x y = true := by
  simp [leE, ahead, sameDot] at *; omega
theorem ahead_le {x y z : En} (h : leE x y = true) (h2 : ahead y z = true) : ahead x z = true := by
  simp [leE, ahead] at *; omega
theorem ahead_trans {x y z : En} (h : ahead x y = true) (h2 : ahead y z = true) : ahead x z = true := by
  simp [ahead] at *; omega
theorem ahead_irr (x : En) : ahead x x = false := by simp [ahead]
theorem ahead_asymm {x y : En} (h : ahead x y = true) : ahead y x = false := by
  simp [ahead] at *; omega
theorem ahead_same {x y : En} (h : ahead x y = true) : sameDot x y = false := by
  simp [ahead, sameDot] at *; omega
theorem same_symm {x y : En} : sameDot x y = sameDot y x := by
  simp [sameDot, Bool.beq_comm]
/-- a dot has two contents -/
def Clash (L : List En) : Prop := ∃ x, x ∈ L ∧ ∃ y, y ∈ L ∧ sameDot x y = true ∧ x ≠ y
def Asc (R : List En) : Prop := R.Pairwise (fun x y => ahead x y = true)
/-- what Sort and Union answer of the entries L -/
def Settled (L R : List En) (e : Int) : Prop := (Clash L ∧ R = [] ∧ e = 10) ∨ (¬ Clash L ∧ e = 0 ∧ Asc R ∧ ∀ x, x ∈ R ↔ x ∈ L)
theorem asc_unique : ∀ {R R' : List En}, Asc R → Asc R' → (∀ x, x ∈ R ↔ x ∈ R') → R = R'
  | [], [], _, _, _ => rfl
  | [], b :: _, _, _, h => absurd ((h b).2 (List.mem_cons_self ..)) (by simp)
  | a :: _, [], _, _, h => absurd ((h a).1 (List.mem_cons_self ..)) (by simp)
  | a :: R, b :: R', h1, h2, h => by
    obtain ⟨a1, a2⟩ := List.pairwise_cons.1 h1
    obtain ⟨b1, b2⟩ := List.pairwise_cons.1 h2
    have e : a = b := by
      rcases List.mem_cons.1 ((h a).1 (List.mem_cons_self ..)) with e | e
      · exact e
      · rcases List.mem_cons.1 ((h b).2 (List.mem_cons_self ..)) with e' | e'
        · exact e'.symm
        · have := ahead_asymm (a1 b e'); rw [b1 a e] at this; cases this
    subst e
    rw [asc_unique a2 b2 (fun x => ?_)]
    have hx := h x
    simp only [List.mem_cons] at hx
    constructor
    · intro hm
      rcases hx.1 (Or.inr hm) with e | e
      · subst e; have := a1 x hm; rw [ahead_irr] at this; cases this
      · exact e
    · intro hm
      rcases hx.2 (Or.inr hm) with e | e
      · subst e; have := b1 x hm; rw [ahead_irr] at this; cases this
      · exact e
theorem Settled.unique {L R R' : List En} {e e' : Int} (h : Settled L R e) (h' : Settled L R' e') : R = R' ∧ e = e' := by
  rcases h with ⟨c, r, e1⟩ | ⟨c, e1, a, m⟩
  · rcases h' with ⟨_, r', e2⟩ | ⟨c', _⟩
    · exact ⟨r.trans r'.symm, e1.trans e2.symm⟩
    · exact absurd c c'
  · rcases h' with ⟨c', _⟩ | ⟨_, e2, a', m'⟩
    · exact absurd c' c
    · exact ⟨asc_unique a a' (fun x => (m x).trans (m' x).symm), e1.trans e2.symm⟩
theorem asc_noclash {R L : List En} (h : Asc R) (hm : ∀ x, x ∈ R ↔ x ∈ L) : ¬ Clash L := by
  rintro ⟨x, hx, y, hy, hs, hne⟩
  have hx := (hm x).2 hx
  have hy := (hm y).2 hy
  clear hm
  induction R with
  | nil => simp at hx
  | cons a R ih =>
    obtain ⟨a1, a2⟩ := List.pairwise_cons.1 h
    rcases List.mem_cons.1 hx with e | e
    · subst e
      rcases List.mem_cons.1 hy with e | e
      · exact hne e.symm
      · have := ahead_same (a1 y e); rw [hs] at this; cases this
    · rcases List.mem_cons.1 hy with e' | e'
      · subst e'
        have := ahead_same (a1 x e); rw [same_symm, hs] at this; cases this
      · exact ih a2 e e'
theorem Clash.perm {L R : List En} (h : Clash L) (hm : ∀ x, x ∈ L ↔ x ∈ R) : Clash R := by
  obtain ⟨x, hx, y, hy, r⟩ := h
  exact ⟨x, (hm x).1 hx, y, (hm y).1 hy, r⟩
theorem Settled.perm {L L' R : List En} {e : Int} (h : Settled L R e) (hm : ∀ x, x ∈ L ↔ x ∈ L') : Settled L' R e := by
  rcases h with ⟨c, r, e1⟩ | ⟨c, e1, a, m⟩
  · exact Or.inl ⟨c.perm hm, r, e1⟩
  · exact Or.inr ⟨fun c' => c (c'.perm (fun x => (hm x).symm)), e1, a, fun x => (m x).trans (hm x)⟩

/-- of k places each entry once -/
def OnceInv (L : List En) (k : Nat) (acc : List En) : Prop := Asc acc ∧ ∀ x, x ∈ acc ↔ x ∈ L.take k
theorem once_start (L : List En) : OnceInv L 0 [] := ⟨List.Pairwise.nil, by simp⟩
theorem mem_take_succ (L : List En) (k : Nat) (h : k < L.length) (x : En) : x ∈ L.take (k + 1) ↔ x ∈ L.take k ∨ x = L.getD k en0 := by
  rw [take_snoc L k h]; simp
theorem le_at {L : List En} (hL : L.Pairwise (fun x y => leE x y = true)) (i j : Nat) (hij : i < j) (hj : j < L.length) : leE (L.getD i en0) (L.getD j en0) = true := by
  have := List.pairwise_iff_getElem.1 hL i j (by omega) hj hij
  simpa [List.getD, hj, show i < L.length by omega] using this
theorem mem_take_at {L : List En} {k : Nat} {x : En} (h : x ∈ L.take k) : ∃ i, i < k ∧ i < L.length ∧ L.getD i en0 = x := by
  obtain ⟨i, hi, rfl⟩ := List.mem_iff_getElem.1 h
  rw [List.length_take] at hi
  exact ⟨i, by omega, by omega, by simp [List.getD, show i < L.length by omega]⟩
theorem once_new {L acc : List En} {k : Nat} (hL : L.Pairwise (fun x y => leE x y = true)) (hk : k < L.length) (h : OnceInv L k acc) (hn : k = 0 ∨ sameDot (L.getD k en0) (L.getD (k - 1) en0) = false) : OnceInv L (k + 1) (acc ++ [L.getD k en0]) := by
  refine ⟨?_, fun x => by rw [mem_take_succ L k hk, ← h.2 x]; simp⟩
  refine List.pairwise_append.2 ⟨h.1, List.pairwise_singleton _ _, fun x hx y hy => ?_⟩
  obtain rfl := List.mem_singleton.1 hy
  obtain ⟨i, h1, h2, rfl⟩ := mem_take_at ((h.2 x).1 hx)
  rcases hn with h0 | hs
  · omega
  · have ha := ahead_of (le_at hL (k - 1) k (by omega) hk) hs
    by_cases e : i = k - 1
    · rw [e]; exact ha
    · exact ahead_le (le_at hL i (k - 1) (by omega) (by omega)) ha
theorem once_skip {L acc : List En} {k : Nat} (hk : k < L.length) (h0 : 0 < k) (h : OnceInv L k acc) (he : L.getD k en0 = L.getD (k - 1) en0) : OnceInv L (k + 1) acc := by
  refine ⟨h.1, fun x => ?_⟩
  rw [mem_take_succ L k hk, h.2 x]
  constructor
  · exact Or.inl
  · rintro (hx | rfl)
    · exact hx
    · rw [he]
      have : L.getD (k - 1) en0 = L[k - 1]'(by omega) := by simp [List.getD, show k - 1 < L.length by omega]
      rw [this]
      exact List.mem_take_iff_getElem.2 ⟨k - 1, by omega, rfl⟩
theorem getD_mem (L : List En) (k : Nat) (h : k < L.length) : L.getD k en0 ∈ L := by
  have : L.getD k en0 = L[k] := by simp [List.getD, h]
  rw [this]; exact List.getElem_mem _
theorem once_clash {L : List En} {k : Nat} (hk : k < L.length) (hs : sameDot (L.getD k en0) (L.getD (k - 1) en0) = true) (hne : L.getD k en0 ≠ L.getD (k - 1) en0) : Clash L :=
  ⟨_, getD_mem L k hk, _, getD_mem L (k - 1) (by omega), hs, hne⟩
theorem once_done {L acc : List En} (h : OnceInv L L.length acc) : Settled L acc 0 := by
  have hm : ∀ x, x ∈ acc ↔ x ∈ L := fun x => by have := h.2 x; rwa [List.take_length] at this
  exact Or.inr ⟨asc_noclash h.1 hm, rfl, h.1, hm⟩
end Go.Proofs.Ytmhdhedjeaaciaa
