/- LCp -/
import Derived.Test.YtooinnhjeloocaaGreatLp37
namespace Go.Proofs.YtooinnhjeloocaaGreat.K
open Go.RowKit Go.Lib

theorem cmp_sub (d : Array En) : (compactUpTo d d.size).Sublist d.toList := by
  have h : (compactUpTo d d.size).Sublist ((List.range d.size).map (d[·]!)) := List.filter_sublist.map _
  rwa [range_map_get] at h
theorem bang_at (d : Array En) (i : Nat) (h : i < d.size) : d[i]! = d[i] := getElem!_pos d i h
theorem cmp_mem (d : Array En) (m : Nat) : m ≤ d.size → ∀ j, j < m → d[j]! ∈ compactUpTo d m := by
  induction m with
  | zero => intro _ j hj; omega
  | succ m ih =>
    intro hm j hj
    rw [compactUpTo_succ]
    by_cases e : j = m
    · subst e
      by_cases hk : keeps d j = true
      · rw [if_pos hk]; simp
      · rw [if_neg hk, List.append_nil]
        have hk' : ¬ (j = 0 ∨ d[j]! ≠ d[j - 1]!) := by simpa [keeps] using hk
        have h0 : ¬ j = 0 := fun h => hk' (Or.inl h)
        have h1 : d[j]! = d[j - 1]! := Classical.byContradiction fun h => hk' (Or.inr h)
        rw [h1]
        exact ih (by omega) (j - 1) (by omega)
    · exact List.mem_append_left _ (ih (by omega) j (by omega))
theorem cmp_iff (d : Array En) (x : En) : x ∈ compactUpTo d d.size ↔ x ∈ d.toList := by
  constructor
  · exact fun h => (cmp_sub d).mem h
  · intro h
    obtain ⟨i, hi, rfl⟩ := List.mem_iff_getElem.1 h
    have hi' : i < d.size := by simpa using hi
    have := cmp_mem d d.size (Nat.le_refl _) i hi'
    rw [bang_at d i hi'] at this
    simpa using this
theorem cmp_last (d : Array En) (m : Nat) : 0 < m → (compactUpTo d m).getLast? = some d[m - 1]! := by
  induction m with
  | zero => intro h; omega
  | succ m ih =>
    intro _
    rw [compactUpTo_succ]
    by_cases hk : keeps d m = true
    · rw [if_pos hk]; simp
    · rw [if_neg hk, List.append_nil]
      have hk' : ¬ (m = 0 ∨ d[m]! ≠ d[m - 1]!) := by simpa [keeps] using hk
      have h0 : ¬ m = 0 := fun h => hk' (Or.inl h)
      have h1 : d[m]! = d[m - 1]! := Classical.byContradiction fun h => hk' (Or.inr h)
      rw [ih (by omega), show m + 1 - 1 = m by omega, h1]
theorem cmp_adj (d : Array En) (m : Nat) : ∀ i, i + 1 < (compactUpTo d m).length → (compactUpTo d m).getD i en0 ≠ (compactUpTo d m).getD (i + 1) en0 := by
  induction m with
  | zero => intro i hi; simp [compactUpTo] at hi
  | succ m ih =>
    intro i hi
    by_cases hk : keeps d m = true
    · rw [compactUpTo_succ, if_pos hk] at hi ⊢
      rw [List.length_append, List.length_singleton] at hi
      by_cases e : i + 1 < (compactUpTo d m).length
      · have := ih i e
        simpa [List.getD, List.getElem?_append_left, e, show i < (compactUpTo d m).length by omega] using this
      · have el : i + 1 = (compactUpTo d m).length := by omega
        have hm : 0 < m := by
          rcases Nat.eq_zero_or_pos m with h | h
          · subst h; simp [compactUpTo] at el
          · exact h
        have hl := cmp_last d m hm
        rw [List.getLast?_eq_getElem?, ← el, Nat.add_sub_cancel] at hl
        have hne : d[m]! ≠ d[m - 1]! := by
          have : m = 0 ∨ d[m]! ≠ d[m - 1]! := by simpa [keeps] using hk
          rcases this with h | h
          · omega
          · exact h
        rw [List.getD, List.getElem?_append_left (by omega), hl, List.getD, List.getElem?_append_right (by omega), el, Nat.sub_self]
        simpa using fun h => hne h.symm
    · rw [compactUpTo_succ, if_neg hk, List.append_nil] at hi ⊢
      exact ih i hi
theorem asc_of_adj (C : List En) (h : ∀ i, i + 1 < C.length → ahead (C.getD i en0) (C.getD (i + 1) en0) = true) : Asc C := by
  have key : ∀ k i, i + k + 1 < C.length → ahead (C.getD i en0) (C.getD (i + k + 1) en0) = true := by
    intro k
    induction k with
    | zero => intro i hi; exact h i hi
    | succ k ih => intro i hi; exact ahead_trans (ih i (by omega)) (h (i + k + 1) (by omega))
  refine List.pairwise_iff_getElem.2 fun i j hi hj hij => ?_
  have := key (j - i - 1) i (by omega)
  rw [show i + (j - i - 1) + 1 = j by omega] at this
  simpa [List.getD, hi, hj] using this
/-- k places of the compacted list have been looked at -/
def AdjN (C : List En) (k : Nat) : Prop := ∀ i, i + 1 < k → sameDot (C.getD (i + 1) en0) (C.getD i en0) = false
theorem settled_done {d : Array En} {C : List En} (hC : C = compactUpTo d d.size) (hp : d.toList.Pairwise (fun x y => leE x y = true)) (h : AdjN C C.length) : Settled d.toList C 0 := by
  have hle : C.Pairwise (fun x y => leE x y = true) := by rw [hC]; exact hp.sublist (cmp_sub d)
  have ha : Asc C := asc_of_adj C fun i hi => ahead_of (le_at hle i (i + 1) (by omega) hi) (h i hi)
  have hm : ∀ x, x ∈ C ↔ x ∈ d.toList := fun x => by rw [hC]; exact cmp_iff d x
  exact Or.inr ⟨asc_noclash ha hm, rfl, ha, hm⟩
theorem settled_clash {d : Array En} {C : List En} (hC : C = compactUpTo d d.size) (i : Nat) (hi : i + 1 < C.length) (hs : sameDot (C.getD i en0) (C.getD (i + 1) en0) = true) : Settled d.toList [] 10 := by
  have hm : ∀ x, x ∈ C → x ∈ d.toList := fun x hx => by rw [hC] at hx; exact (cmp_iff d x).1 hx
  have hne : C.getD i en0 ≠ C.getD (i + 1) en0 := by subst hC; exact cmp_adj d d.size i hi
  exact Or.inl ⟨⟨_, hm _ (getD_mem C i (by omega)), _, hm _ (getD_mem C (i + 1) hi), hs, hne⟩, rfl, rfl⟩
end Go.Proofs.YtooinnhjeloocaaGreat.K
