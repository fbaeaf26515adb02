/- Bumps one behind the other: plainly. -/
import Derived.Test.YtdilejbdkhkifabBump
import Derived.Test.YtdilejbdkhkifabBeh
import Derived.Test.YtdilejbdkhkifabLPl
namespace Go.Proofs.Ytdilejbdkhkifab
open Go.RowKit

theorem sumN_fset (f : Nat → Int) (k : Nat) (z : Int) (n : Nat) : sumN (fset f k z) n = sumN f n + (if k < n then z - f k else 0) := by
  induction n with
  | zero => simp [sumN]
  | succ n ih =>
    unfold sumN
    rw [ih]
    by_cases h : n = k
    · subst h; simp [fset]; omega
    · have : fset f k z n = f n := by simp [fset, h]
      rw [this]
      by_cases h1 : k < n
      · rw [if_pos h1, if_pos (by omega)]; omega
      · rw [if_neg h1, if_neg (by omega)]; omega
/-- the list with one more at k -/
def upN (N : List Int) (k : Nat) : List Int := short (fset (at' N) k (at' N k + 1))
theorem up_bd (N : List Int) (k : Nat) (l : Int) (h : ¬ cut l ≤ at' N k) : Bd (fset (at' N) k (at' N k + 1)) := fun r hr => by
  have b := at'_bd N r
  have b2 := at'_bd N k
  have := cut_lt h
  unfold fset
  split <;> omega
theorem up_at1 (N : List Int) (k : Nat) (l : Int) (_ : k < 16) (h : ¬ cut l ≤ at' N k) : ∀ r, r < 16 → at' (upN N k) r = fset (at' N) k (at' N k + 1) r := at_short _ (up_bd N k l h)
theorem up_hasnt (N : List Int) (k : Nat) (hk : k < 16) : hasD N k (at' N k + 1) = false := by
  unfold hasD atI; rw [if_pos (by simp [isR]; omega), Int.toNat_natCast]; simp; omega
theorem up_has (N : List Int) (k : Nat) (l : Int) (hk : k < 16) (h : ¬ cut l ≤ at' N k) : hasD (upN N k) k (at' N k + 1) = true := by
  have b := at'_bd N k
  unfold hasD atI; rw [if_pos (by simp [isR]; omega), Int.toNat_natCast, up_at1 N k l hk h k hk]; simp [fset]; omega
theorem up_sum (N : List Int) (k : Nat) (l : Int) (hk : k < 16) (h : ¬ cut l ≤ at' N k) : sumN (at' (upN N k)) 16 = sumN (at' N) 16 + 1 := by
  rw [sumN_congr _ _ 16 (up_at1 N k l hk h), sumN_fset, if_pos hk]; omega
theorem up_le (N : List Int) (k : Nat) (l : Int) (hk : k < 16) (h : ¬ cut l ≤ at' N k) (f : Nat → Int) (hf : leF f (at' N) = true) : leF f (at' (upN N k)) = true := by
  rw [leF_iff] at *
  intro r hr
  have := hf r hr
  rw [up_at1 N k l hk h r hr]
  unfold fset
  split
  · rename_i e; subst e; omega
  · exact this
theorem up_ord (N : List Int) (k : Nat) (l : Int) (hk : k < 16) (h : ¬ cut l ≤ at' N k) : ordF (at' (upN N k)) (at' N) = 2 := by
  have e := up_at1 N k l hk h
  unfold ordF
  have h1 : ¬ eqF (at' (upN N k)) (at' N) = true := by
    rw [eqF_iff]; intro H; have := H k hk; rw [e k hk] at this; simp [fset] at this; omega
  have h2 : ¬ leF (at' (upN N k)) (at' N) = true := by
    rw [leF_iff]; intro H; have := H k hk; rw [e k hk] at this; simp [fset] at this; omega
  have h3 : leF (at' N) (at' (upN N k)) = true := by
    rw [leF_iff]; intro r hr; rw [e r hr]; unfold fset; split
    · rename_i e'; subst e'; omega
    · exact Int.le_refl _
  rw [if_neg h1, if_neg h2, if_pos h3]
/-- how many dots the spans have -/
def spanN (L : List (Int × Int × Int)) : Int := L.foldl (fun n s => n + (s.2.2 - s.2.1 + 1)) 0
theorem spanN_snoc (L : List (Int × Int × Int)) (s : Int × Int × Int) : spanN (L ++ [s]) = spanN L + (s.2.2 - s.2.1 + 1) := by simp [spanN]
theorem spanN_beh (f g : Nat → Int) (k : Nat) (h : ∀ r, r < k → f r ≤ g r) : spanN (behL f g k) = sumN g k - sumN f k := by
  induction k with
  | zero => rfl
  | succ k ih =>
    have i := ih (fun r hr => h r (by omega))
    have hk := h k (by omega)
    unfold behL sumN
    by_cases h1 : f k < g k
    · rw [if_pos h1, spanN_snoc, i]; simp; omega
    · rw [if_neg h1, List.append_nil, i]; omega
theorem beh_bd (f g : Nat → Int) (hf : Bd f) (hg : Bd g) (k : Nat) (hk : k ≤ 16) : ∀ s ∈ behL f g k, 1 ≤ s.2.1 ∧ s.2.1 ≤ s.2.2 ∧ s.2.2 ≤ 1000000000 := by
  induction k with
  | zero => intro s h; simp [behL] at h
  | succ k ih =>
    intro s h
    unfold behL at h
    rw [List.mem_append] at h
    rcases h with h | h
    · exact ih (by omega) s h
    · split at h
      · simp at h; subst h; have := hf k (by omega); have := hg k (by omega); simp; omega
      · simp at h
theorem spanN_take_bd (L : List (Int × Int × Int)) (h : ∀ s ∈ L, 1 ≤ s.2.1 ∧ s.2.1 ≤ s.2.2 ∧ s.2.2 ≤ 1000000000) : ∀ k, 0 ≤ spanN (L.take k) ∧ spanN (L.take k) ≤ 1000000000 * k := by
  intro k
  induction k with
  | zero => simp [spanN]
  | succ k ih =>
    by_cases hk : k < L.length
    · rw [List.take_succ_eq_append_getElem hk, spanN_snoc]
      have := h _ (List.getElem_mem hk)
      omega
    · rw [List.take_of_length_le (by omega)] at ih ⊢
      omega
theorem bump_up (N : List Int) (k : Nat) (l : Int) (hk : k < 16) (h : ¬ cut l ≤ at' N k) : bumpE N k l = 0 ∧ bumpZ N k l = upN N k ∧ bumpR N k l = k ∧ bumpN N k l = at' N k + 1 := by
  have hE : bumpE N k l = 0 := by unfold bumpE; rw [if_pos (by simp [isR]; omega), Int.toNat_natCast, if_neg h]
  refine ⟨hE, ?_, ?_, ?_⟩
  · unfold bumpZ; rw [if_pos hE, Int.toNat_natCast]; rfl
  · unfold bumpR; rw [if_pos hE]
  · unfold bumpN; rw [if_pos hE, Int.toNat_natCast]
theorem bump_no (N : List Int) (r l : Int) (e : Int) (he : e ≠ 0) (h : bumpE N r l = e) : bumpZ N r l = [] ∧ bumpR N r l = 0 ∧ bumpN N r l = 0 := by
  refine ⟨?_, ?_, ?_⟩
  · unfold bumpZ; rw [if_neg (by omega)]
  · unfold bumpR; rw [if_neg (by omega)]
  · unfold bumpN; rw [if_neg (by omega)]
end Go.Proofs.Ytdilejbdkhkifab
