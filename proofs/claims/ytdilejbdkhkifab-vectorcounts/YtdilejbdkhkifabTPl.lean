/- Compare is a total order: plainly. -/
import Derived.Test.YtdilejbdkhkifabComp
import Derived.Test.YtdilejbdkhkifabIsN
namespace Go.Proofs.Ytdilejbdkhkifab
open Go.RowKit

theorem cmpI_cases (x y : Int) : (x < y ∧ cmpI x y = -1) ∨ (x = y ∧ cmpI x y = 0) ∨ (y < x ∧ cmpI x y = 1) := by
  unfold cmpI
  by_cases h1 : x < y
  · exact Or.inl ⟨h1, by rw [if_pos h1]⟩
  · by_cases h2 : y < x
    · exact Or.inr (Or.inr ⟨h2, by rw [if_neg h1, if_pos h2]⟩)
    · exact Or.inr (Or.inl ⟨by omega, by rw [if_neg h1, if_neg h2]⟩)
theorem cmpI_neg (x y : Int) : cmpI y x = - cmpI x y := by
  rcases cmpI_cases x y with ⟨h, e⟩ | ⟨h, e⟩ | ⟨h, e⟩ <;> rcases cmpI_cases y x with ⟨h', e'⟩ | ⟨h', e'⟩ | ⟨h', e'⟩ <;> rw [e, e'] <;> omega
theorem lexF_step (f g : Nat → Int) (j k : Nat) : lexF f g (j + 1) k = if cmpI (f k) (g k) = 0 then lexF f g j (k + 1) else cmpI (f k) (g k) := rfl
theorem lexF_bd (f g : Nat → Int) (j k : Nat) : -1 ≤ lexF f g j k ∧ lexF f g j k ≤ 1 := by
  induction j generalizing k with
  | zero => simp [lexF]
  | succ j ih =>
    rw [lexF_step]
    split
    · exact ih _
    · rcases cmpI_cases (f k) (g k) with ⟨_, e⟩ | ⟨_, e⟩ | ⟨_, e⟩ <;> rw [e] <;> omega
theorem lexF_neg (f g : Nat → Int) (j k : Nat) : lexF g f j k = - lexF f g j k := by
  induction j generalizing k with
  | zero => rfl
  | succ j ih =>
    rw [lexF_step, lexF_step, cmpI_neg (f k) (g k), ih]
    by_cases h : cmpI (f k) (g k) = 0
    · rw [if_pos h, if_pos (by omega)]
    · rw [if_neg h, if_neg (by omega)]
theorem lexF_zero (f g : Nat → Int) (j k : Nat) : lexF f g j k = 0 ↔ ∀ r, k ≤ r → r < k + j → f r = g r := by
  induction j generalizing k with
  | zero => constructor
            · intro _ r h1 h2; omega
            · intro _; rfl
  | succ j ih =>
    rw [lexF_step]
    rcases cmpI_cases (f k) (g k) with ⟨h, e⟩ | ⟨h, e⟩ | ⟨h, e⟩
    · rw [e, if_neg (by omega)]
      constructor
      · intro h; omega
      · intro H; have := H k (Nat.le_refl _) (by omega); omega
    · rw [e, if_pos rfl, ih]
      constructor
      · intro H r h1 h2
        by_cases hr : r = k
        · subst hr; exact h
        · exact H r (by omega) (by omega)
      · intro H r h1 h2; exact H r (by omega) (by omega)
    · rw [e, if_neg (by omega)]
      constructor
      · intro h; omega
      · intro H; have := H k (Nat.le_refl _) (by omega); omega
theorem lexF_trans (f g h : Nat → Int) (j k : Nat) (h1 : lexF f g j k ≤ 0) (h2 : lexF g h j k ≤ 0) : lexF f h j k ≤ 0 := by
  induction j generalizing k with
  | zero => simp [lexF]
  | succ j ih =>
    rw [lexF_step] at *
    rcases cmpI_cases (f k) (g k) with ⟨a, e⟩ | ⟨a, e⟩ | ⟨a, e⟩ <;> rw [e] at h1 <;> rcases cmpI_cases (g k) (h k) with ⟨b, e'⟩ | ⟨b, e'⟩ | ⟨b, e'⟩ <;> rw [e'] at h2 <;> rcases cmpI_cases (f k) (h k) with ⟨c, e''⟩ | ⟨c, e''⟩ | ⟨c, e''⟩ <;> rw [e''] <;> first | omega | (simp at h1 h2 ⊢; try omega) | skip
    all_goals first | exact ih _ (by simpa using h1) (by simpa using h2) | omega
theorem compF_bd (f g : Nat → Int) : -1 ≤ compF f g ∧ compF f g ≤ 1 := by
  unfold compF
  split
  · exact lexF_bd _ _ _ _
  · rcases cmpI_cases (sumN f 16) (sumN g 16) with ⟨_, e⟩ | ⟨_, e⟩ | ⟨_, e⟩ <;> rw [e] <;> omega
theorem compF_neg (f g : Nat → Int) : compF g f = - compF f g := by
  unfold compF
  rw [cmpI_neg (sumN f 16) (sumN g 16), lexF_neg f g]
  by_cases h : cmpI (sumN f 16) (sumN g 16) = 0
  · rw [if_pos h, if_pos (by omega)]
  · rw [if_neg h, if_neg (by omega)]
theorem sumN_congr (f g : Nat → Int) (k : Nat) (h : ∀ r, r < k → f r = g r) : sumN f k = sumN g k := by
  induction k with
  | zero => rfl
  | succ k ih => unfold sumN; rw [ih (fun r hr => h r (by omega)), h k (by omega)]
theorem compF_zero (f g : Nat → Int) : compF f g = 0 ↔ ∀ r, r < 16 → f r = g r := by
  unfold compF
  constructor
  · intro h
    split at h
    · have := (lexF_zero f g 16 0).1 h
      intro r hr; exact this r (Nat.zero_le _) (by omega)
    · omega
  · intro h
    have e := sumN_congr f g 16 h
    rw [e]
    rcases cmpI_cases (sumN g 16) (sumN g 16) with ⟨a, _⟩ | ⟨_, e'⟩ | ⟨a, _⟩
    · omega
    · rw [e', if_pos rfl, lexF_zero]
      intro r _ h2; exact h r (by omega)
    · omega
theorem compF_trans (f g h : Nat → Int) (h1 : compF f g ≤ 0) (h2 : compF g h ≤ 0) : compF f h ≤ 0 := by
  unfold compF at *
  have T := lexF_trans f g h 16 0
  rcases cmpI_cases (sumN f 16) (sumN g 16) with ⟨a, e⟩ | ⟨a, e⟩ | ⟨a, e⟩ <;> rw [e] at h1 <;> rcases cmpI_cases (sumN g 16) (sumN h 16) with ⟨b, e'⟩ | ⟨b, e'⟩ | ⟨b, e'⟩ <;> rw [e'] at h2 <;> rcases cmpI_cases (sumN f 16) (sumN h 16) with ⟨c, e''⟩ | ⟨c, e''⟩ | ⟨c, e''⟩ <;> rw [e''] <;> first | omega | (simp at h1 h2 ⊢; first | omega | exact T h1 h2)
theorem sumN_le (f g : Nat → Int) (k : Nat) (h : ∀ r, r < k → f r ≤ g r) : sumN f k ≤ sumN g k ∧ (sumN f k = sumN g k → ∀ r, r < k → f r = g r) := by
  induction k with
  | zero => exact ⟨Int.le_refl _, fun _ r hr => by omega⟩
  | succ k ih =>
    have i := ih (fun r hr => h r (by omega))
    have hk := h k (by omega)
    unfold sumN
    refine ⟨by omega, fun e r hr => ?_⟩
    by_cases hr' : r = k
    · subst hr'; omega
    · exact i.2 (by omega) r (by omega)
theorem compF_before (f g : Nat → Int) (h : ordF f g = 1) : compF f g = -1 := by
  unfold ordF at h
  split at h
  · omega
  · rename_i hne
    split at h
    · rename_i hle
      have hle' := (leF_iff f g).1 hle
      have s := sumN_le f g 16 hle'
      have hlt : sumN f 16 < sumN g 16 := by
        rcases Int.lt_or_eq_of_le s.1 with h' | h'
        · exact h'
        · exact absurd ((eqF_iff f g).2 (s.2 h')) hne
      unfold compF
      rcases cmpI_cases (sumN f 16) (sumN g 16) with ⟨a, e⟩ | ⟨a, e⟩ | ⟨a, e⟩
      · rw [e, if_neg (by omega)]
      · omega
      · omega
    · split at h <;> omega
theorem ordF_zero (f g : Nat → Int) : ordF f g = 0 ↔ ∀ r, r < 16 → f r = g r := by
  unfold ordF
  constructor
  · intro h
    split at h
    · rename_i he; exact (eqF_iff f g).1 he
    · split at h
      · omega
      · split at h <;> omega
  · intro h; rw [if_pos ((eqF_iff f g).2 h)]
theorem same_iff (f g : Nat → Int) : short f = short g ↔ ∀ r, r < 16 → f r = g r := ⟨short_inj, short_congr⟩
end Go.Proofs.Ytdilejbdkhkifab
