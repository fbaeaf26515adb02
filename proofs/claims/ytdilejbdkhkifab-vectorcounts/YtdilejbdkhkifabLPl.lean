/- Merge is the least above, Meet the greatest below: plainly; most: its contract; Merge of three. -/
import Derived.Test.YtdilejbdkhkifabToLaw
import Derived.Test.YtdilejbdkhkifabMeet
namespace Go.Proofs.Ytdilejbdkhkifab
open Go.RowKit

theorem bd_max {f g : Nat → Int} (hf : Bd f) (hg : Bd g) : Bd (fmax f g) := fun r hr => by have := hf r hr; have := hg r hr; unfold fmax; split <;> omega
theorem bd_min {f g : Nat → Int} (hf : Bd f) (hg : Bd g) : Bd (fmin f g) := fun r hr => by have := hf r hr; have := hg r hr; unfold fmin; split <;> omega
theorem up_at (f g : Nat → Int) (hf : Bd f) (hg : Bd g) : ∀ r, r < 16 → at' (short (fmax f g)) r = fmax f g r := at_short _ (bd_max hf hg)
theorem down_at (f g : Nat → Int) (hf : Bd f) (hg : Bd g) : ∀ r, r < 16 → at' (short (fmin f g)) r = fmin f g r := at_short _ (bd_min hf hg)
theorem ord_most (f g : Nat → Int) : (ordF f g = 0 ∨ ordF f g = 1) ↔ leF f g = true := by
  constructor
  · rintro (h | h)
    · rw [leF_iff]; intro r hr; rw [(ordF_zero f g).1 h r hr]; exact Int.le_refl _
    · unfold ordF at h
      split at h
      · omega
      · split at h
        · assumption
        · split at h <;> omega
  · intro h
    unfold ordF
    split
    · exact Or.inl rfl
    · exact Or.inr rfl
theorem le_up1 (f g : Nat → Int) (hf : Bd f) (hg : Bd g) : leF f (at' (short (fmax f g))) = true := by
  rw [leF_iff]; intro r hr; rw [up_at f g hf hg r hr]; unfold fmax; split <;> omega
theorem le_up2 (f g : Nat → Int) (hf : Bd f) (hg : Bd g) : leF g (at' (short (fmax f g))) = true := by
  rw [leF_iff]; intro r hr; rw [up_at f g hf hg r hr]; unfold fmax; split <;> omega
theorem down_le1 (f g : Nat → Int) (hf : Bd f) (hg : Bd g) : leF (at' (short (fmin f g))) f = true := by
  rw [leF_iff]; intro r hr; rw [down_at f g hf hg r hr]; unfold fmin; split <;> omega
theorem down_le2 (f g : Nat → Int) (hf : Bd f) (hg : Bd g) : leF (at' (short (fmin f g))) g = true := by
  rw [leF_iff]; intro r hr; rw [down_at f g hf hg r hr]; unfold fmin; split <;> omega
theorem up_least (f g h : Nat → Int) (hf : Bd f) (hg : Bd g) (h1 : leF f h = true) (h2 : leF g h = true) : leF (at' (short (fmax f g))) h = true := by
  rw [leF_iff] at *; intro r hr; have := h1 r hr; have := h2 r hr; rw [up_at f g hf hg r hr]; unfold fmax; split <;> omega
theorem down_most (f g h : Nat → Int) (hf : Bd f) (hg : Bd g) (h1 : leF h f = true) (h2 : leF h g = true) : leF h (at' (short (fmin f g))) = true := by
  rw [leF_iff] at *; intro r hr; have := h1 r hr; have := h2 r hr; rw [down_at f g hf hg r hr]; unfold fmin; split <;> omega
theorem sums_add (f g : Nat → Int) (hf : Bd f) (hg : Bd g) : sumN (at' (short (fmax f g))) 16 + sumN (at' (short (fmin f g))) 16 = sumN f 16 + sumN g 16 := by
  rw [sumN_congr _ _ 16 (up_at f g hf hg), sumN_congr _ _ 16 (down_at f g hf hg)]
  have : ∀ k, sumN (fmax f g) k + sumN (fmin f g) k = sumN f k + sumN g k := by
    intro k
    induction k with
    | zero => rfl
    | succ k ih =>
      unfold sumN
      have : fmax f g k + fmin f g k = f k + g k := by
        unfold fmax fmin
        by_cases h : f k < g k
        · rw [if_pos h, if_neg (by omega)]; omega
        · rw [if_neg h]
          by_cases h' : g k < f k
          · rw [if_pos h']
          · rw [if_neg h']; omega
      omega
  exact this 16
theorem assoc_lists (X Y Z : List Int) : short (fmax (at' (short (fmax (at' X) (at' Y)))) (at' Z)) = short (fmax (fmax (at' X) (at' (short (fmax (at' Y) (at' Z))))) (at' X)) := by
  refine short_congr (fun r hr => ?_)
  have h1 := up_at (at' X) (at' Y) (bd_at X) (bd_at Y) r hr
  have h2 := up_at (at' Y) (at' Z) (bd_at Y) (bd_at Z) r hr
  unfold fmax at *
  rw [h1, h2]
  split <;> split <;> split <;> (try split) <;> omega

set_option maxHeartbeats 400000 in
theorem most_any (ao bo : Option Addr) (n c m d : Nat) (X Y : List Int) (w : World) (hX : Src w ao n c X) (hY : Src w bo m d Y) :
    Calls Try.prog 10 #[.slice ao n c, .slice bo m d] w fun e w' => e = .returned (.bool (leF (at' X) (at' Y))) ∧ Below w.heap.size w w' := by
  have HX := hide hX
  have HY := hide hY
  clear hX hY
  have OM := hide (ord_most (at' X) (at' Y))
  obtain ⟨o, Ho⟩ : ∃ o, Hid (ordF (at' X) (at' Y) = o) := ⟨_, rfl⟩
  rw [Ho.out] at OM
  by_cases h0 : o = 0
  · have HL : Hid (leF (at' X) (at' Y) = true) := OM.out.1 (Or.inl h0)
    have h0' : (o == 0) = true := by simp [h0]
    clear h0
    go_enter Try.func10, Try.ntmps10
    go_wp2_with fail
    refine (vorder_any _ _ _ _ _ _ X Y _ HX.out HY.out).mono ?_
    rintro e w1 ⟨rfl, b⟩
    have B := hide b
    clear b
    rw [Ho.out]
    go_wp2_with fail
    go_ret
    exact ⟨ret_bool HL.out.symm, B.out⟩
  · have h0' : (o == 0) = false := by simp [h0]
    obtain ⟨y, Hy⟩ : ∃ y, Hid (leF (at' X) (at' Y) = y) := ⟨_, rfl⟩
    have h1' : (o == 1) = y := by
      rw [Hy.out] at OM
      have := OM.out
      cases y
      · simp at this ⊢; exact this.2
      · simp at this ⊢; omega
    clear h0
    go_enter Try.func10, Try.ntmps10
    go_wp2_with fail
    refine (vorder_any _ _ _ _ _ _ X Y _ HX.out HY.out).mono ?_
    rintro e w1 ⟨rfl, b⟩
    have B := hide b
    clear b
    rw [Ho.out]
    go_wp2_with fail
    go_ret
    exact ⟨ret_bool Hy.out.symm, B.out⟩

def pick3 {α : Type} (x y z : α) : Nat → α := fun t => if t = 0 then x else if t = 1 then y else z
theorem merge3_any (ao bo co : Option Addr) (n c m d k l : Nat) (X Y Z : List Int) (w : World) (g : Nat) (hg : w.heap.size = g) (hX : Src w ao n c X) (hY : Src w bo m d Y) (hZ : Src w co k l Z) :
    Calls Try.prog 8 #[.slice (some ⟨g, 0, none⟩) 3 3] (w.alloc (.cells #[.slice ao n c, .slice bo m d, .slice co k l] 22)) fun e w' => Gives w w' e (short (fmax (fmax (at' X) (at' Y)) (at' Z))) := by
  subst hg
  have hb := below_new w (.cells #[.slice ao n c, .slice bo m d, .slice co k l] 22)
  have R : Rows (w.alloc (.cells #[.slice ao n c, .slice bo m d, .slice co k l] 22)) (some ⟨w.heap.size, 0, none⟩) 3 3 (pick3 ao bo co) (pick3 n m k) (pick3 c d l) (pick3 X Y Z) := by
    refine ⟨fun h => (by cases h), fun ad h t ht => ?_, fun t ht => ?_⟩
    · obtain rfl := Option.some.inj h
      rw [Addr.add_lit, Nat.zero_add, World.cell?_alloc_new]
      match t, ht with
      | 0, _ => rfl
      | 1, _ => rfl
      | 2, _ => rfl
    · match t, ht with
      | 0, _ => exact hX.below hb
      | 1, _ => exact hY.below hb
      | 2, _ => exact hZ.below hb
  refine (merge_any _ 3 3 _ _ _ _ _ R (by unfold maxLen; omega)).mono ?_
  intro e w' h
  have h2 := h.on hb
  have e2 : short (mergeF (pick3 X Y Z) 3) = short (fmax (fmax (at' X) (at' Y)) (at' Z)) := by
    refine short_congr (fun r hr => ?_)
    have := fmax_zero (at' X) (bd_at X) r hr
    show fmax (fmax (fmax (fun _ => 0) (at' X)) (at' Y)) (at' Z) r = _
    have e3 : fmax (fmax (fun _ => 0) (at' X)) (at' Y) r = fmax (at' X) (at' Y) r := by
      show (if fmax (fun _ => 0) (at' X) r < at' Y r then _ else fmax (fun _ => 0) (at' X) r) = _
      rw [this]; rfl
    show (if fmax (fmax (fun _ => 0) (at' X)) (at' Y) r < at' Z r then _ else fmax (fmax (fun _ => 0) (at' X)) (at' Y) r) = _
    rw [e3]; rfl
  rw [e2] at h2
  exact h2
end Go.Proofs.Ytdilejbdkhkifab
