/- VKc -/
import Derived.Test.YtphohmoibnoeaaaGreatPb00
namespace Go.Proofs.YtphohmoibnoeaaaGreat.V
open Go.RowKit

theorem topN_zero (f : Nat → Int) (k : Nat) : ∀ r, topN f k ≤ r → r < k → f r = 0 := by
 induction k with
 | zero => intro r _ h; omega
 | succ k ih =>
  intro r h1 h2
  unfold topN at h1
  split at h1
  ·by_cases e : r = k
   ·subst e; assumption
   ·exact ih r h1 (by omega)
  ·omega
theorem topN_last (f : Nat → Int) (k : Nat) (h : topN f k ≠ 0) : f (topN f k - 1) ≠ 0 := by
 induction k with
 | zero => simp [topN] at h
 | succ k ih =>
  unfold topN at h ⊢
  split
  ·rename_i e; rw [if_pos e] at h; exact ih h
  ·rename_i e; simpa using e
theorem top_zero (f : Nat → Int) (r : Nat) (h1 : top f ≤ r) (h2 : r < 16) : f r = 0 := topN_zero f 16 r h1 h2
theorem top_last (f : Nat → Int) (h : top f ≠ 0) : f (top f - 1) ≠ 0 := topN_last f 16 h
theorem top_unique (f : Nat → Int) (n : Nat) (h16 : n ≤ 16) (h1 : ∀ r, n ≤ r → r < 16 → f r = 0) (h2 : n = 0 ∨ f (n - 1) ≠ 0) : top f = n := by
 have a := top_le f
 rcases Nat.lt_trichotomy (top f) n with h | h | h
 ·rcases h2 with h2 | h2
  ·omega
  ·exact absurd (top_zero f (n - 1) (by omega) (by omega)) h2
 ·exact h
 ·exact absurd (h1 (top f - 1) (by omega) (by omega)) (top_last f (by omega))
theorem short_at (f : Nat → Int) (k : Nat) (h : k < top f) : (short f).getD k 0 = f k := by simp [short, List.getD, h]
theorem short_getD (f : Nat → Int) (k : Nat) (h : k < 16) : (short f).getD k 0 = f k := by
 by_cases hk : k < top f
 ·exact short_at f k hk
 ·rw [top_zero f k (by omega) h]; simp [short, List.getD, hk]
theorem short_congr {f g : Nat → Int} (h : ∀ r, r < 16 → f r = g r) : short f = short g := by
 have e : top f = top g := by
  have a := top_le g
  refine top_unique f (top g) a (fun r h1 h2 => by rw [h r h2]; exact top_zero g r h1 h2) ?_
  by_cases h0 : top g = 0
  ·exact Or.inl h0
  ·exact Or.inr (by rw [h _ (by omega)]; exact top_last g h0)
 unfold short
 rw [e]
 apply List.map_congr_left
 intro r hr
 have a := top_le g
 exact h r (by simp at hr; omega)
theorem clamp_id {z : Int} (h : 0 ≤ z ∧ z ≤ 1000000000) : clamp z = z := by unfold clamp; rw [if_neg (by omega), if_neg (by omega)]
theorem not_long (Z : List Int) (h : 16 < Z.length) : decide (Z = short (at' Z)) = false := by
 rw [decide_eq_false_iff_not]
 intro e
 have a := top_le (at' Z)
 have := congrArg List.length e
 rw [short_length] at this
 omega
theorem not_wide (Z : List Int) (k : Nat) (hk : k < Z.length) (h : ¬ (0 ≤ Z.getD k 0 ∧ Z.getD k 0 ≤ 1000000000)) : decide (Z = short (at' Z)) = false := by
 rw [decide_eq_false_iff_not]
 intro e
 apply h
 have hl := congrArg List.length e
 rw [short_length] at hl
 rw [e, short_at _ k (by omega)]
 exact at'_bd Z k
theorem not_nought (Z : List Int) (h0 : 0 < Z.length) (h : Z.getD (Z.length - 1) 0 = 0) : decide (Z = short (at' Z)) = false := by
 rw [decide_eq_false_iff_not]
 intro e
 have hl := congrArg List.length e
 rw [short_length] at hl
 have h1 := top_last (at' Z) (by omega)
 have h2 := short_at (at' Z) (top (at' Z) - 1) (by omega)
 rw [← e, ← hl] at h2
 rw [← hl, ← h2] at h1
 exact h1 h
theorem is_form (Z : List Int) (h16 : Z.length ≤ 16) (hw : ∀ k, k < Z.length → 0 ≤ Z.getD k 0 ∧ Z.getD k 0 ≤ 1000000000) (h0 : Z.length = 0 ∨ Z.getD (Z.length - 1) 0 ≠ 0) : decide (Z = short (at' Z)) = true := by
 rw [decide_eq_true_iff]
 have hat : ∀ r, r < Z.length → at' Z r = Z.getD r 0 := fun r hr => by unfold at'; rw [if_pos (by omega)]; exact clamp_id (hw r hr)
 have ht : top (at' Z) = Z.length := by
  refine top_unique _ _ h16 (fun r h1 h2 => ?_) ?_
  ·unfold at'; rw [if_pos h2, List.getD, List.getElem?_eq_none h1]; rfl
  ·rcases h0 with h | h
   ·exact Or.inl h
   ·by_cases hz : Z.length = 0
    ·exact Or.inl hz
    ·exact Or.inr (by rw [hat _ (by omega)]; exact h)
 apply List.ext_getElem
 ·rw [short_length, ht]
 ·intro i h1 h2
  have e1 : (short (at' Z)).getD i 0 = at' Z i := short_at _ i (by omega)
  rw [hat i h1] at e1
  simp only [List.getD, List.getElem?_eq_getElem h1, List.getElem?_eq_getElem h2, Option.getD_some] at e1
  exact e1.symm

theorem Src.at {w : World} {ao : Option Addr} {n c : Nat} {Z : List Int} (S : Src w ao n c Z) (k : Nat) (h : k < n) : ∃ ad, ao = some ad ∧ w.cell? (ad.add k) = some (.int .i64 (Z.getD k 0)) := by
 cases ao with
 | none => have := S.2.1 rfl; omega
 | some ad => exact ⟨ad, rfl, S.2.2 ad rfl k h⟩
set_option maxHeartbeats 800000 in
theorem isNorm_any (ao : Option Addr) (n cap : Nat) (Z : List Int) (w : World) (hS : Src w ao n cap Z) :
  Calls Tryz.prog 87 #[.slice ao n cap] w fun e w' => e = .returned (.bool (decide (Z = short (at' Z)))) ∧ Below w.heap.size w w' := by
 have HS := hide hS
 have hl := hS.1
 have HL := hide hl
 clear hS
 by_cases h16 : 16 < n
 ·have HF := hide (not_long Z (by omega))
  have h16' : (16 : Int) < n := by omega
  clear hl
  go_enter Tryz.func87, Tryz.ntmps87
  go_wp2
  go_ret
  exact ⟨ret_bool HF.out.symm, Below.refl _ _⟩
 have h16' : ¬ (16 : Int) < n := by omega
 clear hl
 go_enter Tryz.func87, Tryz.ntmps87
 go_wp2
 go_loopw [10] (fun i wr => ∃ k : Nat, k ≤ n ∧ i = .int .i64 k ∧ Hid (∀ j, j < k → 0 ≤ Z.getD j 0 ∧ Z.getD j 0 ≤ 1000000000) ∧ wr = w) (fun i _ => n - (intOf i).toNat)
 case atStart => exact ⟨0, Nat.zero_le _, rfl, fun j h => (by omega), by trivial⟩
 case round =>
  obtain ⟨k, hk, rfl, HW, rfl⟩ := hrel
  by_cases hlt : k < n
  ·obtain ⟨ad, rfl, ca⟩ := HS.out.at k hlt
   obtain ⟨z, HX⟩ : ∃ z, Hid (Z.getD k 0 = z) := ⟨_, rfl⟩
   rw [HX.out] at ca
   by_cases h1 : z < 0
   ·have HF := hide (not_wide Z k (by have := HL.out; omega) (by rw [HX.out]; omega))
    go_wp2
    go_ret
    exact ⟨ret_bool HF.out.symm, Below.refl _ _⟩
   ·by_cases h2 : 1000000000 < z
    ·have HF := hide (not_wide Z k (by have := HL.out; omega) (by rw [HX.out]; omega))
     go_wp2
     go_ret
     exact ⟨ret_bool HF.out.symm, Below.refl _ _⟩
    ·go_wp2
     go_roundw
     case rel =>
      refine ⟨k + 1, by omega, by go_num, fun j hj => ?_, by trivial⟩
      by_cases e : j = k
      ·subst e; rw [HX.out]; omega
      ·exact HW.out j (by omega)
     case measure => simp [intOf]; omega
  ·obtain rfl : k = n := by omega
   by_cases h0 : k = 0
   ·subst h0
    have HF := hide (is_form Z (by have := HL.out; omega) (fun j hj => HW.out j (by have := HL.out; omega)) (Or.inl HL.out))
    go_wp2
    go_ret
    exact ⟨ret_bool HF.out.symm, Below.refl _ _⟩
   ·have hk0 : ((k : Int) == 0) = false := by simpa using h0
    obtain ⟨ad, rfl, ca⟩ := HS.out.at (k - 1) (by omega)
    obtain ⟨z, HX⟩ : ∃ z, Hid (Z.getD (k - 1) 0 = z) := ⟨_, rfl⟩
    rw [HX.out] at ca
    have hi : ((k : Int) - 1).toNat = k - 1 := by omega
    have hA : (1 : Int) ≤ k := by omega
    by_cases hz : z = 0
    ·have HF := hide (not_nought Z (by have := HL.out; omega) (by rw [HL.out, HX.out]; exact hz))
     have hz' : (z != 0) = false := by simp [hz]
     clear hz
     go_wp2
     go_ret
     exact ⟨ret_bool HF.out.symm, Below.refl _ _⟩
    ·have HF := hide (is_form Z (by have := HL.out; omega) (fun j hj => HW.out j (by have := HL.out; omega)) (Or.inr (by rw [HL.out, HX.out]; exact hz)))
     have hz' : (z != 0) = true := by simp [hz]
     clear hz
     go_wp2
     go_ret
     exact ⟨ret_bool HF.out.symm, Below.refl _ _⟩
end Go.Proofs.YtphohmoibnoeaaaGreat.V
