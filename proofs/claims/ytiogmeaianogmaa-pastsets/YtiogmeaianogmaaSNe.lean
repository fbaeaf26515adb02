/- Every set has a form. -/
import Derived.Test.YtiogmeaianogmaaRPv
namespace Go.Proofs.Ytiogmeaianogmaa

/-- one run laid over a form -/
theorem norm_one (r : Rn) : ∃ Y, NormOf [r] Y := by
  by_cases h : (clip r).lo ≤ (clip r).hi
  · refine ⟨[clip r], ⟨by unfold clip; simp only; omega, h, by unfold clip; simp only; omega, trivial⟩, fun n => ?_⟩
    rw [mem_one, mem_one]; unfold clip; simp only; omega
  · refine ⟨[], trivial, fun n => ?_⟩
    rw [mem_one]
    exact ⟨fun e => absurd e (mem_nil n), fun e => by unfold clip at h; simp only at h; omega⟩
theorem form_under {Y : List Rn} : ∀ {l : Int} (_ : form l Y) (a b : Int), 1 ≤ l → 1 ≤ a → a ≤ b → b ≤ 1000000000 → ∃ Z, form (min l a) Z ∧ ∀ n, mem Z n ↔ mem Y n ∨ (a ≤ n ∧ n ≤ b) := by
  induction Y with
  | nil => exact fun _ a b _ h1 h2 h3 => ⟨[⟨a, b⟩], ⟨by simp only; omega, h2, h3, trivial⟩, fun n => by rw [mem_one]; exact ⟨fun e => Or.inr e.2.2, fun e => e.elim (fun e => absurd e (mem_nil n)) (fun e => by simp only; omega)⟩⟩
  | cons r Y ih =>
    intro l hf a b hl h1 h2 h3
    obtain ⟨f1, f2, f3, f4⟩ := hf
    by_cases c1 : b + 1 < r.lo
    · refine ⟨⟨a, b⟩ :: r :: Y, ⟨by simp only; omega, h2, h3, by simp only; omega, f2, f3, f4⟩, fun n => ?_⟩
      rw [mem_cons]
      simp only
      exact ⟨fun e => e.elim (fun e => Or.inr e.2.2) Or.inl, fun e => e.elim Or.inr (fun e => Or.inl (by omega))⟩
    · by_cases c2 : r.hi + 1 < a
      · obtain ⟨Z, g1, g2⟩ := ih f4 a b (by omega) h1 h2 h3
        refine ⟨r :: Z, ⟨by omega, f2, f3, form_mono (by omega) g1⟩, fun n => ?_⟩
        rw [mem_cons, mem_cons, g2 n, or_assoc]
      · obtain ⟨Z, g1, g2⟩ := ih f4 (min a r.lo) (max b r.hi) (by omega) (by omega) (by omega) (by omega)
        refine ⟨Z, form_mono (by omega) g1, fun n => ?_⟩
        rw [g2 n, mem_cons]
        constructor
        · rintro (e | e)
          · exact Or.inl (Or.inr e)
          · by_cases d : a ≤ n ∧ n ≤ b
            · exact Or.inr d
            · exact Or.inl (Or.inl (by omega))
        · rintro ((e | e) | e)
          · exact Or.inr (by omega)
          · exact Or.inl e
          · exact Or.inr (by omega)
theorem norm_ex : ∀ (A : List Rn), ∃ Y, NormOf A Y
  | [] => ⟨[], trivial, fun _ => Iff.rfl⟩
  | r :: A => by
    obtain ⟨Y, h1, h2⟩ := norm_ex A
    by_cases h : (clip r).lo ≤ (clip r).hi
    · obtain ⟨Z, g1, g2⟩ := form_under h1 (clip r).lo (clip r).hi (Int.le_refl _) (by unfold clip; simp only; omega) h (by unfold clip; simp only; omega)
      refine ⟨Z, form_mono (by unfold clip; simp only; omega) g1, fun n => ?_⟩
      rw [g2 n, h2 n, mem_cons]
      unfold clip; simp only
      exact ⟨fun e => e.elim Or.inr (fun e => Or.inl (by omega)), fun e => e.elim (fun e => Or.inr (by omega)) Or.inl⟩
    · refine ⟨Y, h1, fun n => ?_⟩
      rw [h2 n, mem_cons]
      exact ⟨Or.inr, fun e => e.elim (fun e => by unfold clip at h; simp only at h; omega) id⟩
end Go.Proofs.Ytiogmeaianogmaa
