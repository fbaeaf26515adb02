/- How many numbers: the sizes of what hangs together add up. -/
import Derived.Test.YtiogmeaianogmaaRPk
namespace Go.Proofs.Ytiogmeaianogmaa

theorem rk_step : ∀ {a : List Rn} {l : Int} (n : Int), 1 ≤ n → n ≤ 1000000000 → form l a → (mem a n → rk a n = rk a (n - 1) + 1) ∧ (¬ mem a n → rk a n = rk a (n - 1))
  | [], _, n, _, _, _ => ⟨fun h => absurd h (mem_nil n), fun _ => rfl⟩
  | r :: a, l, n, h1, h2, h => by
    have ih := rk_step n h1 h2 h.2.2.2
    have f2 := h.2.1
    have hs : form r.lo (r :: a) := ⟨Int.le_refl _, h.2⟩
    by_cases c1 : n < r.lo
    · rw [rk_before c1, rk_before (by omega)]
      exact ⟨fun e => by have := form_ge hs e; omega, fun _ => rfl⟩
    · by_cases c2 : n ≤ r.hi
      · have hm : mem (r :: a) n := (mem_cons r a n).2 (Or.inl ⟨h1, h2, by omega, c2⟩)
        refine ⟨fun _ => ?_, fun e => absurd hm e⟩
        rw [rk_in (by omega) c2]
        by_cases c3 : n = r.lo
        · rw [rk_before (by omega)]; omega
        · rw [rk_in (by omega) (by omega)]; omega
      · have hm : mem (r :: a) n ↔ mem a n := by
          rw [mem_cons]
          exact ⟨fun e => e.elim (fun e => by omega) id, Or.inr⟩
        rw [hm, rk_past f2 (by omega)]
        by_cases c3 : n = r.hi + 1
        · have e0 : rk a n = 0 := rk_low h.2.2.2 (by omega)
          rw [rk_in (by omega) (by omega), e0]
          exact ⟨fun e => by have := form_ge h.2.2.2 e; omega, fun _ => by omega⟩
        · rw [rk_past f2 (by omega)]
          exact ⟨fun e => by have := ih.1 e; omega, fun e => by have := ih.2 e; omega⟩
theorem rk_full : ∀ {a : List Rn} {l : Int}, form l a → rk a 1000000000 = sz a
  | [], _, _ => rfl
  | r :: a, l, h => by
    have ih := rk_full h.2.2.2
    have f2 := h.2.1
    have f3 := h.2.2.1
    rw [sz_cons]
    by_cases c : r.hi = 1000000000
    · have hz := sz_bd h.2.2.2
      have e0 : a = [] := by
        rcases hz.2.1 with e | e
        · exact e
        · omega
      rw [rk_in (by omega) (by omega), e0]
      simp [sz]
      omega
    · rw [rk_past f2 (by omega), ih]
/-- two pairs of sets in which each number lies equally often are of one size -/
theorem sz_pairs {P Q R S : List Rn} (hP : form 1 P) (hQ : form 1 Q) (hR : form 1 R) (hS : form 1 S)
    (h : ∀ n, (mem P n ∨ mem Q n ↔ mem R n ∨ mem S n) ∧ (mem P n ∧ mem Q n ↔ mem R n ∧ mem S n)) : sz P + sz Q = sz R + sz S := by
  have key : ∀ k : Nat, k ≤ 1000000000 → rk P k + rk Q k = rk R k + rk S k := by
    intro k
    induction k with
    | zero => intro _; rw [rk_low hP (by omega), rk_low hQ (by omega), rk_low hR (by omega), rk_low hS (by omega)]
    | succ k ih =>
      intro hk
      have ih := ih (by omega)
      obtain ⟨p1, p2⟩ := rk_step ((k + 1 : Nat) : Int) (by omega) (by omega) hP
      obtain ⟨q1, q2⟩ := rk_step ((k + 1 : Nat) : Int) (by omega) (by omega) hQ
      obtain ⟨r1, r2⟩ := rk_step ((k + 1 : Nat) : Int) (by omega) (by omega) hR
      obtain ⟨s1, s2⟩ := rk_step ((k + 1 : Nat) : Int) (by omega) (by omega) hS
      rw [show ((k + 1 : Nat) : Int) - 1 = (k : Int) by omega] at p1 p2 q1 q2 r1 r2 s1 s2
      obtain ⟨g1, g2⟩ := h ((k + 1 : Nat) : Int)
      by_cases cP : mem P ((k + 1 : Nat) : Int) <;> by_cases cQ : mem Q ((k + 1 : Nat) : Int) <;> by_cases cR : mem R ((k + 1 : Nat) : Int) <;> by_cases cS : mem S ((k + 1 : Nat) : Int) <;> simp only [cP, cQ, cR, cS, not_true_eq_false, not_false_eq_true, forall_const, false_implies, or_self, or_true, and_self, and_true, and_false, or_false, iff_true, iff_false] at p1 p2 q1 q2 r1 r2 s1 s2 g1 g2 <;> omega
  have := key 1000000000 (Nat.le_refl _)
  rw [show ((1000000000 : Nat) : Int) = 1000000000 from rfl, rk_full hP, rk_full hQ, rk_full hR, rk_full hS] at this
  exact this
theorem sz_parts {P Q R : List Rn} (hP : form 1 P) (hQ : form 1 Q) (hR : form 1 R)
    (h : ∀ n, (mem P n ∨ mem Q n ↔ mem R n) ∧ ¬ (mem P n ∧ mem Q n)) : sz P + sz Q = sz R := by
  have := sz_pairs hP hQ hR (S := []) trivial (fun n => ⟨by rw [(h n).1]; exact ⟨Or.inl, fun e => e.elim id (fun e => absurd e (mem_nil n))⟩, fun e => absurd e (h n).2, fun e => absurd e.2 (mem_nil n)⟩)
  simpa [sz] using this
theorem sz_top {a : List Rn} (h : form 1 a) : 0 ≤ sz a ∧ sz a ≤ 1000000000 := by
  have hz := sz_bd h
  refine ⟨hz.1, ?_⟩
  rcases hz.2.1 with e | e
  · rw [e]; simp [sz]
  · omega
end Go.Proofs.Ytiogmeaianogmaa
