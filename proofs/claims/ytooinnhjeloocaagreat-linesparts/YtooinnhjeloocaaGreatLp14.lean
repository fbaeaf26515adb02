/- RPk RCo -/
import Derived.Test.YtooinnhjeloocaaGreatLp07
namespace Go.Proofs.YtooinnhjeloocaaGreat

def pick : List Rn → Int → Int
  | [], _ => 0
  | r :: a, k => if k ≤ r.hi - r.lo + 1 then r.lo + k - 1 else pick a (k - (r.hi - r.lo + 1))
def pk (a : List Rn) (k : Int) : Int := if k < 1 then 0 else pick a k
def cutTo : List Rn → Int → List Rn
  | [], _ => []
  | r :: a, n => if n < r.lo then [] else if n ≤ r.hi then [⟨r.lo, n⟩] else r :: cutTo a n
def rk (a : List Rn) (n : Int) : Int := sz (cutTo a n)
def fst : List Rn → Int → Int
  | [], _ => 0
  | r :: a, f => if f ≤ r.hi then max r.lo f else fst a f
theorem cutTo_form : ∀ {a : List Rn} {l : Int} (n : Int), form l a → form l (cutTo a n)
  | [], _, _, _ => trivial
  | r :: a, l, n, h => by
    unfold cutTo
    split
    · trivial
    · split
      · exact ⟨h.1, by simp only; omega, by have := h.2.2.1; simp only; omega, trivial⟩
      · exact ⟨h.1, h.2.1, h.2.2.1, cutTo_form n h.2.2.2⟩
theorem cutTo_mem : ∀ {a : List Rn} {l : Int} (n : Int), form l a → ∀ m, mem (cutTo a n) m ↔ mem a m ∧ m ≤ n
  | [], _, _, _, m => ⟨fun h => absurd h (mem_nil m), fun h => h.1⟩
  | r :: a, l, n, h, m => by
    have hs : form r.lo (r :: a) := ⟨Int.le_refl _, h.2⟩
    have ih := cutTo_mem n h.2.2.2 m
    unfold cutTo
    split
    · constructor
      · exact fun e => absurd e (mem_nil m)
      · rintro ⟨e, h2⟩
        have := form_ge hs e
        omega
    · split
      · rw [mem_one, mem_cons]
        simp only
        constructor
        · rintro ⟨h1, h2, h3, h4⟩
          exact ⟨Or.inl ⟨h1, h2, h3, by omega⟩, h4⟩
        · rintro ⟨e | e, h2⟩
          · exact ⟨e.1, e.2.1, e.2.2.1, h2⟩
          · have := form_ge h.2.2.2 e
            omega
      · rw [mem_cons, mem_cons, ih]
        constructor
        · rintro (e | e)
          · exact ⟨Or.inl e, by omega⟩
          · exact ⟨Or.inr e.1, e.2⟩
        · rintro ⟨e | e, h2⟩
          · exact Or.inl e
          · exact Or.inr ⟨e, h2⟩
theorem rk_low {a : List Rn} {l n : Int} (h : form l a) (hn : n < l) : rk a n = 0 := by
  cases a with
  | nil => rfl
  | cons r a => unfold rk cutTo; rw [if_pos (by have := h.1; omega)]; rfl
theorem rk_before {r : Rn} {a : List Rn} {n : Int} (hn : n < r.lo) : rk (r :: a) n = 0 := by
  unfold rk cutTo; rw [if_pos hn]; rfl
theorem rk_in {r : Rn} {a : List Rn} {n : Int} (h1 : r.lo ≤ n) (h2 : n ≤ r.hi) : rk (r :: a) n = n - r.lo + 1 := by
  unfold rk cutTo; rw [if_neg (by omega), if_pos h2]; simp [sz]
theorem rk_past {r : Rn} {a : List Rn} {n : Int} (h1 : r.lo ≤ r.hi) (h2 : r.hi < n) : rk (r :: a) n = (r.hi - r.lo + 1) + rk a n := by
  unfold rk; rw [cutTo, if_neg (by omega), if_neg (by omega)]; simp [sz]
theorem pick_in {r : Rn} {a : List Rn} {k : Int} (h : k ≤ r.hi - r.lo + 1) : pick (r :: a) k = r.lo + k - 1 := by rw [pick, if_pos h]
theorem pick_past {r : Rn} {a : List Rn} {k : Int} (h : ¬ k ≤ r.hi - r.lo + 1) : pick (r :: a) k = pick a (k - (r.hi - r.lo + 1)) := by rw [pick, if_neg h]
theorem sz_cons (r : Rn) (a : List Rn) : sz (r :: a) = (r.hi - r.lo + 1) + sz a := rfl
theorem rk_bd : ∀ {a : List Rn} {l : Int} (n : Int), form l a → 0 ≤ rk a n ∧ rk a n ≤ sz a
  | [], _, _, _ => ⟨Int.le_refl _, Int.le_refl _⟩
  | r :: a, l, n, h => by
    have ih := rk_bd n h.2.2.2
    have h2 := h.2.1
    have h0 := (sz_bd h.2.2.2).1
    rw [sz_cons]
    by_cases c1 : n < r.lo
    · rw [rk_before c1]; omega
    · by_cases c2 : n ≤ r.hi
      · rw [rk_in (by omega) c2]; omega
      · rw [rk_past h2 (by omega)]; omega
theorem pick_good : ∀ {a : List Rn} {l k : Int}, 1 ≤ l → form l a → 1 ≤ k → k ≤ sz a → mem a (pick a k) ∧ rk a (pick a k) = k ∧ rk a (pick a k - 1) = k - 1 ∧ l ≤ pick a k ∧ pick a k ≤ 1000000000
  | [], _, k, _, _, h1, h2 => by simp [sz] at h2; omega
  | r :: a, l, k, hl, h, h1, h2 => by
    have f1 := h.1
    have f2 := h.2.1
    have f3 := h.2.2.1
    rw [sz_cons] at h2
    by_cases c : k ≤ r.hi - r.lo + 1
    · rw [pick_in c, rk_in (by omega) (by omega)]
      refine ⟨(mem_cons r a _).2 (Or.inl ⟨by omega, by omega, by omega, by omega⟩), by omega, ?_, by omega, by omega⟩
      by_cases c1 : k = 1
      · rw [rk_before (by omega)]; omega
      · rw [rk_in (by omega) (by omega)]; omega
    · obtain ⟨i1, i2, i3, i4, i5⟩ := pick_good (k := k - (r.hi - r.lo + 1)) (by omega) h.2.2.2 (by omega) (by omega)
      rw [pick_past c, rk_past f2 (by omega), rk_past f2 (by omega), i2, i3]
      exact ⟨(mem_cons r a _).2 (Or.inr i1), by omega, by omega, by omega, i5⟩
theorem pick_none : ∀ {a : List Rn} {l k : Int}, form l a → 1 ≤ k → ¬ k ≤ sz a → pick a k = 0
  | [], _, _, _, _, _ => rfl
  | r :: a, l, k, h, h1, h2 => by
    have h0 := (sz_bd h.2.2.2).1
    rw [sz_cons] at h2
    rw [pick_past (by omega)]
    exact pick_none h.2.2.2 (by omega) (by omega)
theorem pick_rk : ∀ {a : List Rn} {l : Int} (n : Int), form l a → 0 < rk a n → pick a (rk a n) ≤ n
  | [], _, n, _, h => by simp [rk, cutTo, sz] at h
  | r :: a, l, n, h, h0 => by
    have ih := pick_rk n h.2.2.2
    have hb := (rk_bd n h.2.2.2).1
    have f2 := h.2.1
    by_cases c1 : n < r.lo
    · rw [rk_before c1] at h0; omega
    · by_cases c2 : n ≤ r.hi
      · rw [rk_in (by omega) c2, pick_in (by omega)]; omega
      · rw [rk_past f2 (by omega)]
        by_cases c3 : rk a n = 0
        · rw [c3, pick_in (by omega)]; omega
        · rw [pick_past (by omega), show r.hi - r.lo + 1 + rk a n - (r.hi - r.lo + 1) = rk a n by omega]
          exact ih (by omega)
theorem fst_past {r : Rn} {a : List Rn} {f : Int} (h : r.hi < f) : fst (r :: a) f = fst a f := by rw [fst, if_neg (by omega)]
theorem fst_in {r : Rn} {a : List Rn} {f : Int} (h : f ≤ r.hi) : fst (r :: a) f = max r.lo f := by rw [fst, if_pos h]
theorem next_good : ∀ {a : List Rn} {l : Int} (n : Int), 1 ≤ l → form l a → rk a n + 1 ≤ sz a → n < pick a (rk a n + 1) ∧ ∀ f, (rk a n = 0 ∨ pick a (rk a n) < f) → f ≤ pick a (rk a n + 1) → fst a f = pick a (rk a n + 1)
  | [], _, n, _, _, h => by simp [rk, cutTo, sz] at h
  | r :: a, l, n, hl, h, h0 => by
    have ih := next_good n (l := r.hi + 2) (by have := h.1; have := h.2.1; omega) h.2.2.2
    have hb := (rk_bd n h.2.2.2).1
    have f1 := h.1
    have f2 := h.2.1
    rw [sz_cons] at h0
    by_cases c1 : n < r.lo
    · rw [rk_before c1, pick_in (by omega)]
      refine ⟨by omega, fun f _ hf => ?_⟩
      rw [fst_in (by omega)]; omega
    · by_cases c2 : n < r.hi
      · rw [rk_in (by omega) (by omega), pick_in (by omega), pick_in (by omega)]
        refine ⟨by omega, fun f h1 hf => ?_⟩
        rw [fst_in (by omega)]; omega
      · by_cases c3 : n = r.hi
        · have e0 : rk a n = 0 := rk_low h.2.2.2 (by omega)
          rw [rk_in (by omega) (by omega)] at h0 ⊢
          rw [e0] at ih
          obtain ⟨i1, i2⟩ := ih (by omega)
          rw [pick_in (k := n - r.lo + 1) (by omega), pick_past (by omega), show n - r.lo + 1 + 1 - (r.hi - r.lo + 1) = 0 + 1 by omega]
          refine ⟨i1, fun f h1 hf => ?_⟩
          rw [fst_past (by omega)]
          exact i2 f (Or.inl rfl) hf
        · rw [rk_past f2 (by omega)] at h0 ⊢
          obtain ⟨i1, i2⟩ := ih (by omega)
          rw [pick_past (k := r.hi - r.lo + 1 + rk a n + 1) (by omega), show r.hi - r.lo + 1 + rk a n + 1 - (r.hi - r.lo + 1) = rk a n + 1 by omega]
          refine ⟨i1, fun f h1 hf => ?_⟩
          by_cases c4 : rk a n = 0
          · rw [c4, pick_in (by omega)] at h1
            rw [fst_past (by omega)]
            exact i2 f (Or.inl c4) hf
          · rw [pick_past (by omega), show r.hi - r.lo + 1 + rk a n - (r.hi - r.lo + 1) = rk a n by omega] at h1
            have := (pick_good (l := r.hi + 2) (k := rk a n) (by omega) h.2.2.2 (by omega) (by omega)).2.2.2.1
            rw [fst_past (by omega)]
            exact i2 f (Or.inr (by omega)) hf
theorem fst_bd : ∀ {a : List Rn} {l : Int} (f : Int), 1 ≤ l → form l a → 0 ≤ fst a f ∧ fst a f ≤ 1000000000
  | [], _, _, _, _ => by simp [fst]
  | r :: a, l, f, hl, h => by
    have := fst_bd (l := r.hi + 2) f (by have := h.1; have := h.2.1; omega) h.2.2.2
    have := h.1
    have := h.2.1
    have := h.2.2.1
    by_cases c : f ≤ r.hi
    · rw [fst_in c]; omega
    · rw [fst_past (by omega)]; assumption
end Go.Proofs.YtooinnhjeloocaaGreat
namespace Go.Proofs.YtooinnhjeloocaaGreat

theorem rk_step : ∀ {a : List Rn} {l : Int} (n : Int), 1 ≤ n → n ≤ 1000000000 → form l a → (mem a n → rk a n = rk a (n - 1) + 1) ∧ (¬ mem a n → rk a n = rk a (n - 1))
  | [], _, n, _, _, _ => ⟨fun h => absurd h (mem_nil n), fun _ => rfl⟩
  | r :: a, l, n, h1, h2, h => by
    have ih := rk_step n h1 h2 h.2.2.2
    have f2 := h.2.1
    have hs : form r.lo (r :: a) := ⟨Int.le_refl _, h.2⟩
    by_cases c1 : n < r.lo
    · rw [rk_before c1, rk_before (by omega)]
      exact ⟨fun e => by have := form_ge hs e; omega, fun _ => rfl⟩
    · by_cases c2 : n ≤ r.hi
      · have hm : mem (r :: a) n := (mem_cons r a n).2 (Or.inl ⟨h1, h2, by omega, c2⟩)
        refine ⟨fun _ => ?_, fun e => absurd hm e⟩
        rw [rk_in (by omega) c2]
        by_cases c3 : n = r.lo
        · rw [rk_before (by omega)]; omega
        · rw [rk_in (by omega) (by omega)]; omega
      · have hm : mem (r :: a) n ↔ mem a n := by
          rw [mem_cons]
          exact ⟨fun e => e.elim (fun e => by omega) id, Or.inr⟩
        rw [hm, rk_past f2 (by omega)]
        by_cases c3 : n = r.hi + 1
        · have e0 : rk a n = 0 := rk_low h.2.2.2 (by omega)
          rw [rk_in (by omega) (by omega), e0]
          exact ⟨fun e => by have := form_ge h.2.2.2 e; omega, fun _ => by omega⟩
        · rw [rk_past f2 (by omega)]
          exact ⟨fun e => by have := ih.1 e; omega, fun e => by have := ih.2 e; omega⟩
theorem rk_full : ∀ {a : List Rn} {l : Int}, form l a → rk a 1000000000 = sz a
  | [], _, _ => rfl
  | r :: a, l, h => by
    have ih := rk_full h.2.2.2
    have f2 := h.2.1
    have f3 := h.2.2.1
    rw [sz_cons]
    by_cases c : r.hi = 1000000000
    · have hz := sz_bd h.2.2.2
      have e0 : a = [] := by
        rcases hz.2.1 with e | e
        · exact e
        · omega
      rw [rk_in (by omega) (by omega), e0]
      simp [sz]
      omega
    · rw [rk_past f2 (by omega), ih]
/-- two pairs of sets in which each number lies equally often are of one size -/
theorem sz_pairs {P Q R S : List Rn} (hP : form 1 P) (hQ : form 1 Q) (hR : form 1 R) (hS : form 1 S)
    (h : ∀ n, (mem P n ∨ mem Q n ↔ mem R n ∨ mem S n) ∧ (mem P n ∧ mem Q n ↔ mem R n ∧ mem S n)) : sz P + sz Q = sz R + sz S := by
  have key : ∀ k : Nat, k ≤ 1000000000 → rk P k + rk Q k = rk R k + rk S k := by
    intro k
    induction k with
    | zero => intro _; rw [rk_low hP (by omega), rk_low hQ (by omega), rk_low hR (by omega), rk_low hS (by omega)]
    | succ k ih =>
      intro hk
      have ih := ih (by omega)
      obtain ⟨p1, p2⟩ := rk_step ((k + 1 : Nat) : Int) (by omega) (by omega) hP
      obtain ⟨q1, q2⟩ := rk_step ((k + 1 : Nat) : Int) (by omega) (by omega) hQ
      obtain ⟨r1, r2⟩ := rk_step ((k + 1 : Nat) : Int) (by omega) (by omega) hR
      obtain ⟨s1, s2⟩ := rk_step ((k + 1 : Nat) : Int) (by omega) (by omega) hS
      rw [show ((k + 1 : Nat) : Int) - 1 = (k : Int) by omega] at p1 p2 q1 q2 r1 r2 s1 s2
      obtain ⟨g1, g2⟩ := h ((k + 1 : Nat) : Int)
      by_cases cP : mem P ((k + 1 : Nat) : Int) <;> by_cases cQ : mem Q ((k + 1 : Nat) : Int) <;> by_cases cR : mem R ((k + 1 : Nat) : Int) <;> by_cases cS : mem S ((k + 1 : Nat) : Int) <;> simp only [cP, cQ, cR, cS, not_true_eq_false, not_false_eq_true, forall_const, false_implies, or_self, or_true, and_self, and_true, and_false, or_false, iff_true, iff_false] at p1 p2 q1 q2 r1 r2 s1 s2 g1 g2 <;> omega
  have := key 1000000000 (Nat.le_refl _)
  rw [show ((1000000000 : Nat) : Int) = 1000000000 from rfl, rk_full hP, rk_full hQ, rk_full hR, rk_full hS] at this
  exact this
theorem sz_parts {P Q R : List Rn} (hP : form 1 P) (hQ : form 1 Q) (hR : form 1 R)
    (h : ∀ n, (mem P n ∨ mem Q n ↔ mem R n) ∧ ¬ (mem P n ∧ mem Q n)) : sz P + sz Q = sz R := by
  have := sz_pairs hP hQ hR (S := []) trivial (fun n => ⟨by rw [(h n).1]; exact ⟨Or.inl, fun e => e.elim id (fun e => absurd e (mem_nil n))⟩, fun e => absurd e (h n).2, fun e => absurd e.2 (mem_nil n)⟩)
  simpa [sz] using this
theorem sz_top {a : List Rn} (h : form 1 a) : 0 ≤ sz a ∧ sz a ≤ 1000000000 := by
  have hz := sz_bd h
  refine ⟨hz.1, ?_⟩
  rcases hz.2.1 with e | e
  · rw [e]; simp [sz]
  · omega
end Go.Proofs.YtooinnhjeloocaaGreat
