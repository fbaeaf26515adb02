/- Plain facts on patterns: one made from a SKU meets it; without a star it meets no text of another length; without a sign it meets itself alone. -/
import Derived.Test.YtakeckpfblinpaaMeets
import Derived.Test.YtakeckpfblinpaaTyped
namespace Go.Proofs.Ytakeckpfblinpaa

/-- what is appended for one byte -/
def pk (k : Int) (c : UInt8) : List UInt8 :=
  if k = 1 then [63] else if k = 2 ∧ dig c = true then [35] else if k = 2 ∧ lt c = true then [64] else if k = 3 then [42] else if k = 4 then [42, c] else [c]
def pat (l : List UInt8) (K : Nat → Int) : Nat → List UInt8
  | 0 => []
  | n + 1 => pat l K n ++ pk (K n) (l.getD n 0)
/-- was there a star? -/
def star (K : Nat → Int) : Nat → Bool
  | 0 => false
  | n + 1 => star K n || (decide (K n = 3) || decide (K n = 4))
theorem pk_len (k : Int) (c : UInt8) : (pk k c).length ≤ 2 := by
  unfold pk
  repeat' split
  all_goals simp
theorem pat_len (l : List UInt8) (K : Nat → Int) (n : Nat) : (pat l K n).length ≤ 2 * n := by
  induction n with
  | zero => simp [pat]
  | succ n ih => have := pk_len (K n) (l.getD n 0); simp only [pat, List.length_append]; omega

/-- a SKU's byte -/
def sk (c : UInt8) : Bool := mk c || (lt c || dig c)
theorem sk_facts (c : UInt8) (h : sk c = true) : pb c = true ∧ fit c c = true ∧ c ≠ 42 ∧ c ≠ 63 ∧ c ≠ 35 ∧ c ≠ 64 := by
  have := all256 (fun c => !sk c || (pb c && fit c c && !(c == 42) && !(c == 63) && !(c == 35) && !(c == 64))) (by decide +kernel) c
  simpa [h, and_assoc] using this
theorem fit_sk (b c : UInt8) (h : sk b = true) : fit b c = (b == c) := by
  obtain ⟨_, _, _, h1, h2, h3⟩ := sk_facts b h
  unfold fit; rw [if_neg h1, if_neg h2, if_neg h3]
theorem sk_at {l : List UInt8} (hg : good l = true) (i : Nat) (hi : i < l.length) : sk (l.getD i 0) = true := by
  have h := stand_kind (stand_at ((good_iff l).1 hg).2.2 i hi)
  unfold sk
  rcases h with h | h
  · rw [h]; rfl
  · rw [h, Bool.or_true]
theorem pk_pb (k : Int) (c : UInt8) (h : sk c = true) : (pk k c).all pb = true := by
  have h1 := (sk_facts c h).1
  unfold pk
  repeat' split
  all_goals first | decide | simp [h1, show pb 42 = true from by decide]
theorem pat_pb {l : List UInt8} (hg : good l = true) (K : Nat → Int) (n : Nat) (hn : n ≤ l.length) : (pat l K n).all pb = true := by
  induction n with
  | zero => rfl
  | succ n ih => rw [pat, List.all_append, ih (by omega), pk_pb _ _ (sk_at hg n (by omega))]; rfl

theorem rrun_app (p q l : List UInt8) : rrun (p ++ q) l = q.foldl (fun R b => rstep b l R) (rrun p l) := by unfold rrun; rw [List.foldl_append]
/-- one byte of the text further -/
theorem pk_step (l : List UInt8) (R : Nat → Bool) (k : Int) (n : Nat) (hn : n < l.length) (hs : sk (l.getD n 0) = true) (h : R n = true) :
    (pk k (l.getD n 0)).foldl (fun R b => rstep b l R) R (n + 1) = true := by
  have one : ∀ (S : Nat → Bool) (b : UInt8), b ≠ 42 → S n = true → fit b (l.getD n 0) = true → rstep b l S (n + 1) = true := fun S b hb hS hf => by
    rw [rstep_plain b hb, if_pos hn, hS, hf]; rfl
  have st0 : rstep 42 l R n = true := by
    rw [rstep_star]
    cases n with
    | zero => exact h
    | succ m => rw [starF_succ, if_pos (by omega), h, Bool.or_true]
  have st1 : rstep 42 l R (n + 1) = true := by
    rw [rstep_star, starF_succ, if_pos hn]
    rw [rstep_star] at st0
    rw [st0]; rfl
  obtain ⟨_, hf, hne, _, _, _⟩ := sk_facts _ hs
  unfold pk
  split
  · exact one R 63 (by decide) h rfl
  · split
    · rename_i h2
      exact one R 35 (by decide) h (by show dig _ = true; exact h2.2)
    · split
      · rename_i h2
        exact one R 64 (by decide) h (by show lt _ = true; exact h2.2)
      · split
        · exact st1
        · split
          · exact one (rstep 42 l R) _ hne st0 hf
          · exact one R _ hne h hf
theorem pat_meets {l : List UInt8} (hg : good l = true) (K : Nat → Int) (n : Nat) (hn : n ≤ l.length) : rrun (pat l K n) l n = true := by
  induction n with
  | zero => rfl
  | succ n ih => rw [pat, rrun_app]; exact pk_step l _ (K n) n (by omega) (sk_at hg n (by omega)) (ih (by omega))

/-- no star: one byte a piece -/
theorem rrun_len (p l : List UInt8) (hp : ∀ i, i < p.length → p.getD i 0 ≠ 42) (k : Nat) (hk : k ≤ p.length) (j : Nat) (h : rrun (p.take k) l j = true) : j = k := by
  induction k generalizing j with
  | zero => simpa [rrun] using h
  | succ k ih =>
    rw [take_getD p k (by omega), rrun_snoc] at h
    have hb := hp k (by omega)
    cases j with
    | zero => rw [rstep_plain0 _ hb] at h; cases h
    | succ j =>
      rw [rstep_plain _ hb] at h
      split at h
      · have := ih (by omega) j (by simp only [Bool.and_eq_true] at h; exact h.1)
        omega
      · cases h
/-- no sign: the same bytes -/
theorem rrun_same (p l : List UInt8) (hp : ∀ i, i < p.length → sk (p.getD i 0) = true) (k : Nat) (hk : k ≤ p.length) (h : rrun (p.take k) l k = true) : k ≤ l.length ∧ ∀ i, i < k → p.getD i 0 = l.getD i 0 := by
  induction k with
  | zero => exact ⟨Nat.zero_le _, fun i hi => by omega⟩
  | succ k ih =>
    rw [take_getD p k (by omega), rrun_snoc] at h
    have hs := hp k (by omega)
    rw [rstep_plain _ (sk_facts _ hs).2.2.1] at h
    split at h
    · rename_i hl
      simp only [Bool.and_eq_true] at h
      obtain ⟨_, hi⟩ := ih (by omega) h.1
      refine ⟨by omega, fun i hik => ?_⟩
      by_cases he : i = k
      · subst he
        have := h.2
        rw [fit_sk _ _ hs] at this
        simpa using this
      · exact hi i (by omega)
    · cases h
theorem pat_self (s : List UInt8) (n : Nat) (hn : n ≤ s.length) : pat s (fun _ => 0) n = s.take n := by
  induction n with
  | zero => rfl
  | succ n ih =>
    rw [pat, ih (by omega), take_getD s n (by omega)]
    unfold pk
    simp
theorem sku_meets (S T : List UInt8) (hS : good S = true) : rrun S T T.length = (S == T) := by
  rw [Bool.eq_iff_iff]
  constructor
  · intro h
    have hsk : ∀ i, i < S.length → sk (S.getD i 0) = true := fun i hi => sk_at hS i hi
    have e0 : S.take S.length = S := List.take_length
    have h1 := rrun_len S T (fun i hi => (sk_facts _ (hsk i hi)).2.2.1) S.length (Nat.le_refl _) T.length (by rw [e0]; exact h)
    have h2 := (rrun_same S T hsk S.length (Nat.le_refl _) (by rw [e0, ← h1]; exact h)).2
    have : S = T := by
      apply List.ext_getElem h1.symm
      intro i a b
      have := h2 i a
      simp only [List.getD, List.getElem?_eq_getElem a, List.getElem?_eq_getElem b, Option.getD_some] at this
      exact this
    simpa using this
  · intro h
    have h : S = T := by simpa using h
    subst h
    have := pat_meets hS (fun _ => 0) S.length (Nat.le_refl _)
    rwa [pat_self S S.length (Nat.le_refl _), List.take_length] at this
theorem pk_nostar (k : Int) (c : UInt8) (h3 : ¬ k = 3) (h4 : ¬ k = 4) (hs : sk c = true) : (pk k c).length = 1 ∧ ∀ b ∈ pk k c, b ≠ 42 := by
  have hne := (sk_facts c hs).2.2.1
  unfold pk
  rw [if_neg h3, if_neg h4]
  repeat' split
  all_goals simp [hne]
theorem pat_nostar {l : List UInt8} (hg : good l = true) (K : Nat → Int) (n : Nat) (hn : n ≤ l.length) (hs : star K n = false) : (pat l K n).length = n ∧ ∀ b ∈ pat l K n, b ≠ 42 := by
  induction n with
  | zero => simp [pat]
  | succ n ih =>
    simp only [star, Bool.or_eq_false_iff, decide_eq_false_iff_not] at hs
    obtain ⟨h1, h2⟩ := ih (by omega) hs.1
    obtain ⟨h3, h4⟩ := pk_nostar (K n) _ hs.2.1 hs.2.2 (sk_at hg n (by omega))
    rw [pat]
    refine ⟨by rw [List.length_append, h1, h3], fun b hb => ?_⟩
    rcases List.mem_append.1 hb with hb | hb
    · exact h2 b hb
    · exact h4 b hb
/-- one sign too many -/
theorem pat_long {l : List UInt8} (hg : good l = true) (K : Nat → Int) (hs : star K l.length = false) : rrun (pat l K l.length ++ [63]) l l.length = false := by
  obtain ⟨h1, h2⟩ := pat_nostar hg K l.length (Nat.le_refl _) hs
  cases h : rrun (pat l K l.length ++ [63]) l l.length with
  | false => rfl
  | true =>
    have e0 : (pat l K l.length ++ [63]).take (pat l K l.length ++ [63]).length = pat l K l.length ++ [63] := List.take_length
    have := rrun_len (pat l K l.length ++ [63]) l (fun i hi => by
      have hm : (pat l K l.length ++ [63]).getD i 0 ∈ pat l K l.length ++ [63] := by
        simp only [List.getD, List.getElem?_eq_getElem hi, Option.getD_some]; exact List.getElem_mem hi
      rcases List.mem_append.1 hm with hb | hb
      · exact h2 _ hb
      · have : (pat l K l.length ++ [63]).getD i 0 = 63 := by simpa using hb
        rw [this]; decide) _ (Nat.le_refl _) l.length (by rw [e0]; exact h)
    rw [List.length_append, h1] at this
    simp at this
end Go.Proofs.Ytakeckpfblinpaa
