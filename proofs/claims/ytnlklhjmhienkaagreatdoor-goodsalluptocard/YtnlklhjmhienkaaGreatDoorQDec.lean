/- Decimal numerals there and back: no program in this text. -/
import Derived.Lib.ItoaMem
import Derived.Lib.Atoi
namespace Go.Proofs.YtnlklhjmhienkaaGreatDoor.Q
open Go.Lib

theorem dv_dig (d : Nat) (h : d < 10) : digitVal (UInt8.ofNat (48 + d)) = some d := by
  have e : (UInt8.ofNat (48 + d)).toNat = 48 + d := by simp [UInt8.toNat_ofNat']; omega
  unfold digitVal; rw [e, if_pos (by omega)]; simp
theorem decFrom_snoc : ∀ (l : List UInt8) (acc n d : Nat) (b : UInt8), decFrom acc l = some n → digitVal b = some d → decFrom acc (l ++ [b]) = some (n * 10 + d)
  | [], acc, n, d, b, h, hd => by
    simp only [decFrom, Option.some.injEq] at h; subst h
    simp [decFrom, hd]
  | c :: r, acc, n, d, b, h, hd => by
    simp only [decFrom, List.cons_append] at h ⊢
    cases hc : digitVal c with
    | none => rw [hc] at h; cases h
    | some x => rw [hc] at h; simp only at h ⊢; exact decFrom_snoc r _ n d b h hd
theorem decDigits_ne (u : Nat) : decDigits u ≠ [] := by rw [decDigits]; split <;> simp
theorem decFrom_dec (u : Nat) : decFrom 0 (decDigits u) = some u := by
  induction u using Nat.strongRecOn with
  | ind u ih =>
    by_cases h : u < 10
    · rw [decDigits, dif_pos h]; simp only [decFrom, dv_dig u h, Nat.zero_mul, Nat.zero_add]
    · rw [decDigits, dif_neg h, decFrom_snoc _ _ _ _ _ (ih (u / 10) (by omega)) (dv_dig (u % 10) (by omega))]
      congr 1; omega
/-- every byte of a numeral is a digit -/
theorem dec_digit (u : Nat) : ∀ b ∈ decDigits u, 48 ≤ b.toNat ∧ b.toNat ≤ 57 := by
  induction u using Nat.strongRecOn with
  | ind u ih =>
    intro b hb
    by_cases h : u < 10
    · rw [decDigits, dif_pos h] at hb; simp only [List.mem_singleton] at hb; subst hb; simp [UInt8.toNat_ofNat']; omega
    · rw [decDigits, dif_neg h, List.mem_append] at hb
      rcases hb with hb | hb
      · exact ih _ (by omega) b hb
      · simp only [List.mem_singleton] at hb; subst hb; simp [UInt8.toNat_ofNat']; omega
/-- a number that is not nought begins with no 0 -/
theorem dec_head (u : Nat) (h0 : 1 ≤ u) : ∃ b r, decDigits u = b :: r ∧ 49 ≤ b.toNat := by
  induction u using Nat.strongRecOn with
  | ind u ih =>
    by_cases h : u < 10
    · exact ⟨UInt8.ofNat (48 + u), [], by rw [decDigits, dif_pos h], by simp [UInt8.toNat_ofNat']; omega⟩
    · obtain ⟨b, r, e, hb⟩ := ih (u / 10) (by omega) (by omega)
      exact ⟨b, r ++ [UInt8.ofNat (48 + u % 10)], by rw [decDigits, dif_neg h, e]; rfl, hb⟩
theorem dig_back (b : UInt8) (h1 : 48 ≤ b.toNat) : UInt8.ofNat (48 + (b.toNat - 48)) = b := by
  rw [show 48 + (b.toNat - 48) = b.toNat by omega]; simp
/-- digits with no 0 ahead are the numeral of what they spell -/
theorem dec_back (l : List UInt8) (c : UInt8) (n : Nat) (hc : 49 ≤ c.toNat) (h : decFrom 0 (c :: l) = some n) : decDigits n = c :: l ∧ 1 ≤ n := by
  generalize hk : l.length = k
  induction k generalizing l n with
  | zero =>
    have : l = [] := List.length_eq_zero_iff.1 hk
    subst this
    simp only [decFrom] at h
    cases hd : digitVal c with
    | none => rw [hd] at h; cases h
    | some d =>
      rw [hd] at h
      obtain ⟨q1, q2, q3⟩ := digitVal_eq hd
      simp only [Nat.zero_mul, Nat.zero_add, Option.some.injEq] at h
      subst h
      rw [decDigits, dif_pos (by omega), q3, dig_back c q1]
      exact ⟨rfl, by omega⟩
  | succ k ih =>
    obtain ⟨l', b, rfl⟩ : ∃ l' b, l = l' ++ [b] := ⟨l.dropLast, l.getLast (by intro e; simp [e] at hk), (List.dropLast_concat_getLast _).symm⟩
    have hl : l'.length = k := by simpa using hk
    obtain ⟨m, hm⟩ := decFrom_prefix _ 0 n h (c :: l').length
    rw [← List.cons_append, List.take_left'  rfl] at hm
    obtain ⟨d, hd⟩ := digit_of_decFrom _ 0 n h (l'.length + 1) b (by simp)
    have hn := decFrom_snoc _ 0 m d b hm hd
    rw [List.cons_append] at hn
    rw [hn] at h
    simp only [Option.some.injEq] at h
    obtain ⟨e, h1⟩ := ih l' m hm hl
    obtain ⟨q1, q2, q3⟩ := digitVal_eq hd
    subst h
    rw [decDigits, dif_neg (by omega), show (m * 10 + d) / 10 = m by omega, show (m * 10 + d) % 10 = d by omega, e, q3, dig_back b q1]
    exact ⟨rfl, by omega⟩
/-- digits spell a number -/
theorem decFrom_all : ∀ (l : List UInt8) (acc : Nat), (∀ b ∈ l, 48 ≤ b.toNat ∧ b.toNat ≤ 57) → ∃ n, decFrom acc l = some n
  | [], acc, _ => ⟨acc, rfl⟩
  | c :: r, acc, h => by
    obtain ⟨n, hn⟩ := decFrom_all r (acc * 10 + (c.toNat - 48)) fun b hb => h b (List.mem_cons_of_mem _ hb)
    have hc := h c List.mem_cons_self
    refine ⟨n, ?_⟩
    simp only [decFrom, digitVal, if_pos hc]; exact hn
/-- Atoi over digits -/
theorem atoi_digits (l : List UInt8) (n : Nat) (h0 : l ≠ []) (hd : ∀ b ∈ l, 48 ≤ b.toNat ∧ b.toNat ≤ 57) (h : decFrom 0 l = some n) : atoi l = some (n : Int) := by
  cases l with
  | nil => exact absurd rfl h0
  | cons c r =>
    have hc := hd c List.mem_cons_self
    have h1 : (c == 45) = false := by
      rw [beq_eq_false_iff_ne]; intro e; subst e; exact absurd hc.1 (by decide)
    have h2 : (c == 43) = false := by
      rw [beq_eq_false_iff_ne]; intro e; subst e; exact absurd hc.1 (by decide)
    unfold atoi
    simp only [h1, h2, decNat, List.isEmpty_cons, h]; rfl
theorem dec_len7 (u : Nat) (h1 : 1 ≤ u) (h : u ≤ 1000000) : (decDigits u).length ≤ 7 := by
  rw [decDigits_length]
  by_cases hk : nDigits u ≤ 7
  · exact hk
  · have : 10 ^ (nDigits u - 1) ≤ u := by
      clear hk h
      induction u using Nat.strongRecOn with
      | ind u ih =>
        by_cases h : u < 10
        · rw [nDigits_small h]; simpa using h1
        · rw [nDigits_big h]
          have := ih (u / 10) (by omega) (by omega)
          have hp := nDigits_pos (u / 10)
          rw [show nDigits (u / 10) + 1 - 1 = (nDigits (u / 10) - 1) + 1 by omega, Nat.pow_succ]
          omega
    have h7 : 10 ^ 7 ≤ 10 ^ (nDigits u - 1) := Nat.pow_le_pow_right (by decide) (by omega)
    omega
end Go.Proofs.YtnlklhjmhienkaaGreatDoor.Q
