/- UPl -/
import Derived.Test.YtnghfnhpjdafmaaBk23
import Derived.Lib.BitFns
namespace Go.Proofs.Ytnghfnhpjdafmaa.U
open Go.RowKit

theorem ret_three {a a' b b' c c' : Int} (h : a = a') (h2 : b = b') (h3 : c = c') : Ending.returned (.tuple #[.int .i64 a, .int .i64 b, .int .i64 c]) = .returned (.tuple #[.int .i64 a', .int .i64 b', .int .i64 c']) := by rw [h, h2, h3]
/-- bytes that were handed in -/
def Src (w : World) (ao : Option Addr) (m c : Nat) (Z : List Int) : Prop :=
  Z.length = m ∧ (ao = none → m = 0 ∧ c = 0) ∧ (∀ ad, ao = some ad → ∀ t, t < m → w.cell? (ad.add t) = some (.int .u8 (Z.getD t 0))) ∧ ∀ t, 0 ≤ Z.getD t 0 ∧ Z.getD t 0 ≤ 255
theorem Src.below {w w' : World} {ao : Option Addr} {m c : Nat} {Z : List Int} (h : Src w ao m c Z) (hb : Below w.heap.size w w') : Src w' ao m c Z :=
  ⟨h.1, h.2.1, fun ad ha t ht => (hb.cell (World.block_lt_of_cell? w _ (h.2.2.1 ad ha t ht))).trans (h.2.2.1 ad ha t ht), h.2.2.2⟩

/-- what the first k bytes from a on tell -/
def val (Z : List Int) (a : Nat) : Nat → Int
  | 0 => 0
  | k + 1 => val Z a k + (Z.getD (a + k) 0 % 128) * 128 ^ k
theorem pow128 (k : Nat) : (0 : Int) < 128 ^ k := Int.pow_pos (by omega)
theorem val_bd (Z : List Int) (a k : Nat) : 0 ≤ val Z a k ∧ val Z a k < 128 ^ k := by
  induction k with
  | zero => exact ⟨Int.le_refl _, by simp [val]⟩
  | succ k ih =>
    have hp := pow128 k
    have h1 : 0 ≤ Z.getD (a + k) 0 % 128 := Int.emod_nonneg _ (by omega)
    have h2 : Z.getD (a + k) 0 % 128 ≤ 127 := by have := Int.emod_lt_of_pos (Z.getD (a + k) 0) (show (0 : Int) < 128 by omega); omega
    have h3 : 0 ≤ (Z.getD (a + k) 0 % 128) * 128 ^ k := Int.mul_nonneg h1 (Int.le_of_lt hp)
    have h4 : (Z.getD (a + k) 0 % 128) * 128 ^ k ≤ 127 * 128 ^ k := Int.mul_le_mul_of_nonneg_right h2 (Int.le_of_lt hp)
    refine ⟨by show 0 ≤ val Z a k + _; omega, ?_⟩
    show val Z a k + _ < (128 : Int) ^ (k + 1)
    rw [Int.pow_succ]
    omega
theorem val_drop (Z : List Int) (a k : Nat) : val (Z.drop a) 0 k = val Z a k := by
  induction k with
  | zero => rfl
  | succ k ih => simp only [val, ih, Nat.zero_add]; simp [List.getD]
/-- the number at the place a: it, how many bytes it takes, the error -/
def scan (Z : List Int) (a : Nat) : Nat → Nat → Int × Int × Int
  | 0, _ => (0, 0, 51)
  | f + 1, k => if Z.length ≤ a + k then (0, 0, 50) else if Z.getD (a + k) 0 < 128 then (if Z.getD (a + k) 0 = 0 ∧ 0 < k then (0, 0, 51) else (val Z a (k + 1), (k : Int) + 1, 0)) else scan Z a f (k + 1)
def rdN (Z : List Int) (a : Nat) : Int × Int × Int := scan Z a 9 0
theorem scan_drop (Z : List Int) (a f k : Nat) : scan (Z.drop a) 0 f k = scan Z a f k := by
  induction f generalizing k with
  | zero => rfl
  | succ f ih =>
    have e : (Z.drop a).getD (0 + k) 0 = Z.getD (a + k) 0 := by simp [List.getD]
    have l : (Z.drop a).length ≤ 0 + k ↔ Z.length ≤ a + k := by simp; omega
    simp only [scan, val_drop, e, ih, l]
theorem rdN_drop (Z : List Int) (a : Nat) : rdN (Z.drop a) 0 = rdN Z a := scan_drop Z a 9 0
/-- Num's answer -/
def numA (Z : List Int) (a : Int) : Int × Int × Int :=
  if a < 0 ∨ (Z.length : Int) < a then (0, 0, 2) else if (rdN Z a.toNat).2.2 = 0 then ((rdN Z a.toNat).1, a + (rdN Z a.toNat).2.1, 0) else (0, 0, (rdN Z a.toNat).2.2)
theorem scan_err (Z : List Int) (a f k : Nat) (h : (scan Z a f k).2.2 ≠ 0) : (scan Z a f k).1 = 0 ∧ (scan Z a f k).2.1 = 0 := by
  induction f generalizing k with
  | zero => exact ⟨rfl, rfl⟩
  | succ f ih =>
    unfold scan at h ⊢
    split at h
    · rename_i h1; rw [if_pos h1]; exact ⟨rfl, rfl⟩
    · rename_i h1
      rw [if_neg h1]
      split at h
      · rename_i h2
        rw [if_pos h2]
        split at h
        · rename_i h3; rw [if_pos h3]; exact ⟨rfl, rfl⟩
        · exact absurd rfl h
      · rename_i h2
        rw [if_neg h2]
        exact ih _ h

/-- two numbers that share no bit -/
theorem or_add (x g : Int) (k : Nat) (hk : k ≤ 8) (h0 : 0 ≤ x) (h1 : x < 128 ^ k) (g0 : 0 ≤ g) (g1 : g ≤ 127) : bits .or .i64 x (g * 128 ^ k) = x + g * 128 ^ k := by
  obtain ⟨X, rfl⟩ := Int.eq_ofNat_of_zero_le h0
  obtain ⟨G, rfl⟩ := Int.eq_ofNat_of_zero_le g0
  have hX : X < 2 ^ (7 * k) := by rw [Nat.pow_mul]; exact_mod_cast h1
  have hG : G < 128 := by omega
  have e : (G : Int) * 128 ^ k = ((2 ^ (7 * k) * G : Nat) : Int) := by rw [Nat.pow_mul, Nat.mul_comm]; simp
  have hlt : 2 ^ (7 * k) * G + X < 2 ^ 63 := by
    have h5 : 2 ^ (7 * k) * G + X < 2 ^ (7 * k) * 128 := by
      have : 2 ^ (7 * k) * G + 2 ^ (7 * k) ≤ 2 ^ (7 * k) * 128 := by rw [← Nat.mul_succ]; exact Nat.mul_le_mul_left _ hG
      omega
    have h6 : 2 ^ (7 * k) * 128 ≤ 2 ^ 63 := by rw [show (128 : Nat) = 2 ^ 7 from rfl, ← Nat.pow_add]; exact Nat.pow_le_pow_right (by omega) (by omega)
    omega
  rw [e]
  show IntKind.i64.wrap ((BitVec.ofInt 64 ((X : Nat) : Int) ||| BitVec.ofInt 64 ((2 ^ (7 * k) * G : Nat) : Int)).toNat : Int) = _
  rw [BitVec.toNat_or, BitVec.toNat_ofInt, BitVec.toNat_ofInt]
  have m1 : ((X : Int) % ((2 ^ 64 : Nat) : Int)).toNat = X := by omega
  have m2 : (((2 ^ (7 * k) * G : Nat) : Int) % ((2 ^ 64 : Nat) : Int)).toNat = 2 ^ (7 * k) * G := by
    generalize 2 ^ (7 * k) * G = q at hlt ⊢
    omega
  rw [m1, m2, Nat.or_comm, ← Nat.two_pow_add_eq_or_of_lt hX]
  generalize 2 ^ (7 * k) * G = q at hlt ⊢
  have hlt' : ((q + X : Nat) : Int) < 9223372036854775808 := by omega
  have h0' : 0 ≤ ((q + X : Nat) : Int) := by omega
  have e' : (X : Int) + q = ((q + X : Nat) : Int) := by omega
  rw [e']
  generalize ((q + X : Nat) : Int) = r at hlt' h0' ⊢
  have hm : r % 2 ^ 64 = r := by omega
  simp only [IntKind.wrap, IntKind.bits, IntKind.signed, hm]
  rw [if_neg (by simp; omega)]
end Go.Proofs.Ytnghfnhpjdafmaa.U
