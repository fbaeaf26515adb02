/- a part of a row of bytes. -/
import Derived.Test.YtflinfmhmokfhaaUFn
namespace Go.Proofs.Ytflinfmhmokfhaa
open Go.RowKit

theorem drop_getD (Z : List Int) (a t : Nat) : (Z.drop a).getD t 0 = Z.getD (a + t) 0 := by simp [List.getD]
theorem src_nil (w : World) : Src w none 0 0 [] := ⟨rfl, fun _ => ⟨rfl, rfl⟩, fun ad h => (by cases h), fun t => (by simp [List.getD])⟩
theorem Src.from {w : World} {ad : Addr} {n cap : Nat} {Z : List Int} (h : Src w (some ad) n cap Z) (a : Nat) (ha : a ≤ n) (ad' : Addr) (hd : a < n → ad' = ad.add a) (cap' : Nat) : Src w (some ad') (n - a) cap' (Z.drop a) := by
  refine ⟨by simp [h.1], fun h => (by cases h), fun ad1 h1 t ht => ?_, fun t => (by rw [drop_getD]; exact h.2.2.2 _)⟩
  obtain rfl := Option.some.inj h1
  rw [hd (by omega), drop_getD, Addr.add_add]
  exact h.2.2.1 ad rfl (a + t) (by omega)
theorem scan_size (Z : List Int) (a f k : Nat) (h : (scan Z a f k).2.2 = 0) : 0 < (scan Z a f k).2.1 ∧ (a : Int) + (scan Z a f k).2.1 ≤ Z.length := by
  induction f generalizing k with
  | zero => exact absurd (show (51 : Int) = 0 from h) (by decide)
  | succ f ih =>
    unfold scan at h ⊢
    split at h
    · exact absurd h (by decide)
    · rename_i h1
      rw [if_neg h1]
      split at h
      · rename_i h2
        rw [if_pos h2]
        split at h
        · exact absurd h (by decide)
        · rename_i h3; rw [if_neg h3]; constructor
          · show (0 : Int) < (k : Int) + 1; omega
          · show (a : Int) + ((k : Int) + 1) ≤ _; omega
      · rename_i h2
        rw [if_neg h2]
        exact ih _ h
theorem Src.sub {w : World} {ao : Option Addr} {n cap : Nat} {Z : List Int} (h : Src w ao n cap Z) (k : Nat) (hk : k ≤ n) (hcap : n ≤ cap) :
    ∃ ao' cap', ((ao = none ∧ ao' = none ∧ cap' = cap - k) ∨ (∃ ad, ao = some ad ∧ cap = k ∧ ao' = some ad ∧ cap' = 0) ∨ ∃ ad, ao = some ad ∧ ¬ cap = k ∧ ao' = some (ad.add k) ∧ cap' = cap - k) ∧ Src w ao' (n - k) cap' (Z.drop k) ∧ n - k ≤ cap' := by
  cases ao with
  | none =>
    have := h.2.1 rfl
    refine ⟨none, cap - k, Or.inl ⟨rfl, rfl, rfl⟩, ⟨by simp [h.1], fun _ => by omega, fun ad h => (by cases h), fun t => (by rw [drop_getD]; exact h.2.2.2 _)⟩, by omega⟩
  | some ad =>
    by_cases hc : cap = k
    · exact ⟨some ad, 0, Or.inr (Or.inl ⟨ad, rfl, hc, rfl, rfl⟩), h.from k hk ad (fun hl => by omega) _, by omega⟩
    · exact ⟨some (ad.add k), cap - k, Or.inr (Or.inr ⟨ad, rfl, hc, rfl, rfl⟩), h.from k hk _ (fun _ => rfl) _, by omega⟩
end Go.Proofs.Ytflinfmhmokfhaa
