/- Numbers read back: what numB wrote is read, what is read numB writes. -/
import Derived.Test.YtflinfmhmokfhaaURj
namespace Go.Proofs.Ytflinfmhmokfhaa
open Go.RowKit

theorem numB_oct : ∀ (n : Nat) (t : Nat), 0 ≤ (numB n).getD t 0 ∧ (numB n).getD t 0 ≤ 255 := fun n => by
  induction n using Nat.strongRecOn with
  | _ n ih =>
    intro t
    by_cases hs : n < 128
    · rw [numB_lt hs]
      match t with
      | 0 => exact ⟨by show (0 : Int) ≤ (n : Int); omega, by show (n : Int) ≤ 255; omega⟩
      | t + 1 => simp
    · rw [numB_ge hs]
      match t with
      | 0 => exact ⟨by show (0 : Int) ≤ ((n % 128 + 128 : Nat) : Int); omega, by show ((n % 128 + 128 : Nat) : Int) ≤ 255; omega⟩
      | t + 1 => exact ih (n / 128) (by omega) t
theorem drop_cons_at {Z : List Int} {a : Nat} {x : Int} {R : List Int} (h : Z.drop a = x :: R) : a < Z.length ∧ Z.getD a 0 = x ∧ Z.drop (a + 1) = R := by
  have hl : a < Z.length := by
    have := congrArg List.length h
    rw [List.length_drop, List.length_cons] at this
    omega
  rw [List.drop_eq_getElem_cons hl] at h
  injection h with h1 h2
  exact ⟨hl, by rw [List.getD_eq_getElem?_getD, List.getElem?_eq_getElem hl]; exact h1, h2⟩
theorem val_step (Z : List Int) (a k : Nat) {x : Int} (hx : Z.getD (a + k) 0 = x) : val Z a (k + 1) = val Z a k + x % 128 * 128 ^ k := by
  show val Z a k + (Z.getD (a + k) 0 % 128) * 128 ^ k = _
  rw [hx]
/-- what numB wrote is read -/
theorem scan_numB (Z : List Int) (a : Nat) (R : List Int) : ∀ (f k v : Nat), Z.drop (a + k) = numB v ++ R → (numB v).length ≤ f → (v = 0 → k = 0) → scan Z a f k = (val Z a k + (v : Int) * 128 ^ k, ((k + (numB v).length : Nat) : Int), 0)
  | 0, k, v, _, hl, _ => by
    by_cases hs : v < 128
    · rw [numB_lt hs] at hl; simp at hl
    · rw [numB_ge hs] at hl; simp at hl
  | f + 1, k, v, hd, hl, h0 => by
    by_cases hs : v < 128
    · rw [numB_lt hs] at hd ⊢
      obtain ⟨h1, h2, h3⟩ := drop_cons_at hd
      rw [scan_good Z a f k (by omega) (by rw [h2]; omega) (fun h => by have := h.1; rw [h2] at this; have := h0 (by omega); omega), val_step Z a k h2]
      have : (v : Int) % 128 = v := by omega
      rw [this]
      rfl
    · rw [numB_ge hs, List.cons_append] at hd
      obtain ⟨h1, h2, h3⟩ := drop_cons_at hd
      have hl2 : (numB v).length = (numB (v / 128)).length + 1 := by rw [numB_ge hs]; rfl
      rw [scan_on Z a f k (by omega) (by rw [h2]; omega), scan_numB Z a R f (k + 1) (v / 128) h3 (by omega) (fun h => by omega), val_step Z a k h2, hl2]
      have e1 : ((v % 128 + 128 : Nat) : Int) % 128 = (v : Int) % 128 := by omega
      have e2 : (v : Int) = (v : Int) % 128 + ((v / 128 : Nat) : Int) * 128 := by omega
      rw [e1, Int.pow_succ]
      have e3 : (v : Int) * 128 ^ k = (v : Int) % 128 * 128 ^ k + ((v / 128 : Nat) : Int) * (128 ^ k * 128) := by
        rw [Int.mul_comm (128 ^ k) 128, ← Int.mul_assoc, ← Int.add_mul, ← e2]
      rw [e3]
      congr 1
      · omega
      · congr 1
        omega
/-- of a strict beginning nothing -/
theorem scan_short (Z : List Int) (a : Nat) : ∀ (t f k v : Nat), Z.drop (a + k) = (numB v).take t → t < (numB v).length → t < f → scan Z a f k = (0, 0, 50)
  | 0, f + 1, k, v, hd, _, _ => by
    have : Z.length ≤ a + k := by
      have := congrArg List.length hd
      rw [List.length_drop] at this
      simp at this
      omega
    exact scan_end Z a f k this
  | t + 1, f + 1, k, v, hd, hl, hf => by
    by_cases hs : v < 128
    · rw [numB_lt hs] at hl; simp at hl
    · rw [numB_ge hs, List.take_succ_cons] at hd
      obtain ⟨h1, h2, h3⟩ := drop_cons_at hd
      rw [scan_on Z a f k (by omega) (by rw [h2]; omega)]
      refine scan_short Z a t f (k + 1) (v / 128) h3 ?_ (by omega)
      rw [numB_ge hs, List.length_cons] at hl
      omega
  | _, 0, _, _, _, _, h => absurd h (Nat.not_lt_zero _)
/-- what is read numB writes -/
theorem scan_back (Z : List Int) (hZ : ∀ t, 0 ≤ Z.getD t 0 ∧ Z.getD t 0 ≤ 255) (a : Nat) : ∀ (f k : Nat) (x y : Int), scan Z a f k = (x, y, 0) → ∃ v : Nat, x = val Z a k + (v : Int) * 128 ^ k ∧ y = ((k + (numB v).length : Nat) : Int) ∧ Z.drop (a + k) = numB v ++ Z.drop (a + k + (numB v).length) ∧ (v = 0 → k = 0)
  | 0, k, x, y, h => by unfold scan at h; simp at h
  | f + 1, k, x, y, h => by
    by_cases hl : Z.length ≤ a + k
    · rw [scan_end Z a f k hl] at h; simp at h
    · have hb := hZ (a + k)
      have hdr : Z.drop (a + k) = Z.getD (a + k) 0 :: Z.drop (a + k + 1) := by
        rw [List.drop_eq_getElem_cons (by omega), List.getD_eq_getElem?_getD, List.getElem?_eq_getElem (by omega)]
        rfl
      obtain ⟨c, hc⟩ : ∃ c, Z.getD (a + k) 0 = c := ⟨_, rfl⟩
      rw [hc] at hb hdr
      by_cases h1 : c < 128
      · by_cases h2 : c = 0 ∧ 0 < k
        · rw [scan_bad Z a f k hl (by rw [hc]; exact h2.1) h2.2] at h; simp at h
        · rw [scan_good Z a f k hl (by rw [hc]; exact h1) (by rw [hc]; exact h2), val_step Z a k hc] at h
          simp only [Prod.mk.injEq, and_true] at h
          have hn : numB c.toNat = [c] := by rw [numB_lt (by omega)]; congr 1; omega
          refine ⟨c.toNat, ?_, ?_, ?_, fun h => by omega⟩
          · rw [← h.1]
            have : c % 128 = ((c.toNat : Nat) : Int) := by omega
            rw [this]
          · rw [← h.2, hn]; rfl
          · rw [hn]; exact hdr
      · rw [scan_on Z a f k hl (by rw [hc]; exact h1)] at h
        obtain ⟨v, e1, e2, e3, e4⟩ := scan_back Z hZ a f (k + 1) x y h
        have hv : v ≠ 0 := fun h => by have := e4 h; omega
        have hm : (c.toNat - 128 + 128 * v) % 128 + 128 = c.toNat := by omega
        have hd : (c.toNat - 128 + 128 * v) / 128 = v := by omega
        have hn : numB (c.toNat - 128 + 128 * v) = c :: numB v := by
          rw [numB_ge (by omega), hm, hd]
          congr 1
          omega
        refine ⟨c.toNat - 128 + 128 * v, ?_, ?_, ?_, fun h => by omega⟩
        · rw [e1, val_step Z a k hc, Int.pow_succ]
          have q1 : c % 128 = c - 128 := by omega
          have q2 : ((c.toNat - 128 + 128 * v : Nat) : Int) = (c - 128) + (v : Int) * 128 := by omega
          rw [q1, q2, Int.add_mul, Int.mul_assoc, Int.mul_comm 128 (128 ^ k)]
          omega
        · rw [e2, hn, List.length_cons]; omega
        · rw [hn, hdr, List.cons_append, List.length_cons]
          have : a + (k + 1) = a + k + 1 := by omega
          rw [this] at e3
          rw [e3, show a + k + ((numB v).length + 1) = a + k + 1 + (numB v).length by omega]
end Go.Proofs.Ytflinfmhmokfhaa
