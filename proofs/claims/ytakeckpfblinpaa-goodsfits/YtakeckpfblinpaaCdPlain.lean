/- Plain facts on check digits: one digit makes an article number; 0s in front turn nothing; one digit changed is told. -/
import Derived.Test.YtakeckpfblinpaaWid
namespace Go.Proofs.Ytakeckpfblinpaa
open Go.RowKit

/-- a text of these bytes -/
def bs (l : List UInt8) : ByteArray := ⟨l.toArray⟩
theorem bs_list (l : List UInt8) : (bs l).data.toList = l := by simp [bs]
theorem bs_size (l : List UInt8) : (bs l).size = l.length := by simp [bs, ByteArray.size]
theorem bs_inj {s : ByteArray} {l : List UInt8} (h : s.data.toList = l) : s = bs l := by
  cases s with | mk d => simp [bs] at *; rw [← h]
theorem bs_add (a b : List UInt8) : bs a ++ bs b = bs (a ++ b) := bs_inj (by rw [add_list, bs_list, bs_list])
theorem zs_bs (n : Nat) : zs n = bs (List.replicate n 48) := rfl
theorem allDig_bs (l : List UInt8) : allDig (bs l) = l.all dig := by unfold allDig; rw [bs_list]
theorem cutL_bs (l : List UInt8) (c : UInt8) : cutL (bs (l ++ [c])) = bs l := by
  apply bs_inj
  rw [cutL_list, bs_list, bs_size]
  simp
theorem lastD_bs (l : List UInt8) (c : UInt8) : lastD (bs (l ++ [c])) = (c.toNat : Int) - 48 := by
  unfold lastD
  rw [bs_list, bs_size]
  simp [List.getD]
/-- the byte of a digit -/
def dg (x : Nat) : UInt8 := UInt8.ofNat (48 + x)
theorem dg_nat (x : Nat) (h : x ≤ 9) : (dg x).toNat = 48 + x := by
  unfold dg; rw [UInt8.toNat_ofNat']; omega
theorem dg_dig (x : Nat) (h : x ≤ 9) : dig (dg x) = true := by
  rw [dig_iff, dg_nat x h]; omega
theorem chk_bs (l : List UInt8) : chk (bs l) = (10 - wsum l l.length % 10) % 10 := by
  unfold chk; rw [bs_list, bs_size]
theorem chk_rng (l : List UInt8) : 0 ≤ chk (bs l) ∧ chk (bs l) ≤ 9 := by rw [chk_bs]; omega

theorem nf_ok (l : List UInt8) (Z : List Int) (h0 : 0 < l.length) (h1 : (l.length : Int) ≤ Z.getD 3 0) (h2 : has Z (l.length : Int) = true) (h3 : l.all dig = true) : nf (bs l) Z = 0 := by
  unfold nf
  rw [bs_size, if_neg (by omega), if_neg (by omega), if_pos h2, if_pos (by rw [allDig_bs]; exact h3)]

/-- a row of digits and one more: an article number just if that one is the check digit -/
theorem gt_one (l : List UInt8) (c : UInt8) (hn : l.length = 7 ∨ l.length = 11 ∨ l.length = 12 ∨ l.length = 13) (hd : l.all dig = true) (hc : dig c = true) :
    gtE (bs (l ++ [c])) = if chk (bs l) = (c.toNat : Int) - 48 then 0 else 23 := by
  have h0 : nf (bs (l ++ [c])) [8, 12, 13, 14] = 0 := by
    refine nf_ok _ _ (by simp) ?_ ?_ ?_
    · simp [List.getD]; omega
    · rcases hn with h | h | h | h <;> (simp only [List.length_append, h, List.length_singleton]; decide)
    · rw [List.all_append, hd]; simp [hc]
  unfold gtE
  rw [if_pos h0, cutL_bs, lastD_bs]

theorem wsum_pad (m : Nat) (l : List UInt8) (k : Nat) : wsum (List.replicate m 48 ++ l) k = wsum l k := by
  induction k with
  | zero => rfl
  | succ k ih =>
    unfold wsum
    rw [ih]
    congr 1
    have e : ((List.replicate m (48 : UInt8) ++ l).reverse.getD k 48) = l.reverse.getD k 48 := by
      rw [List.reverse_append, List.reverse_replicate]
      simp only [List.getD]
      by_cases h : k < l.reverse.length
      · rw [List.getElem?_append_left h]
      · rw [List.getElem?_append_right (by omega), List.getElem?_eq_none (by omega : l.reverse.length ≤ k)]
        simp only [List.getElem?_replicate]
        split <;> rfl
    rw [e]
theorem wsum_more (l : List UInt8) (j : Nat) : wsum l (l.length + j) = wsum l l.length := by
  induction j with
  | zero => rfl
  | succ j ih =>
    show wsum l (l.length + j) + wt (l.length + j) * (((l.reverse.getD (l.length + j) 48).toNat : Int) - 48) = wsum l l.length
    rw [ih]
    have e : l.reverse.getD (l.length + j) 48 = 48 := by
      simp only [List.getD]
      rw [List.getElem?_eq_none (by simp)]; rfl
    rw [e]
    have z : (((48 : UInt8).toNat : Int) - 48) = 0 := by decide
    rw [z, Int.mul_zero, Int.add_zero]
theorem chk_pad (m : Nat) (l : List UInt8) : chk (bs (List.replicate m 48 ++ l)) = chk (bs l) := by
  rw [chk_bs, chk_bs, wsum_pad]
  have : (List.replicate m (48 : UInt8) ++ l).length = l.length + m := by simp; omega
  rw [this, wsum_more]
/-- the wide form is an article number -/
theorem gt_wide (l : List UInt8) (c : UInt8) (hn : l.length = 7 ∨ l.length = 11 ∨ l.length = 12 ∨ l.length = 13) (hd : l.all dig = true) (hc : dig c = true) (hk : chk (bs l) = (c.toNat : Int) - 48) :
    gtE (zs (14 - (bs (l ++ [c])).size) ++ bs (l ++ [c])) = 0 ∧ gtN (zs (14 - (bs (l ++ [c])).size) ++ bs (l ++ [c])) = 14 := by
  rw [bs_size, zs_bs, bs_add, ← List.append_assoc]
  have e := gt_one (List.replicate (14 - (l ++ [c]).length) 48 ++ l) c (by simp; omega) (by
    rw [List.all_append, hd, Bool.and_true, List.all_eq_true]; intro x hx; rw [List.eq_of_mem_replicate hx]; rfl) hc
  rw [chk_pad, if_pos hk] at e
  refine ⟨e, ?_⟩
  unfold gtN
  rw [if_pos e, bs_size]
  simp; omega

theorem rev_set (l : List UInt8) (at_ : Nat) (c : UInt8) (k : Nat) (hk : k < l.length) (ha : at_ < l.length) :
    (l.set at_ c).reverse.getD k 48 = if l.length - 1 - at_ = k then c else l.reverse.getD k 48 := by
  simp only [List.getD]
  rw [List.getElem?_reverse (by simpa using hk), List.getElem?_reverse hk, List.length_set]
  by_cases h : l.length - 1 - at_ = k
  · rw [if_pos h]
    have : l.length - 1 - k = at_ := by omega
    rw [this]; simp [ha]
  · rw [if_neg h, List.getElem?_set_ne (by omega)]
theorem wsum_set (l : List UInt8) (at_ : Nat) (c : UInt8) (ha : at_ < l.length) (k : Nat) (hk : k ≤ l.length) :
    wsum (l.set at_ c) k = wsum l k + (if l.length - 1 - at_ < k then wt (l.length - 1 - at_) * ((c.toNat : Int) - ((l.reverse.getD (l.length - 1 - at_) 48).toNat : Int)) else 0) := by
  induction k with
  | zero => simp [wsum]
  | succ k ih =>
    unfold wsum
    rw [ih (by omega), rev_set l at_ c k (by omega) ha]
    by_cases h : l.length - 1 - at_ = k
    · rw [if_pos h, if_neg (by omega), if_pos (by omega), h]
      have e1 : wt k * ((c.toNat : Int) - 48) = wt k * (c.toNat : Int) - wt k * 48 := Int.mul_sub ..
      have e2 : wt k * ((c.toNat : Int) - ((l.reverse.getD k 48).toNat : Int)) = wt k * (c.toNat : Int) - wt k * ((l.reverse.getD k 48).toNat : Int) := Int.mul_sub ..
      have e3 : wt k * (((l.reverse.getD k 48).toNat : Int) - 48) = wt k * ((l.reverse.getD k 48).toNat : Int) - wt k * 48 := Int.mul_sub ..
      rw [e1, e2, e3]; omega
    · rw [if_neg h]
      by_cases h2 : l.length - 1 - at_ < k
      · rw [if_pos h2, if_pos (by omega)]; omega
      · rw [if_neg h2, if_neg (by omega)]; omega
/-- one digit changed: another check digit -/
theorem chk_set (l : List UInt8) (at_ : Nat) (x st : Nat) (ha : at_ < l.length) (hx : x ≤ 9) (hs1 : 1 ≤ st) (hs9 : st ≤ 9) (hl : l.getD at_ 48 = dg x) : chk (bs (l.set at_ (dg ((x + st) % 10)))) ≠ chk (bs l) := by
  rw [chk_bs, chk_bs, List.length_set, wsum_set l at_ _ ha l.length (Nat.le_refl _), if_pos (by omega)]
  have e : l.reverse.getD (l.length - 1 - at_) 48 = dg x := by
    rw [← hl]; simp only [List.getD]
    rw [List.getElem?_reverse (by omega)]
    have : l.length - 1 - (l.length - 1 - at_) = at_ := by omega
    rw [this]
  rw [e, dg_nat x hx, dg_nat _ (by omega)]
  generalize wsum l l.length = q
  unfold wt
  split <;> omega
end Go.Proofs.Ytakeckpfblinpaa
