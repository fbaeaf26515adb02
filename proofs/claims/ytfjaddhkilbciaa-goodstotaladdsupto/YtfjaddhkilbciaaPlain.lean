/- Plain facts: Total of two lists one behind the other; of ones; what a block's numbers are, place by place. -/
import Derived.Test.YtfjaddhkilbciaaSteps
namespace Go.Proofs.Ytfjaddhkilbciaa
open Go.RowKit

theorem tot_bd (l : List Int) : 0 ≤ totN l ∧ totN l ≤ 1000000 := by
  unfold totN totE
  by_cases h : l.all qty = true
  · have := sumL_bd l h
    by_cases h2 : 1000000 < sumL l
    · simp [h, h2]
    · simp [h, h2]; omega
  · simp [h]

/-- how the errors and numbers of two lists and of the whole hang together -/
theorem tails (A B : List Int) : (totE A = 6 ∧ totE (A ++ B) = 6 ∧ totN (A ++ B) = 0) ∨ (totE A = 0 ∧ totE B = 6 ∧ totE (A ++ B) = 6 ∧ totN (A ++ B) = 0) ∨ (totE A = 13 ∧ totE B = 6 ∧ totE (A ++ B) = 6 ∧ totN (A ++ B) = 0) ∨
    (totE A = 13 ∧ totE B = 13 ∧ totE (A ++ B) = 13 ∧ totN (A ++ B) = 0) ∨ (totE A = 13 ∧ totE B = 0 ∧ totE (A ++ B) = 13 ∧ totN (A ++ B) = 0) ∨ (totE A = 0 ∧ totE B = 13 ∧ totE (A ++ B) = 13 ∧ totN (A ++ B) = 0) ∨
    (totE A = 0 ∧ totE B = 0 ∧ 1000000 < totN A + totN B ∧ totE (A ++ B) = 13 ∧ totN (A ++ B) = 0) ∨ (totE A = 0 ∧ totE B = 0 ∧ totN A + totN B ≤ 1000000 ∧ totE (A ++ B) = 0 ∧ totN (A ++ B) = totN A + totN B) := by
  have hs := sumL_append A B
  by_cases ha : A.all qty = true
  · have ba := sumL_bd A ha
    by_cases hb : B.all qty = true
    · have bb := sumL_bd B hb
      have hab : (A ++ B).all qty = true := by rw [List.all_append, ha, hb]; rfl
      by_cases h1 : 1000000 < sumL A
      · have e1 : totE A = 13 := by simp [totE, ha, h1]
        have e3 : totE (A ++ B) = 13 := by unfold totE; rw [if_pos hab, if_pos (by omega)]
        by_cases h2 : 1000000 < sumL B
        · have e2 : totE B = 13 := by simp [totE, hb, h2]
          simp [e1, e2, e3, totN]
        · have e2 : totE B = 0 := by simp [totE, hb, h2]
          simp [e1, e2, e3, totN]
      · have e1 : totE A = 0 := by simp [totE, ha, h1]
        by_cases h2 : 1000000 < sumL B
        · have e2 : totE B = 13 := by simp [totE, hb, h2]
          have e3 : totE (A ++ B) = 13 := by unfold totE; rw [if_pos hab, if_pos (by omega)]
          simp [e1, e2, e3, totN]
        · have e2 : totE B = 0 := by simp [totE, hb, h2]
          by_cases h3 : 1000000 < sumL A + sumL B
          · have e3 : totE (A ++ B) = 13 := by unfold totE; rw [if_pos hab, if_pos (by omega)]
            simp [e1, e2, e3, totN, h3]
          · have e3 : totE (A ++ B) = 0 := by unfold totE; rw [if_pos hab, if_neg (by omega)]
            simp [e1, e2, e3, totN, hs]; omega
    · have hab : ¬ (A ++ B).all qty = true := by rw [List.all_append, ha]; simpa using hb
      have e3 : totE (A ++ B) = 6 := by unfold totE; rw [if_neg hab]
      have e2 : totE B = 6 := by unfold totE; rw [if_neg hb]
      by_cases h1 : 1000000 < sumL A
      · have e1 : totE A = 13 := by simp [totE, ha, h1]
        simp [e1, e2, e3, totN]
      · have e1 : totE A = 0 := by simp [totE, ha, h1]
        simp [e1, e2, e3, totN]
  · have hab : ¬ (A ++ B).all qty = true := by rw [List.all_append]; simp only [Bool.and_eq_true]; exact fun h => ha h.1
    have e3 : totE (A ++ B) = 6 := by unfold totE; rw [if_neg hab]
    have e1 : totE A = 6 := by unfold totE; rw [if_neg ha]
    simp [e1, e3, totN]

theorem ones_all (n : Nat) : (List.replicate n (1 : Int)).all qty = true := by
  rw [List.all_eq_true]; intro x hx; rw [List.eq_of_mem_replicate hx]; rfl
theorem ones_sum (n : Nat) : sumL (List.replicate n (1 : Int)) = n := by
  induction n with
  | zero => rfl
  | succ n ih => rw [List.replicate_succ', sumL_append, ih, sumL_one]; omega
theorem ones_E (n : Nat) (h : n ≤ 1000000) : totE (List.replicate n 1) = 0 := by
  unfold totE; rw [if_pos (ones_all n), ones_sum, if_neg (by omega)]
theorem ones_N (n : Nat) (h : n ≤ 1000000) : totN (List.replicate n 1) = n := by
  unfold totN; rw [if_pos (ones_E n h), ones_sum]

theorem getD_left (l r : List Int) (t : Nat) (h : t < l.length) : (l ++ r).getD t 0 = l.getD t 0 := by
  simp [List.getD, List.getElem?_append_left h]
theorem getD_right (l r : List Int) (t : Nat) (h : l.length ≤ t) : (l ++ r).getD t 0 = r.getD (t - l.length) 0 := by
  simp [List.getD, List.getElem?_append_right h]
theorem getD_zeros (n t : Nat) : (List.replicate n (0 : Int)).getD t 0 = 0 := by
  simp only [List.getD, List.getElem?_replicate]; split <;> rfl
theorem set_ones (k : Nat) (L : List Int) (h : k < L.length) : (List.replicate k (1 : Int) ++ L.drop k).set k 1 = List.replicate (k + 1) 1 ++ L.drop (k + 1) := by
  have e : L.drop k = L[k] :: L.drop (k + 1) := List.drop_eq_getElem_cons h
  rw [e, List.replicate_succ', List.set_append_right _ _ (by simp)]
  simp only [List.length_replicate, Nat.sub_self, List.set_cons_zero, List.append_assoc, List.singleton_append]
end Go.Proofs.Ytfjaddhkilbciaa
