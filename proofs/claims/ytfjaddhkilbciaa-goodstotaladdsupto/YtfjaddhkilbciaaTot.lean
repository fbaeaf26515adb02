/- goods.Total over a row of numbers that lies in memory: its contract, for every row of at most 4,194,304 numbers. -/
import Derived.Test.YtfjaddhkilbciaaRows
import Derived.WalkKit
import Derived.WalkSpells
namespace Go.Proofs.Ytfjaddhkilbciaa
open Go.RowKit

/-- is the number a quantity? -/
def qty (z : Int) : Bool := decide (1 ≤ z) && decide (z ≤ 1000000)
/-- the sum of a list -/
def sumL (l : List Int) : Int := l.foldl (· + ·) 0
/-- Total's error -/
def totE (l : List Int) : Int := if l.all qty = true then (if 1000000 < sumL l then 13 else 0) else 6
/-- Total's number -/
def totN (l : List Int) : Int := if totE l = 0 then sumL l else 0

theorem foldl_add (l : List Int) (a : Int) : l.foldl (· + ·) a = a + l.foldl (· + ·) 0 := by
  induction l generalizing a with
  | nil => simp
  | cons x l ih => simp only [List.foldl_cons]; rw [ih (a + x), ih (0 + x)]; omega
theorem sumL_append (l r : List Int) : sumL (l ++ r) = sumL l + sumL r := by
  unfold sumL; rw [List.foldl_append, foldl_add]
theorem sumL_one (x : Int) : sumL [x] = x := by simp [sumL]
theorem qty_iff (z : Int) : qty z = true ↔ 1 ≤ z ∧ z ≤ 1000000 := by simp [qty]
theorem sumL_bd (l : List Int) (h : l.all qty = true) : (l.length : Int) ≤ sumL l ∧ sumL l ≤ 1000000 * (l.length : Int) := by
  induction l with
  | nil => simp [sumL]
  | cons x l ih =>
    simp only [List.all_cons, Bool.and_eq_true] at h
    have h1 := (qty_iff x).1 h.1
    have h2 := ih h.2
    have e : sumL (x :: l) = x + sumL l := by
      have := sumL_append [x] l
      rw [sumL_one] at this; exact this
    rw [e]; simp only [List.length_cons]; omega
theorem take_snoc (l : List Int) (k : Nat) (h : k < l.length) : l.take (k + 1) = l.take k ++ [l.getD k 0] := by
  rw [List.take_succ_eq_append_getElem h]; simp [List.getD, h]
theorem all_take_false (l : List Int) (k : Nat) (h : k < l.length) (hq : qty (l.getD k 0) = false) : l.all qty = false := by
  rw [List.all_eq_false]
  exact ⟨l.getD k 0, by simp only [List.getD, List.getElem?_eq_getElem h, Option.getD_some]; exact List.getElem_mem h, by rw [hq]; simp⟩
theorem ret_two {a b c d : Int} {k k' : IntKind} (h : a = b) (h' : c = d) : Ending.returned (.tuple #[.int k a, .int k' c]) = .returned (.tuple #[.int k b, .int k' d]) := by rw [h, h']

set_option maxHeartbeats 800000 in
theorem total_any (b off n cap : Nat) (Z : List Int) (w : World) (hZ : Z.length = n) (hn : n ≤ 4194304)
    (hc : ∀ t, t < n → w.cell? ⟨b, off + t, none⟩ = some (.int .i64 (Z.getD t 0))) :
    Calls Try.prog 4 #[.slice (some ⟨b, off, none⟩) n cap] w fun e w' => e = .returned (.tuple #[.int .i64 (totN Z), .int .i64 (totE Z)]) ∧ w' = w := by
  go_enter Try.func4, Try.ntmps4
  go_wp2
  go_loop [4, 9] (fun s i => ∃ k : Nat, k ≤ n ∧ i = .int .i64 k ∧ s = .int .i64 (sumL (Z.take k)) ∧ (Z.take k).all qty = true) (fun _ i => n - (intOf i).toNat)
  case atStart => exact ⟨0, Nat.zero_le _, rfl, rfl, rfl⟩
  case round =>
    obtain ⟨k, hk, rfl, rfl, hall⟩ := hrel
    have HA : Hid ((Z.take k).all qty = true) := hall
    have hs := sumL_bd (Z.take k) hall
    have hl : (Z.take k).length = k := by rw [List.length_take]; omega
    rw [hl] at hs
    clear hall hl
    by_cases hlt : k < n
    · obtain ⟨z, hz⟩ : ∃ z, z = Z.getD k 0 := ⟨_, rfl⟩
      have hcell : w.cell? ⟨b, off + k, none⟩ = some (.int .i64 z) := by rw [hz]; exact hc k hlt
      have HT : Hid (Z.take (k + 1) = Z.take k ++ [z]) := by rw [hz]; exact take_snoc Z k (by omega)
      have HZ : Hid (z = Z.getD k 0) := hz
      clear hz hc
      by_cases h1 : 1 ≤ z
      · by_cases h2 : z ≤ 1000000
        · go_wp2
          go_round
          case rel => exact ⟨k + 1, by omega, by go_num, by rw [HT.out, sumL_append, sumL_one], by rw [HT.out, List.all_append, HA.out]; simp [qty, h1, h2]⟩
          case measure => simp [intOf]; omega
        · have hf := all_take_false Z k (by omega) (by rw [← HZ.out]; simp [qty, h2])
          have he : Hid (totE Z = 6) := by show totE Z = 6; simp [totE, hf]
          have hm : Hid (totN Z = 0) := by show totN Z = 0; simp [totN, he.out]
          clear hf
          go_wp2
          go_ret2
          exact ⟨ret_two hm.out.symm he.out.symm, rfl⟩
      · have hf := all_take_false Z k (by omega) (by rw [← HZ.out]; simp [qty, h1])
        have he : Hid (totE Z = 6) := by show totE Z = 6; simp [totE, hf]
        have hm : Hid (totN Z = 0) := by show totN Z = 0; simp [totN, he.out]
        clear hf
        go_wp2
        go_ret2
        exact ⟨ret_two hm.out.symm he.out.symm, rfl⟩
    · have ek : Z.take k = Z := List.take_of_length_le (by omega)
      rw [ek] at HA hs ⊢
      by_cases ho : 1000000 < sumL Z
      · have he : Hid (totE Z = 13) := by show totE Z = 13; simp only [totE, if_pos HA.out, if_pos ho]
        have hm : Hid (totN Z = 0) := by show totN Z = 0; simp [totN, he.out]
        clear ek
        go_wp2
        go_ret2
        exact ⟨ret_two hm.out.symm he.out.symm, rfl⟩
      · have he : Hid (totE Z = 0) := by show totE Z = 0; simp only [totE, if_pos HA.out, if_neg ho]
        have hm : Hid (totN Z = sumL Z) := by show totN Z = sumL Z; simp [totN, he.out]
        clear ek
        go_wp2
        go_ret2
        exact ⟨ret_two hm.out.symm he.out.symm, rfl⟩
end Go.Proofs.Ytfjaddhkilbciaa
