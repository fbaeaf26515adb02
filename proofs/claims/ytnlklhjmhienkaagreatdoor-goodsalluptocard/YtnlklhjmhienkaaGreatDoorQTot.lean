/- isQty, Total and the reference's Total: their contracts, for every row of at most 4,194,304 numbers. -/
import Derived.Test.YtnlklhjmhienkaaGreatDoorQBy
namespace Go.Proofs.YtnlklhjmhienkaaGreatDoor.Q
open Go.RowKit

/-- is the number a quantity? -/
def qty (z : Int) : Bool := decide (1 ≤ z) && decide (z ≤ 1000000)
/-- the sum of a list -/
def sumL (l : List Int) : Int := l.foldl (· + ·) 0
/-- Total's error -/
def totE (l : List Int) : Int := if l.all qty = true then (if 1000000 < sumL l then 13 else 0) else 6
/-- Total's number -/
def totN (l : List Int) : Int := if totE l = 0 then sumL l else 0
theorem foldl_add (l : List Int) (a : Int) : l.foldl (· + ·) a = a + l.foldl (· + ·) 0 := by
  induction l generalizing a with
  | nil => simp
  | cons x l ih => simp only [List.foldl_cons]; rw [ih (a + x), ih (0 + x)]; omega
theorem sumL_append (l r : List Int) : sumL (l ++ r) = sumL l + sumL r := by
  unfold sumL; rw [List.foldl_append, foldl_add]
theorem sumL_one (x : Int) : sumL [x] = x := by simp [sumL]
theorem qty_iff (z : Int) : qty z = true ↔ 1 ≤ z ∧ z ≤ 1000000 := by simp [qty]
theorem sumL_bd (l : List Int) (h : l.all qty = true) : (l.length : Int) ≤ sumL l ∧ sumL l ≤ 1000000 * (l.length : Int) := by
  induction l with
  | nil => simp [sumL]
  | cons x l ih =>
    simp only [List.all_cons, Bool.and_eq_true] at h
    have h1 := (qty_iff x).1 h.1
    have h2 := ih h.2
    have e : sumL (x :: l) = x + sumL l := by
      have := sumL_append [x] l
      rw [sumL_one] at this; exact this
    rw [e]; simp only [List.length_cons]; omega
theorem take_snoc (l : List Int) (k : Nat) (h : k < l.length) : l.take (k + 1) = l.take k ++ [l.getD k 0] := by
  rw [List.take_succ_eq_append_getElem h]; simp [List.getD, h]
theorem all_take_false (l : List Int) (k : Nat) (h : k < l.length) (hq : qty (l.getD k 0) = false) : l.all qty = false := by
  rw [List.all_eq_false]
  exact ⟨l.getD k 0, by simp only [List.getD, List.getElem?_eq_getElem h, Option.getD_some]; exact List.getElem_mem h, by rw [hq]; simp⟩
theorem sum_more (l : List Int) (k : Nat) (h : l.all qty = true) : sumL (l.take k) ≤ sumL l := by
  have h2 := sumL_append (l.take k) (l.drop k)
  rw [List.take_append_drop] at h2
  have h3 : (l.drop k).all qty = true := by rw [List.all_eq_true] at h ⊢; exact fun x hx => h x (List.mem_of_mem_drop hx)
  have := (sumL_bd _ h3).1
  omega
theorem ret_two {a b c d : Int} {k k' : IntKind} (h : a = b) (h' : c = d) : Ending.returned (.tuple #[.int k a, .int k' c]) = .returned (.tuple #[.int k b, .int k' d]) := by rw [h, h']
theorem ret_bool {a b : Bool} (h : a = b) : Ending.returned (.bool a) = .returned (.bool b) := by rw [h]
theorem isQty_any (n : Int) (w : World) : Calls Tryz.prog 68 #[.int .i64 n] w fun e w' => e = .returned (.bool (qty n)) ∧ w' = w := by
  by_cases h1 : 1 ≤ n
  · have HM : Hid (decide (n ≤ 1000000) = qty n) := by show _ = _; unfold qty; rw [decide_eq_true h1, Bool.true_and]
    go_enter Tryz.func68, Tryz.ntmps68
    go_wp2
    go_ret
    exact ⟨ret_bool HM.out, rfl⟩
  · have HM : Hid (false = qty n) := by show _ = _; unfold qty; rw [decide_eq_false h1, Bool.false_and]
    go_enter Tryz.func68, Tryz.ntmps68
    go_wp2
    go_ret
    exact ⟨ret_bool HM.out, rfl⟩
set_option maxHeartbeats 800000 in
theorem total_any (lp : Option Addr) (n cap : Nat) (Z : List Int) (w : World) (hZ : Z.length = n) (hn : n ≤ 4194304) (hn0 : lp = none → n = 0)
    (hc : ∀ q, lp = some q → ∀ t, t < n → w.cell? (q.add t) = some (.int .i64 (Z.getD t 0))) :
    Calls Tryz.prog 45 #[.slice lp n cap] w fun e w' => e = .returned (.tuple #[.int .i64 (totN Z), .int .i64 (totE Z)]) ∧ w' = w := by
  have HC := hide hc
  have HN0 := hide hn0
  clear hc hn0
  go_enter Tryz.func45, Tryz.ntmps45
  go_wp2
  go_loop [4, 9] (fun s i => ∃ k : Nat, k ≤ n ∧ i = .int .i64 k ∧ s = .int .i64 (sumL (Z.take k)) ∧ (Z.take k).all qty = true) (fun _ i => n - (intOf i).toNat)
  case atStart => exact ⟨0, Nat.zero_le _, rfl, rfl, rfl⟩
  case round =>
    obtain ⟨k, hk, rfl, rfl, hall⟩ := hrel
    have HA : Hid ((Z.take k).all qty = true) := hall
    have hs := sumL_bd (Z.take k) hall
    have hl : (Z.take k).length = k := by rw [List.length_take]; omega
    rw [hl] at hs
    clear hall hl
    by_cases hlt : k < n
    · obtain ⟨p, rfl⟩ : ∃ p, lp = some p := by cases lp with | none => exact absurd (HN0.out rfl) (by omega) | some p => exact ⟨p, rfl⟩
      obtain ⟨z, hz⟩ : ∃ z, z = Z.getD k 0 := ⟨_, rfl⟩
      have hcell : w.cell? (p.add k) = some (.int .i64 z) := by rw [hz]; exact HC.out _ rfl k hlt
      have HT : Hid (Z.take (k + 1) = Z.take k ++ [z]) := by rw [hz]; exact take_snoc Z k (by omega)
      have HZ : Hid (z = Z.getD k 0) := hz
      clear hz
      by_cases hq : qty z = true
      · have hzb := (qty_iff z).1 hq
        have HQ := hide hq
        clear hq
        go_wp2_with (go_at_call 68; refine (isQty_any z _).mono ?_; rintro e w1 ⟨rfl, h1⟩; subst w1; rw [HQ.out])
        go_round
        case rel => exact ⟨k + 1, by omega, by go_num, by rw [HT.out, sumL_append, sumL_one], by rw [HT.out, List.all_append, HA.out]; simp [HQ.out]⟩
        case measure => simp [intOf]; omega
      · have hqf : qty z = false := by simpa using hq
        have hf := all_take_false Z k (by omega) (by rw [← HZ.out]; exact hqf)
        have he : Hid (totE Z = 6) := by show totE Z = 6; simp [totE, hf]
        have hm : Hid (totN Z = 0) := by show totN Z = 0; simp [totN, he.out]
        have HQ := hide hqf
        clear hf hq hqf
        go_wp2_with (go_at_call 68; refine (isQty_any z _).mono ?_; rintro e w1 ⟨rfl, h1⟩; subst w1; rw [HQ.out])
        go_ret2
        exact ⟨ret_two hm.out.symm he.out.symm, rfl⟩
    · have ek : Z.take k = Z := List.take_of_length_le (by omega)
      rw [ek] at HA hs ⊢
      by_cases ho : 1000000 < sumL Z
      · have he : Hid (totE Z = 13) := by show totE Z = 13; simp only [totE, if_pos HA.out, if_pos ho]
        have hm : Hid (totN Z = 0) := by show totN Z = 0; simp [totN, he.out]
        clear ek
        go_wp2
        go_ret2
        exact ⟨ret_two hm.out.symm he.out.symm, rfl⟩
      · have he : Hid (totE Z = 0) := by show totE Z = 0; simp only [totE, if_pos HA.out, if_neg ho]
        have hm : Hid (totN Z = sumL Z) := by show totN Z = sumL Z; simp [totN, he.out]
        clear ek
        go_wp2
        go_ret2
        exact ⟨ret_two hm.out.symm he.out.symm, rfl⟩
set_option maxHeartbeats 1600000 in
theorem refTotal_any (lp : Option Addr) (n cap : Nat) (Z : List Int) (w : World) (hZ : Z.length = n) (hn : n ≤ 4194304) (hn0 : lp = none → n = 0)
    (hc : ∀ q, lp = some q → ∀ t, t < n → w.cell? (q.add t) = some (.int .i64 (Z.getD t 0))) :
    Calls Tryz.prog 44 #[.slice lp n cap] w fun e w' => e = .returned (.tuple #[.int .i64 (totN Z), .int .i64 (totE Z)]) ∧ w' = w := by
  have HC := hide hc
  have HN0 := hide hn0
  clear hc hn0
  go_enter Tryz.func44, Tryz.ntmps44
  go_wp2
  go_loop [4] (fun i => ∃ k : Nat, k ≤ n ∧ i = .int .i64 k ∧ Hid ((Z.take k).all qty = true)) (fun i => n - (intOf i).toNat)
  case atStart => exact ⟨0, Nat.zero_le _, rfl, rfl⟩
  case round =>
    obtain ⟨k, hk, rfl, HA⟩ := hrel
    by_cases hlt : k < n
    · obtain ⟨p, rfl⟩ : ∃ p, lp = some p := by cases lp with | none => exact absurd (HN0.out rfl) (by omega) | some p => exact ⟨p, rfl⟩
      obtain ⟨z, hz⟩ : ∃ z, z = Z.getD k 0 := ⟨_, rfl⟩
      have hcell : w.cell? (p.add k) = some (.int .i64 z) := by rw [hz]; exact HC.out _ rfl k hlt
      have HT : Hid (Z.take (k + 1) = Z.take k ++ [z]) := by rw [hz]; exact take_snoc Z k (by omega)
      have HZ : Hid (z = Z.getD k 0) := hz
      clear hz
      by_cases h1 : z < 1
      · have hf := all_take_false Z k (by omega) (by rw [← HZ.out]; simp [qty]; omega)
        have he : Hid (totE Z = 6) := by show totE Z = 6; simp [totE, hf]
        have hm : Hid (totN Z = 0) := by show totN Z = 0; simp [totN, he.out]
        clear hf
        go_wp2
        go_ret2
        exact ⟨ret_two hm.out.symm he.out.symm, rfl⟩
      · by_cases h2 : 1000000 < z
        · have hf := all_take_false Z k (by omega) (by rw [← HZ.out]; simp [qty]; omega)
          have he : Hid (totE Z = 6) := by show totE Z = 6; simp [totE, hf]
          have hm : Hid (totN Z = 0) := by show totN Z = 0; simp [totN, he.out]
          clear hf
          go_wp2
          go_ret2
          exact ⟨ret_two hm.out.symm he.out.symm, rfl⟩
        · have HN : Hid ((Z.take (k + 1)).all qty = true) := by show _ = _; rw [HT.out, List.all_append, HA.out]; simp [qty]; omega
          go_wp2
          go_round
          case rel => exact ⟨k + 1, by omega, by go_num, HN⟩
          case measure => simp [intOf]; omega
    · have ek : Z.take k = Z := List.take_of_length_le (by omega)
      rw [ek] at HA
      clear ek
      go_wp2
      clear hlt hk
      go_loop [5, 6] (fun s i => ∃ k : Nat, k ≤ n ∧ i = .int .i64 k ∧ s = .int .i64 (sumL (Z.take k)) ∧ sumL (Z.take k) ≤ 1000000) (fun _ i => n - (intOf i).toNat)
      case atStart => exact ⟨0, Nat.zero_le _, rfl, rfl, by show (0 : Int) ≤ _; omega⟩
      case round =>
        obtain ⟨k, hk, rfl, rfl, hle⟩ := hrel
        by_cases hlt : k < n
        · obtain ⟨p, rfl⟩ : ∃ p, lp = some p := by cases lp with | none => exact absurd (HN0.out rfl) (by omega) | some p => exact ⟨p, rfl⟩
          obtain ⟨z, hz⟩ : ∃ z, z = Z.getD k 0 := ⟨_, rfl⟩
          have hcell : w.cell? (p.add k) = some (.int .i64 z) := by rw [hz]; exact HC.out _ rfl k hlt
          have hT : Z.take (k + 1) = Z.take k ++ [z] := by rw [hz]; exact take_snoc Z k (by omega)
          have hsum : sumL (Z.take (k + 1)) = sumL (Z.take k) + z := by rw [hT, sumL_append, sumL_one]
          have hzq : qty z = true := by
            have := HA.out
            rw [List.all_eq_true] at this
            rw [hz]
            exact this _ (by simp only [List.getD, List.getElem?_eq_getElem (show k < Z.length by omega), Option.getD_some]; exact List.getElem_mem _)
          have hzb := (qty_iff z).1 hzq
          have hall : (Z.take k).all qty = true := by have := HA.out; rw [List.all_eq_true] at this ⊢; exact fun x hx => this x (List.mem_of_mem_take hx)
          have hs0 := (sumL_bd _ hall).1
          have hs1 : 0 ≤ sumL (Z.take k) := by omega
          have hmore := sum_more Z (k + 1) HA.out
          rw [hsum] at hmore
          have HS := hide hsum
          clear hz hT hzq hall hs0 hsum
          obtain ⟨S, hS⟩ : ∃ S, sumL (Z.take k) = S := ⟨_, rfl⟩
          rw [hS] at hle hs1 hmore HS ⊢
          clear hS
          by_cases ho : 1000000 < S + z
          · have he : Hid (totE Z = 13) := by show totE Z = 13; simp only [totE, if_pos HA.out]; rw [if_pos (by omega)]
            have hm : Hid (totN Z = 0) := by show totN Z = 0; simp [totN, he.out]
            clear hmore
            go_wp2
            go_ret2
            exact ⟨ret_two hm.out.symm he.out.symm, rfl⟩
          · clear hmore
            go_wp2
            go_round
            case rel => exact ⟨k + 1, by omega, by go_num, by rw [HS.out], by rw [HS.out]; omega⟩
            case measure => simp [intOf]; omega
        · have ek : Z.take k = Z := List.take_of_length_le (by omega)
          rw [ek] at hle ⊢
          have he : Hid (totE Z = 0) := by show totE Z = 0; simp only [totE, if_pos HA.out]; rw [if_neg (by omega)]
          have hm : Hid (totN Z = sumL Z) := by show totN Z = sumL Z; simp [totN, he.out]
          clear ek
          go_wp2
          go_ret2
          exact ⟨ret_two hm.out.symm he.out.symm, rfl⟩
end Go.Proofs.YtnlklhjmhienkaaGreatDoor.Q
