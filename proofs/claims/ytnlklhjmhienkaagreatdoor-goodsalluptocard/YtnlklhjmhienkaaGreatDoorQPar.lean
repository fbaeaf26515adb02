/- The reference's ParseQty and PrintQty: their contracts. -/
import Derived.Test.YtnlklhjmhienkaaGreatDoorQDig
import Derived.Test.YtnlklhjmhienkaaGreatDoorQDec
namespace Go.Proofs.YtnlklhjmhienkaaGreatDoor.Q
open Go.RowKit

/-- what digits come to -/
def dvl (l : List UInt8) : Nat := l.foldl (fun a c => 10 * a + (c.toNat - 48)) 0
theorem dvl_snoc (l : List UInt8) (c : UInt8) : dvl (l ++ [c]) = 10 * dvl l + (c.toNat - 48) := by unfold dvl; rw [List.foldl_append]; rfl
theorem dvl_dec (l : List UInt8) (a : Nat) (h : l.all dig = true) : Lib.decFrom a l = some (l.foldl (fun a c => 10 * a + (c.toNat - 48)) a) := by
  induction l generalizing a with
  | nil => rfl
  | cons c r ih =>
    simp only [List.all_cons, Bool.and_eq_true] at h
    have hc := (dig_iff c).1 h.1
    have hv : Lib.digitVal c = some (c.toNat - 48) := by unfold Lib.digitVal; rw [if_pos (by omega)]
    rw [List.foldl_cons, ← ih _ h.2]
    simp only [Lib.decFrom, hv]
    rw [Nat.mul_comm a 10]
theorem dvl_bd (l : List UInt8) (h : l.all dig = true) : dvl l < 10 ^ l.length := by
  have gen : ∀ (l : List UInt8) (a : Nat), l.all dig = true → l.foldl (fun a c => 10 * a + (c.toNat - 48)) a < (a + 1) * 10 ^ l.length := by
    intro l
    induction l with
    | nil => intro a _; simp
    | cons c r ih =>
      intro a h
      simp only [List.all_cons, Bool.and_eq_true] at h
      have hc := (dig_iff c).1 h.1
      have h1 := ih (10 * a + (c.toNat - 48)) h.2
      have h2 : (10 * a + (c.toNat - 48) + 1) * 10 ^ r.length ≤ (10 * (a + 1)) * 10 ^ r.length := Nat.mul_le_mul_right _ (by omega)
      rw [List.foldl_cons, List.length_cons, Nat.pow_succ]
      have h3 : (10 * (a + 1)) * 10 ^ r.length = (a + 1) * (10 ^ r.length * 10) := by
        rw [Nat.mul_comm 10 (a + 1), Nat.mul_assoc, Nat.mul_comm 10]
      omega
  have := gen l 0 h
  unfold dvl
  omega
/-- ParseQty's error -/
def pqE (s : ByteArray) : Int := if s.size = 0 then 20 else if 7 < s.size then 21 else if allDig s = true ∧ ¬ ((s.data.toList.getD 0 0).toNat = 48 ∧ 1 < s.size) then (if 1 ≤ dvl s.data.toList ∧ dvl s.data.toList ≤ 1000000 then 0 else 6) else 22
/-- ParseQty's number -/
def pqN (s : ByteArray) : Int := if pqE s = 0 then (dvl s.data.toList : Int) else 0
theorem getD_at (s : ByteArray) (k : Nat) (h : k < s.size) : s.data.toList.getD k 0 = s[k] := by
  have h' : k < s.data.toList.length := by simpa using h
  rw [List.getD, List.getElem?_eq_getElem h']; rfl
set_option maxHeartbeats 1600000 in
theorem refParse_any (s : ByteArray) (w : World) (hs : s.size ≤ maxLen) : Calls Tryz.prog 41 #[.string s] w fun e w' => e = .returned (.tuple #[.int .i64 (pqN s), .int .i64 (pqE s)]) ∧ w' = w := by
  have HS := hide hs
  unfold maxLen at hs
  by_cases h0 : s.size = 0
  · have h0' : ((s.size : Int) == 0) = true := by simpa using h0
    have HE : Hid (pqE s = 20) := by show _ = _; unfold pqE; rw [if_pos h0]
    have HN : Hid (pqN s = 0) := by show _ = _; unfold pqN; rw [HE.out]; rfl
    go_enter Tryz.func41, Tryz.ntmps41
    go_wp2
    go_ret2
    exact ⟨ret_two HN.out.symm HE.out.symm, rfl⟩
  have h0' : ((s.size : Int) == 0) = false := by simpa using h0
  by_cases h7 : 7 < s.size
  · have h7' : (7 : Int) < s.size := by omega
    have HE : Hid (pqE s = 21) := by show _ = _; unfold pqE; rw [if_neg h0, if_pos h7]
    have HN : Hid (pqN s = 0) := by show _ = _; unfold pqN; rw [HE.out]; rfl
    clear h0
    go_enter Tryz.func41, Tryz.ntmps41
    go_wp2
    go_ret2
    exact ⟨ret_two HN.out.symm HE.out.symm, rfl⟩
  have h7' : ¬ (7 : Int) < s.size := by omega
  have hz : 0 < s.size := by omega
  have hzI : (0 : Int) < s.size := by omega
  have HG := hide (getD_at s 0 hz)
  cases hd : allDig s with
  | false =>
    have HE : Hid (pqE s = 22) := by show _ = _; unfold pqE; rw [if_neg h0, if_neg h7, if_neg (by rw [hd]; simp)]
    have HN : Hid (pqN s = 0) := by show _ = _; unfold pqN; rw [HE.out]; rfl
    have HD := hide hd
    clear h0 hd
    go_enter Tryz.func41, Tryz.ntmps41
    go_wp2_with (go_at_call 58; refine (digits_any s _ HS.out).mono ?_; rintro e w1 ⟨rfl, h1⟩; subst w1; rw [HD.out])
    go_ret2
    exact ⟨ret_two HN.out.symm HE.out.symm, rfl⟩
  | true =>
    have HD := hide hd
    by_cases h48 : s[0].toNat = 48 ∧ 1 < s.size
    · have HE : Hid (pqE s = 22) := by show _ = _; unfold pqE; rw [if_neg h0, if_neg h7, if_neg (by rw [HG.out]; exact fun hh => hh.2 h48)]
      have HN : Hid (pqN s = 0) := by show _ = _; unfold pqN; rw [HE.out]; rfl
      have e48 : ((s[0].toNat : Int) == 48) = true := by rw [h48.1]; rfl
      have h1I : (1 : Int) < s.size := by omega
      clear h0 hd h48
      go_enter Tryz.func41, Tryz.ntmps41
      go_wp2_with (go_at_call 58; refine (digits_any s _ HS.out).mono ?_; rintro e w1 ⟨rfl, h1⟩; subst w1; rw [HD.out])
      go_ret2
      exact ⟨ret_two HN.out.symm HE.out.symm, rfl⟩
    · have HE : Hid (pqE s = if 1 ≤ dvl s.data.toList ∧ dvl s.data.toList ≤ 1000000 then 0 else 6) := by show _ = _; unfold pqE; rw [if_neg h0, if_neg h7, if_pos ⟨hd, by rw [HG.out]; exact h48⟩]
      have hcase : ((s[0].toNat : Int) == 48) = false ∨ (((s[0].toNat : Int) == 48) = true ∧ ¬ (1 : Int) < s.size) := by
        by_cases h : s[0].toNat = 48
        · exact Or.inr ⟨by rw [h]; rfl, fun hh => h48 ⟨h, by omega⟩⟩
        · exact Or.inl (by rw [beq_eq_false_iff_ne]; omega)
      clear h0 hd h48
      rcases hcase with e48 | ⟨e48, h1I⟩
      all_goals
        go_enter Tryz.func41, Tryz.ntmps41
        go_wp2_with (go_at_call 58; refine (digits_any s _ HS.out).mono ?_; rintro e w1 ⟨rfl, h1⟩; subst w1; rw [HD.out])
        go_loop [4, 5] (fun n i => ∃ k : Nat, k ≤ s.size ∧ i = .int .i64 k ∧ n = .int .i64 (dvl (s.data.toList.take k) : Int)) (fun _ i => s.size - (intOf i).toNat)
        case atStart => exact ⟨0, Nat.zero_le _, rfl, rfl⟩
        case round =>
          obtain ⟨k, hk, rfl, rfl⟩ := hrel
          have hb := dvl_bd (s.data.toList.take k) (by have := HD.out; unfold allDig at this; rw [List.all_eq_true] at this ⊢; exact fun x hx => this x (List.mem_of_mem_take hx))
          have hl : (s.data.toList.take k).length ≤ 7 := by rw [List.length_take]; omega
          have hb2 : 10 ^ (s.data.toList.take k).length ≤ 10 ^ 7 := Nat.pow_le_pow_right (by decide) hl
          have hb3 : dvl (s.data.toList.take k) < 10000000 := by omega
          by_cases hlt : k < s.size
          · have hat := allDig_at s HD.out k hlt
            have HT : Hid (dvl (s.data.toList.take (k + 1)) = 10 * dvl (s.data.toList.take k) + (s[k].toNat - 48)) := by show _ = _; rw [take_snocB s k hlt, dvl_snoc]
            obtain ⟨D, hD⟩ : ∃ D, dvl (s.data.toList.take k) = D := ⟨_, rfl⟩
            rw [hD] at HT hb3 ⊢
            have hw := wrap8 ((s[k].toNat : Int) - 48) (by omega) (by omega)
            clear hD hb hb2 hl
            go_wp2
            go_round
            case rel => exact ⟨k + 1, by omega, by go_num, by rw [HT.out]; congr 1; omega⟩
            case measure => simp [intOf]; omega
          · have ek : s.data.toList.take k = s.data.toList := List.take_of_length_le (by simp; omega)
            rw [ek] at hb3 ⊢
            obtain ⟨D, hD⟩ : ∃ D, dvl s.data.toList = D := ⟨_, rfl⟩
            have HN : Hid (pqN s = if pqE s = 0 then (D : Int) else 0) := by show _ = _; unfold pqN; rw [hD]
            rw [hD] at HE hb3 ⊢
            clear hD hb hb2 hl ek
            by_cases h1 : 1 ≤ D ∧ D ≤ 1000000
            · rw [HE.out, if_pos h1, if_pos rfl] at HN
              rw [if_pos h1] at HE
              have a1 : ¬ (D : Int) < 1 := by omega
              have a2 : ¬ (1000000 : Int) < D := by omega
              clear h1
              go_wp2
              go_ret2
              exact ⟨ret_two HN.out.symm HE.out.symm, rfl⟩
            · rw [HE.out, if_neg h1, if_neg (by decide)] at HN
              rw [if_neg h1] at HE
              by_cases a1 : (D : Int) < 1
              · clear h1
                go_wp2
                go_ret2
                exact ⟨ret_two HN.out.symm HE.out.symm, rfl⟩
              · have a2 : (1000000 : Int) < D := by omega
                clear h1
                go_wp2
                go_ret2
                exact ⟨ret_two HN.out.symm HE.out.symm, rfl⟩
end Go.Proofs.YtnlklhjmhienkaaGreatDoor.Q
