/- The reference's Number: a number's text. -/
import Derived.Test.YtheiblagjeekjaaDoorSwB
namespace Go.Proofs.YtheiblagjeekjaaDoor
open Go.RowKit

set_option maxRecDepth 100000 in
set_option maxHeartbeats 1600000 in
theorem numberP_any (u : Nat) (h0 : 0 < u) (h1 : u ≤ 9223372036854775807) (w : World) : Calls Tryd.prog 11 #[.int .i64 (u : Int)] w fun e w' => e = .returned (.string (bs (num (u : Int)))) ∧ Below w.heap.size w w' := by
  have HP : Hid (num (u : Int) = dd u) := num_pos u h0
  go_enter Tryd.func11, Tryd.ntmps11
  go_wp2
  go_loopw [3, 4] (fun t v wr => ∃ (m : Nat) (l : List UInt8), m ≤ u ∧ (l = [] ∧ m = u ∨ l.length + m ≤ u / 10 + 1) ∧ v = .int .i64 (m : Int) ∧ t = .string (bs l) ∧ Hid (dd u = dd m ++ l) ∧ Hid (Below w.heap.size w wr)) (fun _ v _ => (intOf v).toNat)
  case atStart => exact ⟨u, [], by omega, .inl ⟨rfl, rfl⟩, rfl, rfl, by show _ = _; simp, Below.refl _ _⟩
  case round =>
    obtain ⟨m, l, hm, hlm, rfl, rfl, HD, HB⟩ := hrel
    have hl0 : l.length ≤ u / 10 + 1 := by
      rcases hlm with ⟨rfl, _⟩ | h
      · simp
      · omega
    by_cases hm0 : 0 < m
    · have h0' : (0 : Int) < m := by omega
      obtain ⟨c, hc⟩ : ∃ c, UInt8.ofNat (48 + m % 10) = c := ⟨_, rfl⟩
      have hcn : (c.toNat : Int) = 48 + (m : Int) % 10 := by rw [← hc]; simp [UInt8.toNat_ofNat']; omega
      have HN : Hid (dd u = dd (m / 10) ++ (c :: l)) := by show _ = _; rw [HD.out, dd_step m hm0, hc, List.append_assoc]; rfl
      have htx := one_text wr c
      have hw := wrap8 (48 + (m : Int) % 10) (by omega) (by omega)
      have HB2 : Hid (Below w.heap.size w (wr.alloc (.cells #[.int .u8 (c.toNat : Int)] 5))) := HB.out.alloc HB.out.size _
      have happ := bs_app [c] l
      have hs1 : (bs [c]).size = 1 := bs_size _
      have hs2 : (bs l).size = l.length := bs_size _
      have hs3 : (bs (c :: l)).size = l.length + 1 := bs_size _
      have HL : Hid (l.length + 1 + m / 10 ≤ u / 10 + 1) := by
        rcases hlm with ⟨rfl, rfl⟩ | h
        · show _ ≤ _; simp; omega
        · show _ ≤ _; omega
      rw [hcn] at htx HB2
      clear hc hcn hlm
      go_wp2
      go_roundw
      case rel => exact ⟨m / 10, c :: l, by omega, .inr (by simpa using HL.out), by go_num, rfl, HN, HB2⟩
      case measure => simp [intOf]; omega
    · obtain rfl : m = 0 := by omega
      have HF : Hid (dd u = l) := by show _ = _; rw [HD.out]; rfl
      have hs2 : (bs l).size = l.length := bs_size _
      clear hlm
      go_wp2
      go_ret
      exact ⟨ret_str (by rw [HP.out, HF.out]), HB.out⟩
set_option maxRecDepth 100000 in
set_option maxHeartbeats 1600000 in
theorem numberN_any (u : Nat) (h0 : 0 < u) (h1 : u ≤ 9223372036854775808) (w : World) : Calls Tryd.prog 11 #[.int .i64 (-(u : Int))] w fun e w' => e = .returned (.string (bs (num (-(u : Int))))) ∧ Below w.heap.size w w' := by
  have HP : Hid (num (-(u : Int)) = 45 :: dd u) := num_neg u h0
  go_enter Tryd.func11, Tryd.ntmps11
  go_wp2
  go_loopw [3, 4] (fun t v wr => ∃ (m : Nat) (l : List UInt8), m ≤ u ∧ (l = [] ∧ m = u ∨ l.length + m ≤ u / 10 + 1) ∧ v = .int .i64 (-(m : Int)) ∧ t = .string (bs l) ∧ Hid (dd u = dd m ++ l) ∧ Hid (Below w.heap.size w wr)) (fun _ v _ => (intOf v).natAbs)
  case atStart => exact ⟨u, [], by omega, .inl ⟨rfl, rfl⟩, rfl, rfl, by show _ = _; simp, Below.refl _ _⟩
  case round =>
    obtain ⟨m, l, hm, hlm, rfl, rfl, HD, HB⟩ := hrel
    have hl0 : l.length ≤ u / 10 + 1 := by
      rcases hlm with ⟨rfl, _⟩ | h
      · simp
      · omega
    by_cases hm0 : 0 < m
    · have h0' : (0 : Int) < m := by omega
      obtain ⟨c, hc⟩ : ∃ c, UInt8.ofNat (48 + m % 10) = c := ⟨_, rfl⟩
      have hcn : (c.toNat : Int) = 48 + (m : Int) % 10 := by rw [← hc]; simp [UInt8.toNat_ofNat']; omega
      have HN : Hid (dd u = dd (m / 10) ++ (c :: l)) := by show _ = _; rw [HD.out, dd_step m hm0, hc, List.append_assoc]; rfl
      have htx := one_text wr c
      have hw := wrap8 (48 + (m : Int) % 10) (by omega) (by omega)
      have HB2 : Hid (Below w.heap.size w (wr.alloc (.cells #[.int .u8 (c.toNat : Int)] 5))) := HB.out.alloc HB.out.size _
      have happ := bs_app [c] l
      have hs1 : (bs [c]).size = 1 := bs_size _
      have hs2 : (bs l).size = l.length := bs_size _
      have hs3 : (bs (c :: l)).size = l.length + 1 := bs_size _
      have HL : Hid (l.length + 1 + m / 10 ≤ u / 10 + 1) := by
        rcases hlm with ⟨rfl, rfl⟩ | h
        · show _ ≤ _; simp; omega
        · show _ ≤ _; omega
      rw [hcn] at htx HB2
      clear hc hcn hlm
      have e1 : Int.tmod (-(m : Int)) 10 = -((m : Int) % 10) := by rw [Int.neg_tmod, Int.tmod_eq_emod_of_nonneg (by omega)]
      have e2 : Int.tdiv (-(m : Int)) 10 = -((m / 10 : Nat) : Int) := by rw [Int.neg_tdiv, Int.tdiv_eq_ediv_of_nonneg (by omega)]; rfl
      by_cases hd : 0 < (m : Int) % 10
      · go_wp2
        go_roundw
        case rel => exact ⟨m / 10, c :: l, by omega, .inr (by simpa using HL.out), rfl, rfl, HN, HB2⟩
        case measure => simp [intOf]; omega
      · have hd0 : (m : Int) % 10 = 0 := by omega
        rw [hd0] at e1 htx hw HB2
        simp only [Int.neg_zero, Int.add_zero] at e1 htx hw HB2
        go_wp2
        go_roundw
        case rel => exact ⟨m / 10, c :: l, by omega, .inr (by simpa using HL.out), rfl, rfl, HN, HB2⟩
        case measure => simp [intOf]; omega
    · obtain rfl : m = 0 := by omega
      have HF : Hid (dd u = l) := by show _ = _; rw [HD.out]; rfl
      have hs2 : (bs l).size = l.length := bs_size _
      have happ := bs_app [45] l
      clear hlm
      go_wp2
      go_ret
      exact ⟨ret_str (by rw [HP.out, HF.out]; exact bs_app [45] l), HB.out⟩
theorem number_any (n : Int) (h0 : -9223372036854775808 ≤ n) (h1 : n ≤ 9223372036854775807) (w : World) : Calls Tryd.prog 11 #[.int .i64 n] w fun e w' => e = .returned (.string (bs (num n))) ∧ Below w.heap.size w w' := by
  rcases Int.lt_trichotomy n 0 with h | rfl | h
  · obtain ⟨u, rfl⟩ : ∃ u : Nat, n = -(u : Int) := ⟨n.natAbs, by omega⟩
    exact numberN_any u (by omega) (by omega) w
  · go_enter Tryd.func11, Tryd.ntmps11
    go_wp2
    go_ret
    exact ⟨ret_str (by rw [num0]; rfl), Below.refl _ _⟩
  · obtain ⟨u, rfl⟩ : ∃ u : Nat, n = (u : Int) := ⟨n.toNat, by omega⟩
    exact numberP_any u (by omega) (by omega) w
end Go.Proofs.YtheiblagjeekjaaDoor
