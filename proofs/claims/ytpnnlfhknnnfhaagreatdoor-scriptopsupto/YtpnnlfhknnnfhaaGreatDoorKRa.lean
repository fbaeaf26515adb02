/- The reference's reading: gap, silent. -/
import Derived.Test.YtpnnlfhknnnfhaaGreatDoorKPm
import Derived.Test.YtpnnlfhknnnfhaaGreatDoorKPo
namespace Go.Proofs.YtpnnlfhknnnfhaaGreatDoor
open Go.RowKit T Y V
variable {w w' w2 : World} {g : Nat}

theorem gapIff (c : UInt8) : gapB c = true ↔ c = 32 ∨ c = 9 ∨ c = 13 := by
  unfold gapB
  simp
theorem byteF {x : UInt8} (n : Nat) (hx : x ≠ UInt8.ofNat n) : ((x.toNat : Int) == (n : Int)) = false ∧ ((x.toNat : Int) != (n : Int)) = true ∧ ¬ (x.toNat : Int) = (n : Int) := by
  have : ¬ (x.toNat : Int) = (n : Int) := by
    intro e
    have e2 : x.toNat = n := by omega
    exact hx (by rw [← e2]; simp)
  exact ⟨by simpa using this, by simpa using this, this⟩
set_option maxRecDepth 100000 in
theorem rgap_any (x : UInt8) (w : World) : Calls Tryz.prog 21 #[.int .u8 (x.toNat : Int)] w fun e w' => e = .returned (.bool (gapB x)) ∧ w' = w := by
  by_cases h32 : x = 32
  · obtain ⟨e32, n32⟩ : ((x.toNat : Int) == 32) = true ∧ gapB x = true := by rw [h32]; decide
    rw [n32]
    clear h32 n32
    go_enter Tryz.func21, Tryz.ntmps21
    go_wp2_with fail
    go_ret
    exact ⟨rfl, rfl⟩
  · obtain ⟨e32, n32, p32⟩ : ((x.toNat : Int) == 32) = false ∧ ((x.toNat : Int) != 32) = true ∧ ¬ (x.toNat : Int) = 32 := byteF 32 h32
    by_cases h9 : x = 9
    · obtain ⟨e9, n9⟩ : ((x.toNat : Int) == 9) = true ∧ gapB x = true := by rw [h9]; decide
      rw [n9]
      clear h9 h32 n9
      go_enter Tryz.func21, Tryz.ntmps21
      go_wp2_with fail
      go_ret
      exact ⟨rfl, rfl⟩
    · obtain ⟨e9, n9, p9⟩ : ((x.toNat : Int) == 9) = false ∧ ((x.toNat : Int) != 9) = true ∧ ¬ (x.toNat : Int) = 9 := byteF 9 h9
      by_cases h13 : x = 13
      · obtain ⟨e13, n13⟩ : ((x.toNat : Int) == 13) = true ∧ gapB x = true := by rw [h13]; decide
        rw [n13]
        clear h9 h32 h13 n13
        go_enter Tryz.func21, Tryz.ntmps21
        go_wp2_with fail
        go_ret
        exact ⟨rfl, rfl⟩
      · obtain ⟨e13, n13, p13⟩ : ((x.toNat : Int) == 13) = false ∧ ((x.toNat : Int) != 13) = true ∧ ¬ (x.toNat : Int) = 13 := byteF 13 h13
        have hg : gapB x = false := by
          cases hq : gapB x with
          | false => rfl
          | true => rcases (gapIff x).1 hq with h | h | h <;> contradiction
        rw [hg]
        clear h9 h32 h13 hg
        go_enter Tryz.func21, Tryz.ntmps21
        go_wp2_with fail
        go_ret
        exact ⟨rfl, rfl⟩
set_option maxRecDepth 100000 in
set_option maxHeartbeats 1600000 in
theorem silent_any (T : List UInt8) (hT : T.length ≤ 100000000000) (w : World) : Calls Tryz.prog 11 #[.string (bs T)] w fun e w' => e = .returned (.bool (!saysL T)) ∧ w' = w := by
  obtain ⟨s, hs⟩ : ∃ s, bs T = s := ⟨_, rfl⟩
  have hsz : s.size = T.length := by rw [← hs, bs_size]
  have hsb : s.size ≤ 100000000000 := by omega
  have HZ := hide hsz
  have HG : Hid (∀ i (h : i < s.size), s[i] = T.getD i 0) := by subst hs; exact bs_get _
  have HC := hide (fun (x : UInt8) (v : World) => rgap_any x v)
  rw [hs]
  clear hs hsz
  go_enter Tryz.func11, Tryz.ntmps11
  go_wp2_with fail
  go_loop [3] (fun z => ∃ i : Nat, i ≤ s.size ∧ z = .int .i64 (i : Int) ∧ Hid (saysL T = lk false false (T.drop i))) (fun z => s.size - (intOf z).toNat)
  case atStart => exact ⟨0, by omega, rfl, (by show _ = _; rw [List.drop_zero, lk_says])⟩
  case round =>
    obtain ⟨i, hi, rfl, HL⟩ := hrel
    by_cases hlt : i < s.size
    · obtain ⟨x, hx⟩ : ∃ x, s[i] = x := ⟨_, rfl⟩
      have HTd : Hid (T.drop i = x :: T.drop (i + 1)) := by
        show _ = _
        have hiT : i < T.length := by have := HZ.out; omega
        rw [List.drop_eq_getElem_cons hiT, ← hx, HG.out i hlt]
        simp [List.getD, hiT]
      have hC := HC.out x w
      cases hg : gapB x with
      | true =>
        rw [hg] at hC
        have HC2 := hide hC
        have HL2 : Hid (saysL T = lk false false (T.drop (i + 1))) := by show _ = _; rw [HL.out, HTd.out, lk, if_pos hg]
        clear hg HTd hC
        go_wp2_with fail
        refine HC2.out.mono ?_
        rintro r w2 ⟨rfl, rfl⟩
        go_wp2_with fail
        go_round
        case rel => exact ⟨i + 1, by omega, by go_num, HL2⟩
        case measure => simp [intOf]; omega
      | false =>
        rw [hg] at hC
        have HC2 := hide hC
        have HL2 : Hid (saysL T = (x != 35)) := by show _ = _; rw [HL.out, HTd.out, lk, if_neg (by simp [hg]), lk_true]
        have HE : Hid (((x.toNat : Int) == 35) = !saysL T) := by
          show _ = _
          rw [HL2.out]
          by_cases h35 : x = 35
          · subst h35; rfl
          · have e1 : ((x.toNat : Int) == 35) = false := (byteF 35 h35).1
            rw [e1]
            simp [h35]
        clear hg HTd hC
        go_wp2_with fail
        refine HC2.out.mono ?_
        rintro r w2 ⟨rfl, rfl⟩
        go_wp2_with fail
        go_ret
        exact ⟨ret_bool HE.out, rfl⟩
    · have hks : ¬ (i : Int) < s.size := by omega
      have h2 : T.drop i = [] := List.drop_eq_nil_of_le (by have := HZ.out; omega)
      have HL2 : Hid (saysL T = false) := by
        show _ = _
        rw [HL.out, h2]
        rfl
      clear h2
      go_wp2_with fail
      go_ret
      exact ⟨ret_bool (by rw [HL2.out]; rfl), rfl⟩
theorem hxv_all : ∀ n, n < 256 → hxv (UInt8.ofNat n) = -1 ∨ (List.range 16).any (fun j => hexL.getD j 0 == UInt8.ofNat n) = true := by decide +kernel
theorem hxv_none (c : UInt8) (h : ∀ j, j < 16 → hexL.getD j 0 ≠ c) : hxv c = -1 := by
  rcases hxv_all c.toNat c.toNat_lt with e | e
  · simpa using e
  · obtain ⟨j, hj, e2⟩ := List.any_eq_true.1 e
    exact absurd (by simpa using e2) (h j (List.mem_range.1 hj))
theorem hxv_at : ∀ j, j < 16 → hxv (hexL.getD j 0) = (j : Int) := by decide
set_option maxRecDepth 100000 in
set_option maxHeartbeats 1600000 in
theorem digit_any (c : UInt8) (w : World) : Calls Tryz.prog 44 #[.int .u8 (c.toNat : Int)] w fun e w' => e = .returned (.int .i64 (hxv c)) ∧ w' = w := by
  have HB : Hid (∀ j (h : j < 16), (⟨#[48, 49, 50, 51, 52, 53, 54, 55, 56, 57, 97, 98, 99, 100, 101, 102]⟩ : ByteArray)[j]'(by show j < 16; exact h) = hexL.getD j 0) := by
    show ∀ _ _, _
    decide
  go_enter Tryz.func44, Tryz.ntmps44
  go_wp2_with fail
  go_loop [3] (fun z => ∃ i : Nat, i ≤ 16 ∧ z = .int .i64 (i : Int) ∧ Hid (∀ j, j < i → hexL.getD j 0 ≠ c)) (fun z => 16 - (intOf z).toNat)
  case atStart => exact ⟨0, by omega, rfl, fun j h => absurd h (Nat.not_lt_zero _)⟩
  case round =>
    obtain ⟨i, hi, rfl, HN⟩ := hrel
    by_cases hlt : i < 16
    · obtain ⟨x, hx⟩ : ∃ x, hexL.getD i 0 = x := ⟨_, rfl⟩
      have hb := HB.out i hlt
      rw [hx] at hb
      have hkI : (i : Int) < 16 := by omega
      by_cases hc : x = c
      · have HE : Hid (hxv c = (i : Int)) := by show _ = _; rw [← hc, ← hx]; exact hxv_at i hlt
        have e : ((x.toNat : Int) == (c.toNat : Int)) = true := by rw [hc]; simp
        clear hc hx
        go_wp2_with fail
        go_ret
        exact ⟨by rw [HE.out]; rfl, rfl⟩
      · have HN2 : Hid (∀ j, j < i + 1 → hexL.getD j 0 ≠ c) := fun j hj => by
          by_cases hji : j = i
          · subst hji; rw [hx]; exact hc
          · exact HN.out j (by omega)
        have e : ((x.toNat : Int) == (c.toNat : Int)) = false := by
          have h1 : ¬ x.toNat = c.toNat := fun e => hc (UInt8.toNat_inj.1 e)
          rw [beq_eq_false_iff_ne]
          omega
        clear hc hx
        go_wp2_with fail
        go_round
        case rel => exact ⟨i + 1, by omega, by go_num, HN2⟩
        case measure => simp [intOf]; omega
    · have hkI : ¬ (i : Int) < 16 := by omega
      have HE : Hid (hxv c = -1) := hxv_none c fun j hj => HN.out j (by omega)
      clear hi
      go_wp2_with fail
      go_ret
      exact ⟨by rw [HE.out]; rfl, rfl⟩
end Go.Proofs.YtpnnlfhknnnfhaaGreatDoor
