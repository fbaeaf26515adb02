/- look: what a line says, and how many lines end in it. -/
import Derived.Test.YtmemcnjabnpdmabDoorKPm
import Derived.Test.YtmemcnjabnpdmabDoorKPs
namespace Go.Proofs.YtmemcnjabnpdmabDoor
open Go.RowKit T Y V
variable {w w' w2 : World} {g : Nat}

theorem gap_iff (c : UInt8) : gapB c = true ↔ c = 32 ∨ c = 9 ∨ c = 13 := by
  unfold gapB
  simp
theorem cnt_cons (x : UInt8) (t : List UInt8) : cnt10 (x :: t) = (if x = 10 then 1 else 0) + cnt10 t := by
  unfold cnt10
  rw [List.countP_cons]
  simp
  omega
theorem beqF {x : UInt8} (n : Nat) (_h : n < 256) (hx : x ≠ UInt8.ofNat n) : ((x.toNat : Int) == (n : Int)) = false ∧ ((x.toNat : Int) != (n : Int)) = true ∧ ¬ (x.toNat : Int) = (n : Int) := by
  have : ¬ (x.toNat : Int) = (n : Int) := by
    intro e
    have e2 : x.toNat = n := by omega
    exact hx (by rw [← e2]; simp)
  exact ⟨by simpa using this, by simpa using this, this⟩
set_option maxRecDepth 100000 in
set_option maxHeartbeats 1600000 in
theorem look_any (T : List UInt8) (hT : T.length ≤ 100000000000) (w : World) : Calls Tryd.prog 16 #[.string (bs T)] w fun e w' => e = .returned (.tuple #[.bool (saysL T), .int .i64 (cnt10 T : Int)]) ∧ w' = w := by
  obtain ⟨s, hs⟩ : ∃ s, bs T = s := ⟨_, rfl⟩
  have hsz : s.size = T.length := by rw [← hs, bs_size]
  have hsb : s.size ≤ 100000000000 := by omega
  have HZ := hide hsz
  have HG : Hid (∀ i (h : i < s.size), s[i] = T.getD i 0) := by subst hs; exact bs_get _
  rw [hs]
  clear hs hsz
  go_enter Tryd.func16, Tryd.ntmps16
  go_wp2_with fail
  go_loop [4, 5, 6, 7] (fun u v b z => ∃ (i e : Nat) (sy bg : Bool), i ≤ s.size ∧ e ≤ i ∧ u = .int .i64 (e : Int) ∧ v = .bool sy ∧ b = .bool bg ∧ z = .int .i64 (i : Int) ∧ Hid (saysL T = lk bg sy (T.drop i)) ∧ Hid (cnt10 T = e + cnt10 (T.drop i))) (fun _ _ _ z => s.size - (intOf z).toNat)
  case atStart => exact ⟨0, 0, false, false, by omega, by omega, rfl, rfl, rfl, rfl, (by show _ = _; rw [List.drop_zero, lk_says]), (by show _ = _; simp)⟩
  case round =>
    obtain ⟨i, e, sy, bg, hi, hei, rfl, rfl, rfl, rfl, HL, HC⟩ := hrel
    by_cases hlt : i < s.size
    · obtain ⟨x, hx⟩ : ∃ x, s[i] = x := ⟨_, rfl⟩
      have HTd : Hid (T.drop i = x :: T.drop (i + 1)) := by
        show _ = _
        have hiT : i < T.length := by have := HZ.out; omega
        rw [List.drop_eq_getElem_cons hiT, ← hx, HG.out i hlt]
        simp [List.getD, hiT]
      by_cases h10 : x = 10
      · obtain ⟨e10, n10⟩ : ((x.toNat : Int) == 10) = true ∧ ((x.toNat : Int) != 10) = false := by rw [h10]; exact ⟨rfl, rfl⟩
        obtain ⟨e32, n32, p32⟩ : ((x.toNat : Int) == 32) = false ∧ ((x.toNat : Int) != 32) = true ∧ ¬ (x.toNat : Int) = 32 := by rw [h10]; decide
        obtain ⟨e9, n9, p9⟩ : ((x.toNat : Int) == 9) = false ∧ ((x.toNat : Int) != 9) = true ∧ ¬ (x.toNat : Int) = 9 := by rw [h10]; decide
        obtain ⟨e13, n13, p13⟩ : ((x.toNat : Int) == 13) = false ∧ ((x.toNat : Int) != 13) = true ∧ ¬ (x.toNat : Int) = 13 := by rw [h10]; decide
        obtain ⟨e35, n35, p35⟩ : ((x.toNat : Int) == 35) = false ∧ ((x.toNat : Int) != 35) = true ∧ ¬ (x.toNat : Int) = 35 := by rw [h10]; decide
        have hg : ¬ gapB x = true := by rw [h10]; decide
        have h35 : (x != 35) = true := by rw [h10]; rfl
        cases bg with
        | true =>
          have HL2 : Hid (saysL T = lk true sy (T.drop (i + 1))) := by show _ = _; rw [HL.out, HTd.out, lk]
          have HC2 : Hid (cnt10 T = (e + 1) + cnt10 (T.drop (i + 1))) := by show _ = _; rw [HC.out, HTd.out, cnt_cons, if_pos h10]; omega
          clear h10 hg h35 HTd
          go_wp2_with fail
          go_round
          case rel => exact ⟨i + 1, (e + 1), sy, true, by omega, by omega, by go_num, rfl, rfl, by go_num, HL2, HC2⟩
          case measure => simp [intOf]; omega
        | false =>
          have HL2 : Hid (saysL T = lk true true (T.drop (i + 1))) := by show _ = _; rw [HL.out, HTd.out, lk, if_neg hg, h35]
          have HC2 : Hid (cnt10 T = (e + 1) + cnt10 (T.drop (i + 1))) := by show _ = _; rw [HC.out, HTd.out, cnt_cons, if_pos h10]; omega
          clear h10 hg h35 HTd
          go_wp2_with fail
          go_round
          case rel => exact ⟨i + 1, (e + 1), true, true, by omega, by omega, by go_num, rfl, rfl, by go_num, HL2, HC2⟩
          case measure => simp [intOf]; omega
      · obtain ⟨e10, n10, p10⟩ : ((x.toNat : Int) == 10) = false ∧ ((x.toNat : Int) != 10) = true ∧ ¬ (x.toNat : Int) = 10 := beqF 10 (by decide) h10
        cases bg with
        | true =>
          have HL2 : Hid (saysL T = lk true sy (T.drop (i + 1))) := by show _ = _; rw [HL.out, HTd.out, lk]
          have HC2 : Hid (cnt10 T = e + cnt10 (T.drop (i + 1))) := by show _ = _; rw [HC.out, HTd.out, cnt_cons, if_neg h10]; omega
          clear h10 HTd
          go_wp2_with fail
          go_round
          case rel => exact ⟨i + 1, e, sy, true, by omega, by omega, by go_num, rfl, rfl, by go_num, HL2, HC2⟩
          case measure => simp [intOf]; omega
        | false =>
          by_cases h32 : x = 32
          · obtain ⟨e32, n32⟩ : ((x.toNat : Int) == 32) = true ∧ ((x.toNat : Int) != 32) = false := by rw [h32]; exact ⟨rfl, rfl⟩
            have hg : gapB x = true := by rw [h32]; decide
            have HL2 : Hid (saysL T = lk false sy (T.drop (i + 1))) := by show _ = _; rw [HL.out, HTd.out, lk, if_pos hg]
            have HC2 : Hid (cnt10 T = e + cnt10 (T.drop (i + 1))) := by show _ = _; rw [HC.out, HTd.out, cnt_cons, if_neg h10]; omega
            clear h10 hg h32 HTd
            go_wp2_with fail
            go_round
            case rel => exact ⟨i + 1, e, sy, false, by omega, by omega, by go_num, rfl, rfl, by go_num, HL2, HC2⟩
            case measure => simp [intOf]; omega
          · obtain ⟨e32, n32, p32⟩ : ((x.toNat : Int) == 32) = false ∧ ((x.toNat : Int) != 32) = true ∧ ¬ (x.toNat : Int) = 32 := beqF 32 (by decide) h32
            by_cases h9 : x = 9
            · obtain ⟨e9, n9⟩ : ((x.toNat : Int) == 9) = true ∧ ((x.toNat : Int) != 9) = false := by rw [h9]; exact ⟨rfl, rfl⟩
              have hg : gapB x = true := by rw [h9]; decide
              have HL2 : Hid (saysL T = lk false sy (T.drop (i + 1))) := by show _ = _; rw [HL.out, HTd.out, lk, if_pos hg]
              have HC2 : Hid (cnt10 T = e + cnt10 (T.drop (i + 1))) := by show _ = _; rw [HC.out, HTd.out, cnt_cons, if_neg h10]; omega
              clear h10 hg h32 h9 HTd
              go_wp2_with fail
              go_round
              case rel => exact ⟨i + 1, e, sy, false, by omega, by omega, by go_num, rfl, rfl, by go_num, HL2, HC2⟩
              case measure => simp [intOf]; omega
            · obtain ⟨e9, n9, p9⟩ : ((x.toNat : Int) == 9) = false ∧ ((x.toNat : Int) != 9) = true ∧ ¬ (x.toNat : Int) = 9 := beqF 9 (by decide) h9
              by_cases h13 : x = 13
              · obtain ⟨e13, n13⟩ : ((x.toNat : Int) == 13) = true ∧ ((x.toNat : Int) != 13) = false := by rw [h13]; exact ⟨rfl, rfl⟩
                have hg : gapB x = true := by rw [h13]; decide
                have HL2 : Hid (saysL T = lk false sy (T.drop (i + 1))) := by show _ = _; rw [HL.out, HTd.out, lk, if_pos hg]
                have HC2 : Hid (cnt10 T = e + cnt10 (T.drop (i + 1))) := by show _ = _; rw [HC.out, HTd.out, cnt_cons, if_neg h10]; omega
                clear h10 hg h32 h9 h13 HTd
                go_wp2_with fail
                go_round
                case rel => exact ⟨i + 1, e, sy, false, by omega, by omega, by go_num, rfl, rfl, by go_num, HL2, HC2⟩
                case measure => simp [intOf]; omega
              · obtain ⟨e13, n13, p13⟩ : ((x.toNat : Int) == 13) = false ∧ ((x.toNat : Int) != 13) = true ∧ ¬ (x.toNat : Int) = 13 := beqF 13 (by decide) h13
                have hg : ¬ gapB x = true := by rw [gap_iff]; simp [h32, h9, h13]
                by_cases h35 : x = 35
                · obtain ⟨e35, n35⟩ : ((x.toNat : Int) == 35) = true ∧ ((x.toNat : Int) != 35) = false := by rw [h35]; exact ⟨rfl, rfl⟩
                  have hm : (x != 35) = false := by rw [h35]; rfl
                  have HL2 : Hid (saysL T = lk true false (T.drop (i + 1))) := by show _ = _; rw [HL.out, HTd.out, lk, if_neg hg, hm]
                  have HC2 : Hid (cnt10 T = e + cnt10 (T.drop (i + 1))) := by show _ = _; rw [HC.out, HTd.out, cnt_cons, if_neg h10]; omega
                  clear h10 hg h32 h9 h13 h35 hm HTd
                  go_wp2_with fail
                  go_round
                  case rel => exact ⟨i + 1, e, false, true, by omega, by omega, by go_num, rfl, rfl, by go_num, HL2, HC2⟩
                  case measure => simp [intOf]; omega
                · obtain ⟨e35, n35, p35⟩ : ((x.toNat : Int) == 35) = false ∧ ((x.toNat : Int) != 35) = true ∧ ¬ (x.toNat : Int) = 35 := beqF 35 (by decide) h35
                  have hm : (x != 35) = true := by simpa using h35
                  have HL2 : Hid (saysL T = lk true true (T.drop (i + 1))) := by show _ = _; rw [HL.out, HTd.out, lk, if_neg hg, hm]
                  have HC2 : Hid (cnt10 T = e + cnt10 (T.drop (i + 1))) := by show _ = _; rw [HC.out, HTd.out, cnt_cons, if_neg h10]; omega
                  clear h10 hg h32 h9 h13 h35 hm HTd
                  go_wp2_with fail
                  go_round
                  case rel => exact ⟨i + 1, e, true, true, by omega, by omega, by go_num, rfl, rfl, by go_num, HL2, HC2⟩
                  case measure => simp [intOf]; omega
    · have hks : ¬ (i : Int) < s.size := by omega
      have h2 : T.drop i = [] := List.drop_eq_nil_of_le (by have := HZ.out; omega)
      have HL2 : Hid (saysL T = sy) := by
        show _ = _
        rw [HL.out, h2]
        cases bg <;> rfl
      have HC2 : Hid (cnt10 T = e) := by
        show _ = _
        rw [HC.out, h2]
        rfl
      clear h2
      go_wp2_with fail
      go_ret2
      exact ⟨by rw [HL2.out, HC2.out]; rfl, rfl⟩
end Go.Proofs.YtmemcnjabnpdmabDoor
