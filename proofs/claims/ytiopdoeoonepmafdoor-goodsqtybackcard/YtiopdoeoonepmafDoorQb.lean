/- GoodsQtyBack: the law's walk. -/
import Derived.Test.YtiopdoeoonepmafDoorDcl
namespace Go.Proofs.YtiopdoeoonepmafDoor
open Go.RowKit

theorem k907 : str (Lib.decDigits 907) = ⟨#[57, 48, 55]⟩ := by
  rw [Lib.decDigits, dif_neg (by decide), Lib.decDigits, dif_neg (by decide), Lib.decDigits, dif_pos (by decide)]
  decide
theorem print_907 (w : World) (ht : Tab w) : Calls Tryd.prog 13 #[.int .i64 907] w fun e w' => e = .returned (.tuple #[.string ⟨#[57, 48, 55]⟩, .int .i64 0]) ∧ Below w.heap.size w w' := by
  have h := printQty_ok 907 (by decide) (by decide) w ht
  rw [k907] at h
  exact h
theorem all_dec (u : Nat) : allDig (str (Lib.decDigits u)) = true := by
  unfold allDig
  rw [str_list, List.all_eq_true]
  intro b hb
  have := dec_digit u b hb
  exact (dig_iff b).2 (by omega)
theorem str_at (l : List UInt8) (c : UInt8) (r : List UInt8) (h : l = c :: r) (h0 : 0 < (str l).size) : (str l)[0] = c := by
  subst h; rfl
/-- a quantity's numeral is read as the quantity -/
theorem parse_dec (u : Nat) (h1 : 1 ≤ u) (h2 : u ≤ 1000000) (w : World) :
    Calls Tryd.prog 14 #[.string (str (Lib.decDigits u))] w fun e w' => e = .returned (.tuple #[.int .i64 u, .int .i64 0]) ∧ Below w.heap.size w w' := by
  obtain ⟨c, r, e, hc⟩ := dec_head u h1
  have hsz : (str (Lib.decDigits u)).size = r.length + 1 := by rw [str_size, e]; rfl
  have h7 := dec_len7 u h1 h2
  have h0 : 0 < (str (Lib.decDigits u)).size := by omega
  have hat := str_at _ c r e h0
  have h := parse_num (str (Lib.decDigits u)) u w h0 (by rw [str_size]; exact h7) (all_dec u) (by rw [hat]; omega) (by rw [str_list]; exact decFrom_dec u)
  have e2 : pqR u = .tuple #[.int .i64 u, .int .i64 0] := by unfold pqR; rw [if_pos ⟨h1, h2⟩]
  rw [e2] at h
  exact h
/-- ParseQty of any text -/
theorem parse_any (s : ByteArray) (hs : s.size ≤ maxLen) (w : World) :
    Calls Tryd.prog 14 #[.string s] w fun e w' => (∃ (m : Nat) (f : Int), e = .returned (.tuple #[.int .i64 m, .int .i64 f]) ∧ ((f = 0 ∧ 1 ≤ m ∧ m ≤ 1000000 ∧ s = str (Lib.decDigits m)) ∨ ((f != 0) = true ∧ m = 0))) ∧ Below w.heap.size w w' := by
  by_cases hbad : s.size = 0 ∨ 7 < s.size ∨ allDig s = false ∨ (∃ h0 : 0 < s.size, s[0].toNat = 48 ∧ 1 < s.size)
  · exact (parse_bad s hs w hbad).mono fun e w' ⟨⟨f, hf, he⟩, hw⟩ => ⟨⟨0, f, he, .inr ⟨hf, rfl⟩⟩, by rw [hw]; exact Below.refl _ _⟩
  · have h0 : 0 < s.size := by
      rcases Nat.eq_zero_or_pos s.size with h | h
      · exact absurd (.inl h) hbad
      · exact h
    have h7 : s.size ≤ 7 := by
      rcases Nat.lt_or_ge 7 s.size with h | h
      · exact absurd (.inr (.inl h)) hbad
      · exact h
    have hd : allDig s = true := by
      cases h : allDig s with
      | true => rfl
      | false => exact absurd (.inr (.inr (.inl h))) hbad
    have hz : ¬ (s[0].toNat = 48 ∧ 1 < s.size) := fun h => hbad (.inr (.inr (.inr ⟨h0, h⟩)))
    obtain ⟨n, hn⟩ := decFrom_all s.data.toList 0 (allDig_mem s hd)
    refine (parse_num s n w h0 h7 hd hz hn).mono fun e w' ⟨he, hb⟩ => ⟨?_, hb⟩
    by_cases hq : 1 ≤ n ∧ n ≤ 1000000
    · refine ⟨n, 0, by rw [he, pqR, if_pos hq], .inl ⟨rfl, hq.1, hq.2, str_of ?_⟩⟩
      have hc0 : (s.data.toList.length : Nat) = s.size := by simp
      cases hl : s.data.toList with
      | nil => rw [hl] at hc0; simp at hc0; omega
      | cons c r =>
        have hsc : s[0] = c := by
          have : s.data.toList[0]? = some s[0] := by rw [List.getElem?_eq_getElem (by omega)]; rfl
          rw [hl] at this; exact (Option.some.inj this).symm
        rw [hl] at hn
        have hm := (dig_iff c).1 (by have := allDig_at s hd 0 h0; rw [hsc] at this; exact (dig_iff c).2 this)
        by_cases h48 : c.toNat = 48
        · have h1 : ¬ 1 < s.size := fun h => hz ⟨by rw [hsc]; exact h48, h⟩
          have hr : r = [] := by rw [hl] at hc0; simp at hc0; exact List.length_eq_zero_iff.1 (by omega)
          subst hr
          simp [Lib.decFrom, Lib.digitVal, h48] at hn
          omega
        · exact ((dec_back r c n (by omega) hn).1).symm
    · exact ⟨0, 6, by rw [he, pqR, if_neg hq]; rfl, .inr ⟨rfl, rfl⟩⟩

theorem below_on {a b c : World} (h1 : Below a.heap.size a b) (h2 : Below b.heap.size b c) : Below a.heap.size a c := h1.trans (h2.mono h1.size)
set_option maxRecDepth 100000 in
set_option maxHeartbeats 4000000 in
theorem qtyBack_law (n : Int) (text : ByteArray) (w : World) (hn : -9223372036854775808 ≤ n ∧ n ≤ 9223372036854775807) (hs : text.size ≤ maxLen) (ht : Tab w) :
    Calls Tryd.prog 5 #[.int .i64 n, .string text] w fun e w' => e = .returned (.bool true) ∧ Below w.heap.size w w' := by
  have HS := hide hs
  have HT := hide ht
  clear hs ht
  by_cases hq : 1 ≤ n ∧ n ≤ 1000000
  · obtain ⟨u, rfl⟩ : ∃ u : Nat, n = u := ⟨n.toNat, by omega⟩
    have hq1 : 1 ≤ u := by omega
    have hq2 : u ≤ 1000000 := by omega
    clear hq hn
    go_enter Tryd.func5, Tryd.ntmps5
    go_wp2_with fail
    refine (print_907 _ HT.out).mono ?_
    rintro e w1 ⟨rfl, b1⟩
    have HT1 := hide (HT.out.on b1)
    go_wp2_with fail
    refine (printQty_ok u hq1 hq2 _ HT1.out).mono ?_
    rintro e w2 ⟨rfl, b2⟩
    have HT2 := hide (HT1.out.on b2)
    go_wp2_with fail
    refine (parse_dec u hq1 hq2 _).mono ?_
    rintro e w3 ⟨rfl, b3⟩
    have HT3 := hide (HT2.out.on b3)
    go_wp2_with fail
    refine (decimal_any u (by omega) _).mono ?_
    rintro e w4 ⟨rfl, b4⟩
    have HTZ := hide (HT3.out.on b4)
    have bZ := below_on b1 (below_on b2 (below_on b3 b4))
    clear b1 b2 b3 b4
    go_wp2_with fail
    refine (parse_any text HS.out _).mono ?_
    rintro e wP ⟨⟨m, f, rfl, hmf⟩, bP⟩
    have HTP := hide (HTZ.out.on bP)
    rcases hmf with ⟨rfl, hm1, hm2, htx⟩ | ⟨hf, rfl⟩
    · have HX := hide htx
      clear htx
      go_wp2_with fail
      refine (printQty_ok m hm1 hm2 _ HTP.out).mono ?_
      rintro e wE ⟨rfl, bE⟩
      have hbE := below_on bZ (below_on bP bE)
      clear bZ bP bE
      rw [← HX.out]
      go_wp2
      go_ret
      exact ⟨by first | rfl | simp, hbE⟩
    · have hbE := below_on bZ bP
      clear bZ bP
      go_wp2
      go_ret
      exact ⟨by first | rfl | simp, hbE⟩
  · have HQ := hide (printQty_bad n hq)
    go_enter Tryd.func5, Tryd.ntmps5
    go_wp2_with fail
    refine (print_907 _ HT.out).mono ?_
    rintro e w1 ⟨rfl, b1⟩
    have HTZ := hide (HT.out.on b1)
    have bZ := b1
    clear b1
    go_wp2_with fail
    refine (HQ.out _).mono ?_
    rintro e w2 ⟨rfl, rfl⟩
    by_cases hq1 : 1 ≤ n
    · have hq2 : ¬ n ≤ 1000000 := fun h => hq ⟨hq1, h⟩
      clear hq
      go_wp2_with fail
      refine (parse_any text HS.out _).mono ?_
      rintro e wP ⟨⟨m, f, rfl, hmf⟩, bP⟩
      have HTP := hide (HTZ.out.on bP)
      rcases hmf with ⟨rfl, hm1, hm2, htx⟩ | ⟨hf, rfl⟩
      · have HX := hide htx
        clear htx
        go_wp2_with fail
        refine (printQty_ok m hm1 hm2 _ HTP.out).mono ?_
        rintro e wE ⟨rfl, bE⟩
        have hbE := below_on bZ (below_on bP bE)
        clear bZ bP bE
        rw [← HX.out]
        go_wp2
        go_ret
        exact ⟨by first | rfl | simp, hbE⟩
      · have hbE := below_on bZ bP
        clear bZ bP
        go_wp2
        go_ret
        exact ⟨by first | rfl | simp, hbE⟩
    · clear hq
      go_wp2_with fail
      refine (parse_any text HS.out _).mono ?_
      rintro e wP ⟨⟨m, f, rfl, hmf⟩, bP⟩
      have HTP := hide (HTZ.out.on bP)
      rcases hmf with ⟨rfl, hm1, hm2, htx⟩ | ⟨hf, rfl⟩
      · have HX := hide htx
        clear htx
        go_wp2_with fail
        refine (printQty_ok m hm1 hm2 _ HTP.out).mono ?_
        rintro e wE ⟨rfl, bE⟩
        have hbE := below_on bZ (below_on bP bE)
        clear bZ bP bE
        rw [← HX.out]
        go_wp2
        go_ret
        exact ⟨by first | rfl | simp, hbE⟩
      · have hbE := below_on bZ bP
        clear bZ bP
        go_wp2
        go_ret
        exact ⟨by first | rfl | simp, hbE⟩
end Go.Proofs.YtiopdoeoonepmafDoor
