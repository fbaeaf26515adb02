/- SpanGalois: the law's walk. -/
import Derived.Test.YtahlchijgfillaaRRk
import Derived.Test.YtahlchijgfillaaRHs
namespace Go.Proofs.Ytahlchijgfillaa
open Go.RowKit
attribute [local go_sem ↓] ldR_eq stR_eq
attribute [local go_sem] zero_RC cells_RV RC_size fold_RC build_RC

theorem galois_good {X : List Rn} (n : Int) (h : form 1 X) : 0 ≤ rk X n ∧ rk X n ≤ sz X ∧ sz X ≤ 1000000000 ∧ (pk X (rk X n) ≤ n ∨ rk X n = 0) ∧ 0 ≤ pk X (rk X n) ∧ pk X (rk X n) ≤ 1000000000 ∧ (pk X (rk X n + 1) = 0 ∨ (1 ≤ pk X (rk X n + 1) ∧ n < pk X (rk X n + 1) ∧ fst X (pk X (rk X n) + 1) = pk X (rk X n + 1))) := by
  obtain ⟨b0, b1⟩ := rk_bd n h
  have hz := sz_bd h
  have hz0 : sz X ≤ 1000000000 := by
    rcases hz.2.1 with e | e
    · rw [e]; simp [sz]
    · omega
  have en : pk X (rk X n + 1) = pick X (rk X n + 1) := by unfold pk; rw [if_neg (by omega)]
  rw [en]
  by_cases c : rk X n = 0
  · have eq : pk X (rk X n) = 0 := by unfold pk; rw [if_pos (by omega)]
    rw [eq]
    refine ⟨b0, b1, hz0, Or.inr c, by omega, by omega, ?_⟩
    by_cases c1 : rk X n + 1 ≤ sz X
    · obtain ⟨g1, g2⟩ := next_good n (Int.le_refl _) h c1
      have g3 := (pick_good (Int.le_refl _) h (by omega) c1).2.2.2.1
      exact Or.inr ⟨g3, g1, g2 _ (Or.inl c) (by omega)⟩
    · exact Or.inl (pick_none h (by omega) c1)
  · have eq : pk X (rk X n) = pick X (rk X n) := by unfold pk; rw [if_neg (by omega)]
    rw [eq]
    obtain ⟨_, _, _, q1, q2⟩ := pick_good (k := rk X n) (Int.le_refl _) h (by omega) b1
    have q3 := pick_rk n h (by omega)
    refine ⟨b0, b1, hz0, Or.inl q3, by omega, by omega, ?_⟩
    by_cases c1 : rk X n + 1 ≤ sz X
    · obtain ⟨g1, g2⟩ := next_good n (Int.le_refl _) h c1
      have g3 := (pick_good (Int.le_refl _) h (by omega) c1).2.2.2.1
      exact Or.inr ⟨g3, g1, g2 _ (Or.inr (by omega)) (by omega)⟩
    · exact Or.inl (pick_none h (by omega) c1)
theorem lit46 : NormOf [⟨4, 6⟩] [⟨4, 6⟩] := NormOf.self ⟨by decide, by decide, by decide, trivial⟩
set_option maxRecDepth 100000 in
set_option maxHeartbeats 800000 in
theorem galois_any (ao : Option Addr) (m cap : Nat) (A : List Rn) (n k : Int) (w : World) (hS : RSrc w ao m cap A) (hk0 : -9223372036854775808 ≤ k) (hk1 : k ≤ 9223372036854775807) :
    Calls Try.prog 6 #[.slice ao m cap, .int .i64 n, .int .i64 k] w fun e w' => e = .returned (.bool true) ∧ Below w.heap.size w w' := by
  have HS := hide hS
  clear hS
  go_enter Try.func6, Try.ntmps6
  go_wp2_with fail
  refine (pick_any _ 1 1 [⟨4, 6⟩] 2 _ (lit_rsrc w [⟨4, 6⟩] _ rfl _ 1 rfl (by omega)) (by omega)).mono ?_
  rintro e w1 ⟨p1, rfl, hp1, b1⟩
  obtain rfl : p1 = 5 := hp1 _ lit46
  have HB1 := hide ((below_new _ _).trans (b1.mono (below_new _ _).size))
  clear b1 hp1
  go_wp2_with fail
  refine (rank_any _ 1 1 [⟨4, 6⟩] 5 _ (lit_rsrc w1 [⟨4, 6⟩] _ rfl _ 1 rfl (by omega))).mono ?_
  rintro e w2 ⟨p2, rfl, hp2, b2⟩
  obtain rfl : p2 = 2 := hp2 _ lit46
  have HB2 := hide (HB1.out.trans (((below_new _ _).trans (b2.mono (below_new _ _).size)).mono HB1.out.size))
  clear b2 hp2 HB1
  go_wp2_with fail
  refine (size_any ao m cap A _ (HS.out.below HB2.out)).mono ?_
  rintro e w3 ⟨s, rfl, hs, b3⟩
  obtain ⟨X, hX, rfl⟩ := hs
  have HX := hide hX
  have HB3 := hide (HB2.out.trans (b3.mono HB2.out.size))
  clear b3 hX HB2
  go_wp2_with fail
  refine (pick_any ao m cap A k _ (HS.out.below HB3.out) hk1).mono ?_
  rintro e w4 ⟨p, rfl, hp, b4⟩
  have HP : Hid (p = pk X k) := hp X HX.out
  have HB4 := hide (HB3.out.trans (b4.mono HB3.out.size))
  clear b4 hp HB3
  have hgg := galois_good n HX.out.1
  have HG := hide hgg
  obtain ⟨g1, g2, g3, -⟩ := hgg
  obtain ⟨s, Hs⟩ : ∃ s, Hid (sz X = s) := ⟨_, rfl⟩
  obtain ⟨r, Hr⟩ : ∃ r, Hid (rk X n = r) := ⟨_, rfl⟩
  rw [Hr.out] at g1 g2
  rw [Hs.out] at g2 g3 ⊢
  by_cases c1 : 1 ≤ k
  · by_cases c2 : k ≤ s
    · have hpg := pick_good (Int.le_refl _) HX.out.1 c1 (by rw [Hs.out]; exact c2)
      have ep : pk X k = pick X k := by unfold pk; rw [if_neg (by omega)]
      rw [← ep, ← HP.out] at hpg
      obtain ⟨m1, m2, m3, m4, m5⟩ := hpg
      have HM := hide m1
      have HM2 := hide m2
      have HM3 := hide m3
      have e1 : IntKind.i64.wrap (p - 1) = p - 1 := by rw [IntKind.wrap_i64]; omega
      have e2 : IntKind.i64.wrap (k - 1) = k - 1 := by rw [IntKind.wrap_i64]; omega
      clear m1 m2 m3 ep
      go_wp2_with fail
      refine (has_any ao m cap A p _ (HS.out.below HB4.out)).mono ?_
      rintro e w5 ⟨b, rfl, hb, b5⟩
      obtain rfl : b = true := hb.2 ((HX.out.2 p).1 HM.out)
      have HB5 := hide (HB4.out.trans (b5.mono HB4.out.size))
      clear b5 hb HB4
      go_wp2_with fail
      refine (rank_any ao m cap A p _ (HS.out.below HB5.out)).mono ?_
      rintro e w6 ⟨k', rfl, hk', b6⟩
      obtain rfl : k' = k := (hk' X HX.out).trans HM2.out
      have HB6 := hide (HB5.out.trans (b6.mono HB5.out.size))
      clear b6 hk' HB5
      go_wp2_with fail
      refine (rank_any ao m cap A (p - 1) _ (HS.out.below HB6.out)).mono ?_
      rintro e w7 ⟨k2, rfl, hk2, b7⟩
      obtain rfl : k2 = k' - 1 := (hk2 X HX.out).trans HM3.out
      have HB4 := hide (HB6.out.trans (b7.mono HB6.out.size))
      clear b7 hk2 HB6
      go_wp2_with fail
      refine (rank_any ao m cap A n _ (HS.out.below HB4.out)).mono ?_
      rintro e w8 ⟨r', rfl, hr, b8⟩
      obtain rfl : r' = r := (hr X HX.out).trans Hr.out
      have HB8 := hide (HB4.out.trans (b8.mono HB4.out.size))
      clear b8 hr HB4
      go_wp2_with fail
      refine (pick_any ao m cap A r' _ (HS.out.below HB8.out) (by omega)).mono ?_
      rintro e w9 ⟨q, rfl, hq, b9⟩
      have HQ : Hid (q = pk X r') := hq X HX.out
      have HB9 := hide (HB8.out.trans (b9.mono HB8.out.size))
      clear b9 hq HB8
      obtain ⟨-, -, -, q1, q2, q3, q4⟩ := HG.out
      rw [Hr.out, ← HQ.out] at q1 q2 q3 q4
      have HQ4 := hide q4
      have e3 : IntKind.i64.wrap (r' + 1) = r' + 1 := by rw [IntKind.wrap_i64]; omega
      have e4 : IntKind.i64.wrap (q + 1) = q + 1 := by rw [IntKind.wrap_i64]; omega
      clear q4
      by_cases d1 : n < q
      · have d3 : ¬ 0 < r' := by omega
        go_wp2_with fail
        refine (pick_any ao m cap A (r' + 1) _ (HS.out.below HB9.out) (by omega)).mono ?_
        rintro e w10 ⟨t, rfl, ht, b10⟩
        have ht := ht X HX.out
        have HB10 := hide (HB9.out.trans (b10.mono HB9.out.size))
        clear b10 HB9
        have q4 := HQ4.out
        rw [← ht] at q4
        clear ht HQ4
        rcases q4 with h | ⟨h1, h2, h3⟩
        · subst h
          go_wp2_with fail
          go_ret
          exact ⟨rfl, HB10.out⟩
        · have H3 := hide h3
          have d2 : (t == 0) = false := by simp; omega
          clear h3
          go_wp2_with fail
          refine (first_any ao m cap A (q + 1) _ (HS.out.below HB10.out)).mono ?_
          rintro e w11 ⟨f, rfl, hf, b11⟩
          obtain rfl : f = t := (hf X HX.out).trans H3.out
          have HB11 := hide (HB10.out.trans (b11.mono HB10.out.size))
          clear b11 hf
          go_wp2_with fail
          go_ret
          exact ⟨by simp, HB11.out⟩
      · go_wp2_with fail
        refine (pick_any ao m cap A (r' + 1) _ (HS.out.below HB9.out) (by omega)).mono ?_
        rintro e w10 ⟨t, rfl, ht, b10⟩
        have ht := ht X HX.out
        have HB10 := hide (HB9.out.trans (b10.mono HB9.out.size))
        clear b10 HB9
        have q4 := HQ4.out
        rw [← ht] at q4
        clear ht HQ4
        rcases q4 with h | ⟨h1, h2, h3⟩
        · subst h
          go_wp2_with fail
          go_ret
          exact ⟨rfl, HB10.out⟩
        · have H3 := hide h3
          have d2 : (t == 0) = false := by simp; omega
          clear h3
          go_wp2_with fail
          refine (first_any ao m cap A (q + 1) _ (HS.out.below HB10.out)).mono ?_
          rintro e w11 ⟨f, rfl, hf, b11⟩
          obtain rfl : f = t := (hf X HX.out).trans H3.out
          have HB11 := hide (HB10.out.trans (b11.mono HB10.out.size))
          clear b11 hf
          go_wp2_with fail
          go_ret
          exact ⟨by simp, HB11.out⟩
    · have ep : pk X k = 0 := by unfold pk; rw [if_neg (by omega), pick_none HX.out.1 c1 (by rw [Hs.out]; exact c2)]
      obtain rfl : p = 0 := HP.out.trans ep
      clear ep
      go_wp2_with fail
      refine (rank_any ao m cap A n _ (HS.out.below HB4.out)).mono ?_
      rintro e w8 ⟨r', rfl, hr, b8⟩
      obtain rfl : r' = r := (hr X HX.out).trans Hr.out
      have HB8 := hide (HB4.out.trans (b8.mono HB4.out.size))
      clear b8 hr HB4
      go_wp2_with fail
      refine (pick_any ao m cap A r' _ (HS.out.below HB8.out) (by omega)).mono ?_
      rintro e w9 ⟨q, rfl, hq, b9⟩
      have HQ : Hid (q = pk X r') := hq X HX.out
      have HB9 := hide (HB8.out.trans (b9.mono HB8.out.size))
      clear b9 hq HB8
      obtain ⟨-, -, -, q1, q2, q3, q4⟩ := HG.out
      rw [Hr.out, ← HQ.out] at q1 q2 q3 q4
      have HQ4 := hide q4
      have e3 : IntKind.i64.wrap (r' + 1) = r' + 1 := by rw [IntKind.wrap_i64]; omega
      have e4 : IntKind.i64.wrap (q + 1) = q + 1 := by rw [IntKind.wrap_i64]; omega
      clear q4
      by_cases d1 : n < q
      · have d3 : ¬ 0 < r' := by omega
        go_wp2_with fail
        refine (pick_any ao m cap A (r' + 1) _ (HS.out.below HB9.out) (by omega)).mono ?_
        rintro e w10 ⟨t, rfl, ht, b10⟩
        have ht := ht X HX.out
        have HB10 := hide (HB9.out.trans (b10.mono HB9.out.size))
        clear b10 HB9
        have q4 := HQ4.out
        rw [← ht] at q4
        clear ht HQ4
        rcases q4 with h | ⟨h1, h2, h3⟩
        · subst h
          go_wp2_with fail
          go_ret
          exact ⟨rfl, HB10.out⟩
        · have H3 := hide h3
          have d2 : (t == 0) = false := by simp; omega
          clear h3
          go_wp2_with fail
          refine (first_any ao m cap A (q + 1) _ (HS.out.below HB10.out)).mono ?_
          rintro e w11 ⟨f, rfl, hf, b11⟩
          obtain rfl : f = t := (hf X HX.out).trans H3.out
          have HB11 := hide (HB10.out.trans (b11.mono HB10.out.size))
          clear b11 hf
          go_wp2_with fail
          go_ret
          exact ⟨by simp, HB11.out⟩
      · go_wp2_with fail
        refine (pick_any ao m cap A (r' + 1) _ (HS.out.below HB9.out) (by omega)).mono ?_
        rintro e w10 ⟨t, rfl, ht, b10⟩
        have ht := ht X HX.out
        have HB10 := hide (HB9.out.trans (b10.mono HB9.out.size))
        clear b10 HB9
        have q4 := HQ4.out
        rw [← ht] at q4
        clear ht HQ4
        rcases q4 with h | ⟨h1, h2, h3⟩
        · subst h
          go_wp2_with fail
          go_ret
          exact ⟨rfl, HB10.out⟩
        · have H3 := hide h3
          have d2 : (t == 0) = false := by simp; omega
          clear h3
          go_wp2_with fail
          refine (first_any ao m cap A (q + 1) _ (HS.out.below HB10.out)).mono ?_
          rintro e w11 ⟨f, rfl, hf, b11⟩
          obtain rfl : f = t := (hf X HX.out).trans H3.out
          have HB11 := hide (HB10.out.trans (b11.mono HB10.out.size))
          clear b11 hf
          go_wp2_with fail
          go_ret
          exact ⟨by simp, HB11.out⟩
  · have ep : pk X k = 0 := by unfold pk; rw [if_pos (by omega)]
    obtain rfl : p = 0 := HP.out.trans ep
    clear ep
    go_wp2_with fail
    refine (rank_any ao m cap A n _ (HS.out.below HB4.out)).mono ?_
    rintro e w8 ⟨r', rfl, hr, b8⟩
    obtain rfl : r' = r := (hr X HX.out).trans Hr.out
    have HB8 := hide (HB4.out.trans (b8.mono HB4.out.size))
    clear b8 hr HB4
    go_wp2_with fail
    refine (pick_any ao m cap A r' _ (HS.out.below HB8.out) (by omega)).mono ?_
    rintro e w9 ⟨q, rfl, hq, b9⟩
    have HQ : Hid (q = pk X r') := hq X HX.out
    have HB9 := hide (HB8.out.trans (b9.mono HB8.out.size))
    clear b9 hq HB8
    obtain ⟨-, -, -, q1, q2, q3, q4⟩ := HG.out
    rw [Hr.out, ← HQ.out] at q1 q2 q3 q4
    have HQ4 := hide q4
    have e3 : IntKind.i64.wrap (r' + 1) = r' + 1 := by rw [IntKind.wrap_i64]; omega
    have e4 : IntKind.i64.wrap (q + 1) = q + 1 := by rw [IntKind.wrap_i64]; omega
    clear q4
    by_cases d1 : n < q
    · have d3 : ¬ 0 < r' := by omega
      go_wp2_with fail
      refine (pick_any ao m cap A (r' + 1) _ (HS.out.below HB9.out) (by omega)).mono ?_
      rintro e w10 ⟨t, rfl, ht, b10⟩
      have ht := ht X HX.out
      have HB10 := hide (HB9.out.trans (b10.mono HB9.out.size))
      clear b10 HB9
      have q4 := HQ4.out
      rw [← ht] at q4
      clear ht HQ4
      rcases q4 with h | ⟨h1, h2, h3⟩
      · subst h
        go_wp2_with fail
        go_ret
        exact ⟨rfl, HB10.out⟩
      · have H3 := hide h3
        have d2 : (t == 0) = false := by simp; omega
        clear h3
        go_wp2_with fail
        refine (first_any ao m cap A (q + 1) _ (HS.out.below HB10.out)).mono ?_
        rintro e w11 ⟨f, rfl, hf, b11⟩
        obtain rfl : f = t := (hf X HX.out).trans H3.out
        have HB11 := hide (HB10.out.trans (b11.mono HB10.out.size))
        clear b11 hf
        go_wp2_with fail
        go_ret
        exact ⟨by simp, HB11.out⟩
    · go_wp2_with fail
      refine (pick_any ao m cap A (r' + 1) _ (HS.out.below HB9.out) (by omega)).mono ?_
      rintro e w10 ⟨t, rfl, ht, b10⟩
      have ht := ht X HX.out
      have HB10 := hide (HB9.out.trans (b10.mono HB9.out.size))
      clear b10 HB9
      have q4 := HQ4.out
      rw [← ht] at q4
      clear ht HQ4
      rcases q4 with h | ⟨h1, h2, h3⟩
      · subst h
        go_wp2_with fail
        go_ret
        exact ⟨rfl, HB10.out⟩
      · have H3 := hide h3
        have d2 : (t == 0) = false := by simp; omega
        clear h3
        go_wp2_with fail
        refine (first_any ao m cap A (q + 1) _ (HS.out.below HB10.out)).mono ?_
        rintro e w11 ⟨f, rfl, hf, b11⟩
        obtain rfl : f = t := (hf X HX.out).trans H3.out
        have HB11 := hide (HB10.out.trans (b11.mono HB10.out.size))
        clear b11 hf
        go_wp2_with fail
        go_ret
        exact ⟨by simp, HB11.out⟩
end Go.Proofs.Ytahlchijgfillaa
