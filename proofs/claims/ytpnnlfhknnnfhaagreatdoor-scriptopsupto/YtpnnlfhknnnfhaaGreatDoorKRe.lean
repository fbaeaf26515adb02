/- The reference's plainByte, skuOf. -/
import Derived.Test.YtpnnlfhknnnfhaaGreatDoorKRd
namespace Go.Proofs.YtpnnlfhknnnfhaaGreatDoor
open Go.RowKit T Y V
variable {w w' w2 : World} {g : Nat}

theorem pbyte_any (c : UInt8) (w : World) : Calls Tryz.prog 43 #[.int .u8 (c.toNat : Int)] w fun e w' => e = .returned (.bool (selfB c)) ∧ w' = w := by
  have hM : selfB c = (decide (33 ≤ (c.toNat : Int)) && decide ((c.toNat : Int) ≤ 126) && ((c.toNat : Int) != 34) && ((c.toNat : Int) != 92)) := rfl
  by_cases h1 : 33 ≤ (c.toNat : Int)
  · by_cases h2 : (c.toNat : Int) ≤ 126
    · rw [decide_eq_true h1, decide_eq_true h2, Bool.true_and, Bool.true_and] at hM
      cases h3 : ((c.toNat : Int) != 34)
      · rw [h3, Bool.false_and] at hM
        have HM := hide hM
        clear hM
        go_enter Tryz.func43, Tryz.ntmps43
        go_wp2
        go_ret
        exact ⟨ret_bool HM.out.symm, rfl⟩
      · rw [h3, Bool.true_and] at hM
        have HM := hide hM
        clear hM
        go_enter Tryz.func43, Tryz.ntmps43
        go_wp2
        go_ret
        exact ⟨ret_bool HM.out.symm, rfl⟩
    · rw [decide_eq_false h2, Bool.and_false, Bool.false_and, Bool.false_and] at hM
      have HM := hide hM
      clear hM
      go_enter Tryz.func43, Tryz.ntmps43
      go_wp2
      go_ret
      exact ⟨ret_bool HM.out.symm, rfl⟩
  · rw [decide_eq_false h1, Bool.false_and, Bool.false_and, Bool.false_and] at hM
    have HM := hide hM
    clear hM
    go_enter Tryz.func43, Tryz.ntmps43
    go_wp2
    go_ret
    exact ⟨ret_bool HM.out.symm, rfl⟩
theorem unq_at {D : List UInt8} {i : Nat} {c : UInt8} {X : Option (List UInt8)} {Z : List UInt8} (hX : X = (unq (D.drop i)).map (Z ++ ·)) (h : i < D.length) (hc : D.getD i 0 = c) (hs : selfB c = true) : X = (unq (D.drop (i + 1))).map ((Z ++ [c]) ++ ·) := by
  rw [hX, drop_at h, hc, unq_self hs, Option.map_map]
  congr 1
  funext y
  simp
theorem drop4 {D : List UInt8} {i : Nat} (h : i + 3 < D.length) : D.drop i = D.getD i 0 :: D.getD (i + 1) 0 :: D.getD (i + 2) 0 :: D.getD (i + 3) 0 :: D.drop (i + 4) := by
  rw [drop_at (by omega : i < D.length), drop_at (by omega : i + 1 < D.length), drop_at (by omega : i + 1 + 1 < D.length), drop_at (by omega : i + 1 + 1 + 1 < D.length)]
theorem unq_no {D : List UInt8} {i : Nat} {X : Option (List UInt8)} {Z : List UInt8} (hX : X = (unq (D.drop i)).map (Z ++ ·)) (h : i < D.length) (hs : selfB (D.getD i 0) = false) (hb : D.getD i 0 ≠ 92 ∨ D.length ≤ i + 3 ∨ D.getD (i + 1) 0 ≠ 120 ∨ hxv (D.getD (i + 2) 0) < 0 ∨ hxv (D.getD (i + 3) 0) < 0) : X = none := by
  have e : unq (D.drop i) = none := by
    by_cases hl : i + 3 < D.length
    · rw [drop4 hl, unq_esc hs, if_neg]
      rintro ⟨h1, h2, h3, h4⟩
      rcases hb with hb | hb | hb | hb | hb
      · exact hb h1
      · omega
      · exact hb h2
      · omega
      · omega
    · rw [drop_at h, unq_short hs]
      rw [List.length_drop]
      omega
  rw [hX, e]
  rfl
theorem unq_hex {D : List UInt8} {i p q : Nat} {X : Option (List UInt8)} {Z : List UInt8} (hX : X = (unq (D.drop i)).map (Z ++ ·)) (h : i + 3 < D.length) (hs : selfB (D.getD i 0) = false) (h1 : D.getD i 0 = 92) (h2 : D.getD (i + 1) 0 = 120) (h3 : hxv (D.getD (i + 2) 0) = (p : Int)) (h4 : hxv (D.getD (i + 3) 0) = (q : Int)) : X = (unq (D.drop (i + 4))).map ((Z ++ [UInt8.ofNat (16 * p + q)]) ++ ·) := by
  rw [hX, drop4 h, unq_esc hs, if_pos ⟨h1, h2, by omega, by omega⟩, h3, h4, Option.map_map]
  simp only [Int.toNat_natCast]
  congr 1
  funext y
  simp
set_option maxRecDepth 100000 in
set_option maxHeartbeats 6400000 in
theorem rskuOf_any (l : List UInt8) (hl : l.length ≤ 1000000000000) (w : World) : Calls Tryz.prog 24 #[.string (bs l)] w fun e w' => e = .returned (.tuple #[.string (bs ((skuOf l).getD [])), .bool (skuOf l).isSome]) ∧ Below w.heap.size w w' := by
  obtain ⟨s, hs⟩ : ∃ s, bs l = s := ⟨_, rfl⟩
  have hsz : s.size = l.length := by rw [← hs, bs_size]
  have HG := hide (fun w => refGood_any (bs l) w (by rw [bs_size]; unfold maxLen; omega))
  rw [bs_list, hs] at HG
  have hget : ∀ k (h : k < s.size), s[k] = l.getD k 0 := by subst hs; exact bs_get _
  cases hg : good l with
  | true =>
    rw [hg] at HG
    have HF : Hid (skuOf l = some l) := by show _ = _; unfold skuOf; rw [if_pos hg]
    have HS := hide hs
    rw [hs]
    clear hs hg hget
    go_enter Tryz.func24, Tryz.ntmps24
    go_wp2_with (go_at_call 42; refine (HG.out _).mono ?_; rintro e w1 ⟨rfl, h1⟩; subst w1)
    go_ret2
    exact ⟨ret_sb (by rw [HF.out]; exact HS.out.symm) (by rw [HF.out]; rfl), Below.refl _ _⟩
  | false =>
    rw [hg] at HG
    have hsk : skuOf l = if 2 ≤ l.length ∧ l.getD 0 0 = 34 ∧ l.getD (l.length - 1) 0 = 34 then unq ((l.take (l.length - 1)).drop 1) else none := by unfold skuOf; rw [if_neg (by rw [hg]; simp)]
    have hx : s.extract 1 (s.size - 1) = bs ((l.take (l.length - 1)).drop 1) := by rw [hsz, ← hs, bs_cut]
    rw [hs]
    clear hs hg
    have hsb : s.size ≤ 1000000000000 := by omega
    by_cases h2 : s.size < 2
    · have hlast : (s.size : Int) < 2 := by omega
      have HF : Hid (skuOf l = none) := by show _ = _; rw [hsk, if_neg (by omega)]
      clear hsk hget hsz hx h2
      go_enter Tryz.func24, Tryz.ntmps24
      go_wp2_with (go_at_call 42; refine (HG.out _).mono ?_; rintro e w1 ⟨rfl, h1⟩; subst w1)
      go_ret2
      exact ⟨ret_sb (by rw [HF.out]; rfl) (by rw [HF.out]; rfl), Below.refl _ _⟩
    · have h2I : ¬ (s.size : Int) < 2 := by omega
      obtain ⟨m, hm⟩ : ∃ m, s.size - 1 = m := ⟨_, rfl⟩
      have hml : l.length - 1 = m := by omega
      have hmI : (s.size : Int) - 1 = (m : Int) := by omega
      have h0s : 0 < s.size := by omega
      have h0I : (0 : Int) < s.size := by omega
      have hms : m < s.size := by omega
      have hmsI : (m : Int) < s.size := by omega
      have hmle : m ≤ s.size := by omega
      have h1m : 1 ≤ m := by omega
      have h1mI : (1 : Int) ≤ m := by omega
      rw [hm] at hx
      rw [hml] at hsk hx
      rw [← hget 0 h0s, ← hget m hms] at hsk
      by_cases h34 : s[0] = 34
      · have e0 : ((s[0].toNat : Int) == 34) = true := eq_beq (n := 34) (by decide) h34
        have f0 : ((s[0].toNat : Int) != 34) = false := by rw [bne, e0]; rfl
        by_cases hL : s[m] = 34
        · have e1 : ((s[m].toNat : Int) == 34) = true := eq_beq (n := 34) (by decide) hL
          have f1 : ((s[m].toNat : Int) != 34) = false := by rw [bne, e1]; rfl
          have HF : Hid (skuOf l = unq ((l.take m).drop 1)) := by show _ = _; rw [hsk, if_pos ⟨by omega, h34, hL⟩]
          obtain ⟨D, hD⟩ : ∃ D, (l.take m).drop 1 = D := ⟨_, rfl⟩
          have hDl : D.length ≤ 1000000000000 := by rw [← hD, List.length_drop, List.length_take]; omega
          rw [hD] at HF hx
          obtain ⟨sD, hsD⟩ : ∃ sD, bs D = sD := ⟨_, rfl⟩
          rw [hsD] at hx
          have hDz : sD.size = D.length := by rw [← hsD, bs_size]
          have HZ := hide hDz
          have hsDb : sD.size ≤ 1000000000000 := by omega
          have HD : Hid (∀ i (h : i < sD.size), sD[i] = D.getD i 0) := by subst hsD; exact bs_get _
          clear hsk hget hsz h2 h34 hL hD hml hsD hDz
          have HPB := hide (fun (c : UInt8) (v : World) => pbyte_any c v)
          have HDG := hide (fun (c : UInt8) (v : World) => digit_any c v)
          go_enter Tryz.func24, Tryz.ntmps24
          go_wp2_with (go_at_call 42; refine (HG.out _).mono ?_; rintro e w1 ⟨rfl, h1⟩; subst w1)
          go_loopw [4, 6] (fun t v wr => ∃ (bo : Option Addr) (n c : Nat) (Z : List UInt8) (i : Nat), t = .slice bo n c ∧ v = .int .i64 (i : Int) ∧ n ≤ i ∧ i ≤ sD.size ∧ Hid (BR wr bo n c (nI Z)) ∧ Hid (unq D = (unq (D.drop i)).map (Z ++ ·)) ∧ Hid (Below w.heap.size w wr) ∧ Hid (∀ k, blk bo = some k → w.heap.size ≤ k)) (fun _ v _ => sD.size - (intOf v).toNat)
          case atStart => exact ⟨none, 0, 0, [], 0, rfl, rfl, by omega, by omega, BR.nil _, (by show _ = _; simp), Below.refl _ _, (fun k hk => by cases hk)⟩
          case round =>
            obtain ⟨bo, n, c, Z, i, rfl, rfl, hn, hi, HR, HC, HB, HFr⟩ := hrel
            by_cases hlt : i < sD.size
            · obtain ⟨x, hxx⟩ : ∃ x, sD[i] = x := ⟨_, rfl⟩
              have Hx : Hid (D.getD i 0 = x) := by show _ = _; rw [← hxx, HD.out i hlt]
              have hiI : (i : Int) < sD.size := by omega
              have hiL : Hid (i < D.length) := by show _ < _; have := HZ.out; omega
              have hP := HPB.out x wr
              have hn1 : n + 1 ≤ 1000000000001 := by omega
              cases hsf : selfB x with
              | true =>
                rw [hsf] at hP
                have HP := hide hP
                have HE : Hid (unq D = (unq (D.drop (i + 1))).map ((Z ++ [x]) ++ ·)) := unq_at HC.out hiL.out Hx.out hsf
                clear hP hsf
                go_wp2_with fail
                refine HP.out.mono ?_
                rintro r w3 ⟨rfl, rfl⟩
                clear HP
                go_wp2_with (at_builtin; refine HR.out.app1 (x.toNat : Int) (Nat.le_trans hn1 (by omega)) rfl (.tmp 43) (.tmp 47) rfl rfl rfl ?_; intro b3 q3 w5 R3 A3; have HB3 := hide (below_ap HB.out HB.out.size A3 HFr.out); have HF3 := hide (fresh_step A3 HB.out.size HFr.out); have HR3 := hide R3; clear R3 A3)
                go_roundw
                case rel => exact ⟨b3, n + 1, q3, Z ++ [x], i + 1, rfl, by go_num, by omega, by omega, by show BR _ _ _ _ _; rw [nI_app]; exact HR3.out, HE, HB3, HF3⟩
                case measure => simp [intOf]; omega
              | false =>
                rw [hsf] at hP
                have HP := hide hP
                have HSf : Hid (selfB (D.getD i 0) = false) := by show _ = _; rw [Hx.out]; exact hsf
                clear hP hsf
                by_cases h92 : x = 92
                · have n92 : ((x.toNat : Int) != 92) = false := by rw [h92]; rfl
                  have H92 : Hid (D.getD i 0 = 92) := by show _ = _; rw [Hx.out]; exact h92
                  clear h92 Hx
                  obtain ⟨i3, hi3⟩ : ∃ i3, i + 3 = i3 := ⟨_, rfl⟩
                  have e3 : (i : Int) + 3 = (i3 : Int) := by omega
                  by_cases h3 : i3 < sD.size
                  · have h3I : ¬ (sD.size : Int) ≤ (i3 : Int) := by omega
                    have h3J : (i3 : Int) < sD.size := by omega
                    obtain ⟨i1, hi1⟩ : ∃ i1, i + 1 = i1 := ⟨_, rfl⟩
                    obtain ⟨i2, hi2⟩ : ∃ i2, i + 2 = i2 := ⟨_, rfl⟩
                    have e1 : (i : Int) + 1 = (i1 : Int) := by omega
                    have e2 : (i : Int) + 2 = (i2 : Int) := by omega
                    have h1s : i1 < sD.size := by omega
                    have h2s : i2 < sD.size := by omega
                    have h1J : (i1 : Int) < sD.size := by omega
                    have h2J : (i2 : Int) < sD.size := by omega
                    obtain ⟨x1, hx1⟩ : ∃ x1, sD[i1] = x1 := ⟨_, rfl⟩
                    obtain ⟨a, ha⟩ : ∃ a, sD[i2] = a := ⟨_, rfl⟩
                    obtain ⟨b, hb⟩ : ∃ b, sD[i3] = b := ⟨_, rfl⟩
                    have Hx1 : Hid (D.getD (i + 1) 0 = x1) := by show _ = _; rw [← hx1, HD.out i1 h1s, hi1]
                    have Ha : Hid (D.getD (i + 2) 0 = a) := by show _ = _; rw [← ha, HD.out i2 h2s, hi2]
                    have Hb : Hid (D.getD (i + 3) 0 = b) := by show _ = _; rw [← hb, HD.out i3 h3, hi3]
                    have Hi : Hid (i + 3 = i3) := hi3
                    have Hl3 : Hid (i + 3 < D.length) := by show _ < _; have := HZ.out; omega
                    clear hi1 hi2 hi3
                    by_cases h120 : x1 = 120
                    · have n120 : ((x1.toNat : Int) != 120) = false := by rw [h120]; rfl
                      have H120 : Hid (D.getD (i + 1) 0 = 120) := by show _ = _; rw [Hx1.out]; exact h120
                      clear h120 Hx1
                      obtain ⟨u, hu⟩ : ∃ u, hxv a = u := ⟨_, rfl⟩
                      obtain ⟨v, hv⟩ : ∃ v, hxv b = v := ⟨_, rfl⟩
                      have hA := HDG.out a wr
                      have hB := HDG.out b wr
                      have hub := hxv_lt a
                      have hvb := hxv_lt b
                      rw [hu] at hA hub
                      rw [hv] at hB hvb
                      have HA := hide hA
                      have HBd := hide hB
                      have Hu : Hid (hxv (D.getD (i + 2) 0) = u) := by show _ = _; rw [Ha.out]; exact hu
                      have Hv : Hid (hxv (D.getD (i + 3) 0) = v) := by show _ = _; rw [Hb.out]; exact hv
                      clear hA hB hu hv Ha Hb
                      by_cases hu0 : u < 0
                      · have HE : Hid (unq D = none) := unq_no HC.out hiL.out HSf.out (.inr (.inr (.inr (.inl (by rw [Hu.out]; exact hu0)))))
                        go_wp2_with fail
                        refine HP.out.mono ?_
                        rintro r w3 ⟨rfl, rfl⟩
                        clear HP
                        go_wp2_with fail
                        refine HA.out.mono ?_
                        rintro r w4 ⟨rfl, rfl⟩
                        clear HA
                        go_wp2_with fail
                        refine HBd.out.mono ?_
                        rintro r w5 ⟨rfl, rfl⟩
                        clear HBd
                        go_wp2_with fail
                        go_ret2
                        exact ⟨ret_sb (by rw [HF.out, HE.out]; rfl) (by rw [HF.out, HE.out]; rfl), HB.out⟩
                      · by_cases hv0 : v < 0
                        · have HE : Hid (unq D = none) := unq_no HC.out hiL.out HSf.out (.inr (.inr (.inr (.inr (by rw [Hv.out]; exact hv0)))))
                          go_wp2_with fail
                          refine HP.out.mono ?_
                          rintro r w3 ⟨rfl, rfl⟩
                          clear HP
                          go_wp2_with fail
                          refine HA.out.mono ?_
                          rintro r w4 ⟨rfl, rfl⟩
                          clear HA
                          go_wp2_with fail
                          refine HBd.out.mono ?_
                          rintro r w5 ⟨rfl, rfl⟩
                          clear HBd
                          go_wp2_with fail
                          go_ret2
                          exact ⟨ret_sb (by rw [HF.out, HE.out]; rfl) (by rw [HF.out, HE.out]; rfl), HB.out⟩
                        · obtain ⟨p, hp⟩ : ∃ p : Nat, u = (p : Int) := ⟨u.toNat, by omega⟩
                          obtain ⟨q, hq⟩ : ∃ q : Nat, v = (q : Int) := ⟨v.toNat, by omega⟩
                          subst hp
                          subst hq
                          have hp16 : p < 16 := by omega
                          have hq16 : q < 16 := by omega
                          obtain ⟨y, hy⟩ : ∃ y, UInt8.ofNat (16 * p + q) = y := ⟨_, rfl⟩
                          have HE : Hid (unq D = (unq (D.drop (i + 4))).map ((Z ++ [y]) ++ ·)) := by show _ = _; rw [← hy]; exact unq_hex HC.out Hl3.out HSf.out H92.out H120.out Hu.out Hv.out
                          have hyv : (y.toNat : Int) = 16 * (p : Int) + (q : Int) := by rw [← hy, UInt8.toNat_ofNat']; omega
                          have hyw : IntKind.u8.wrap (16 * (p : Int) + (q : Int)) = (y.toNat : Int) := by rw [wrap8 _ (by omega) (by omega)]; exact hyv.symm
                          clear hub hvb hy hyv
                          go_wp2_with fail
                          refine HP.out.mono ?_
                          rintro r w3 ⟨rfl, rfl⟩
                          clear HP
                          go_wp2_with fail
                          refine HA.out.mono ?_
                          rintro r w4 ⟨rfl, rfl⟩
                          clear HA
                          go_wp2_with fail
                          refine HBd.out.mono ?_
                          rintro r w6 ⟨rfl, rfl⟩
                          clear HBd
                          go_wp2_with (at_builtin; refine HR.out.app1 (y.toNat : Int) (Nat.le_trans hn1 (by omega)) rfl (.tmp 83) (.tmp 89) rfl rfl rfl ?_; intro b3 q3 w5 R3 A3; have HB3 := hide (below_ap HB.out HB.out.size A3 HFr.out); have HF3 := hide (fresh_step A3 HB.out.size HFr.out); have HR3 := hide R3; clear R3 A3)
                          go_roundw
                          case rel => exact ⟨b3, n + 1, q3, Z ++ [y], i + 4, rfl, by have := Hi.out; congr 1; omega, by omega, by have := Hi.out; omega, by show BR _ _ _ _ _; rw [nI_app]; exact HR3.out, HE, HB3, HF3⟩
                          case measure => have := Hi.out; simp [intOf]; omega
                    · have n120 : ((x1.toNat : Int) != 120) = true := (byteF 120 h120).2.1
                      have HE : Hid (unq D = none) := unq_no HC.out hiL.out HSf.out (.inr (.inr (.inl (by rw [Hx1.out]; exact h120))))
                      clear h120
                      go_wp2_with fail
                      refine HP.out.mono ?_
                      rintro r w3 ⟨rfl, rfl⟩
                      go_wp2_with fail
                      go_ret2
                      exact ⟨ret_sb (by rw [HF.out, HE.out]; rfl) (by rw [HF.out, HE.out]; rfl), HB.out⟩
                  · have h3I : (sD.size : Int) ≤ (i3 : Int) := by omega
                    have HE : Hid (unq D = none) := unq_no HC.out hiL.out HSf.out (.inr (.inl (by have := HZ.out; omega)))
                    clear hi3
                    go_wp2_with fail
                    refine HP.out.mono ?_
                    rintro r w3 ⟨rfl, rfl⟩
                    go_wp2_with fail
                    go_ret2
                    exact ⟨ret_sb (by rw [HF.out, HE.out]; rfl) (by rw [HF.out, HE.out]; rfl), HB.out⟩
                · have n92 : ((x.toNat : Int) != 92) = true := (byteF 92 h92).2.1
                  have HE : Hid (unq D = none) := unq_no HC.out hiL.out HSf.out (.inl (by rw [Hx.out]; exact h92))
                  clear h92
                  go_wp2_with fail
                  refine HP.out.mono ?_
                  rintro r w3 ⟨rfl, rfl⟩
                  go_wp2_with fail
                  go_ret2
                  exact ⟨ret_sb (by rw [HF.out, HE.out]; rfl) (by rw [HF.out, HE.out]; rfl), HB.out⟩
            · have hiI : ¬ (i : Int) < sD.size := by omega
              have HE : Hid (unq D = some Z) := by
                show _ = _
                rw [HC.out, List.drop_eq_nil_of_le (by have := HZ.out; omega)]
                simp [unq]
              have hcv := run_str HR.out
              rw [str_nI] at hcv
              go_wp2_with fail
              go_ret2
              exact ⟨ret_sb (by rw [HF.out, HE.out]; rfl) (by rw [HF.out, HE.out]; rfl), HB.out⟩
        · have e1 : ((s[m].toNat : Int) == 34) = false := ne_beq (n := 34) (by decide) hL
          have f1 : ((s[m].toNat : Int) != 34) = true := by rw [bne, e1]; rfl
          have HF : Hid (skuOf l = none) := by show _ = _; rw [hsk, if_neg (fun h => hL h.2.2)]
          clear hsk hget hsz h2 h34 hL hx hml
          go_enter Tryz.func24, Tryz.ntmps24
          go_wp2_with (go_at_call 42; refine (HG.out _).mono ?_; rintro e w1 ⟨rfl, h1⟩; subst w1)
          go_ret2
          exact ⟨ret_sb (by rw [HF.out]; rfl) (by rw [HF.out]; rfl), Below.refl _ _⟩
      · have e0 : ((s[0].toNat : Int) == 34) = false := ne_beq (n := 34) (by decide) h34
        have f0 : ((s[0].toNat : Int) != 34) = true := by rw [bne, e0]; rfl
        have HF : Hid (skuOf l = none) := by show _ = _; rw [hsk, if_neg (fun h => h34 h.2.1)]
        clear hsk hget hsz h2 h34 hx hml
        go_enter Tryz.func24, Tryz.ntmps24
        go_wp2_with (go_at_call 42; refine (HG.out _).mono ?_; rintro e w1 ⟨rfl, h1⟩; subst w1)
        go_ret2
        exact ⟨ret_sb (by rw [HF.out]; rfl) (by rw [HF.out]; rfl), Below.refl _ _⟩
end Go.Proofs.YtpnnlfhknnnfhaaGreatDoor
