/- GoodsCheckDigit: the law's walk. -/
import Derived.Test.YtakeckpfblinpaaTurn
import Derived.Test.YtakeckpfblinpaaWidLaw
import Derived.Deep.DeepCutAuto
import Derived.Deep.CutBlock
namespace Go.Proofs.Ytakeckpfblinpaa
open Go.RowKit

theorem wrap64_small (a : Nat) (h : a ≤ 1000) : wrap64 (a : Int) = a := by
  unfold wrap64; omega
/-- string([]byte{c}) -/
theorem one_text (w : World) (x : Nat) (h : x ≤ 9) : (convert 30 9 (.slice (some ⟨w.heap.size, 0, none⟩) 1 1)).run Try.prog (w.alloc (.cells #[.int .u8 (48 + (x : Int))] 5)) = .ok (.string (bs [dg x])) (w.alloc (.cells #[.int .u8 (48 + (x : Int))] 5)) := by
  refine Blk.text (L := [dg x]) ?_ rfl
  unfold Blk
  rw [heap_alloc_new]
  simp [V8, dg_nat x h]

theorem gtin_yes (s : ByteArray) (n : Nat) (hs : s.size = n) (hn : n ≤ 14) (h : gtE s = 0) (W : World) : Calls Try.prog 13 #[.string s] W fun e w' => e = .returned (.tuple #[.int .i64 n, .int .i64 0]) ∧ Below W.heap.size W w' := by
  have h2 := gtin_any s W (by unfold maxLen; omega)
  have e : gtN s = n := by unfold gtN; rw [if_pos h, hs]
  rw [h, e] at h2
  exact h2
theorem gtin_23 (s : ByteArray) (hs : s.size ≤ 14) (h : gtE s = 23) (W : World) : Calls Try.prog 13 #[.string s] W fun e w' => e = .returned (.tuple #[.int .i64 0, .int .i64 23]) ∧ Below W.heap.size W w' := by
  have h2 := gtin_any s W (by unfold maxLen; omega)
  have e : gtN s = 0 := by unfold gtN; rw [h]; rfl
  rw [h, e] at h2
  exact h2

set_option maxRecDepth 100000 in
set_option maxHeartbeats 4000000 in
theorem cd_any (seed which change : Int) (w : World) (hs0 : 0 ≤ seed) (hs1 : seed ≤ 18446744073709551615) (hc0 : 0 ≤ change) (hc1 : change ≤ 18446744073709551615) :
    Calls Try.prog 4 #[.int .u64 seed, .int .i64 which, .int .u64 change] w fun e w' => e = .returned (.bool true) ∧ Below w.heap.size w w' := by
  go_enter Try.func4, Try.ntmps4
  go_upto_block 0 with fail
  go_cut [7] (fun n wx => ∃ k : Nat, n = .int .i64 k ∧ Hid (k = 7 ∨ k = 11 ∨ k = 12 ∨ k = 13) ∧ wx = w)
  case first =>
    go_wp2
    · go_meet
      case rel => exact ⟨11, rfl, by show _ ∨ _; omega, rfl⟩
    · go_meet
      case rel => exact ⟨12, rfl, by show _ ∨ _; omega, rfl⟩
    · go_meet
      case rel => exact ⟨13, rfl, by show _ ∨ _; omega, rfl⟩
    · go_meet
      case rel => exact ⟨7, rfl, by show _ ∨ _; omega, rfl⟩
  case rest =>
    obtain ⟨n, rfl, HN, hwc⟩ := hcut
    have hnb : 7 ≤ n ∧ n ≤ 13 := by have := HN.out; omega
    subst hwc
    go_wp2_with fail
    refine (turned_any seed n _ hs0 hs1 (by omega)).mono ?_
    rintro e w1 ⟨L, rfl, hL, hd, hblk, hb1⟩
    have HD := hide hd
    have HL := hide hL
    have hcv := hblk.text hL
    clear hd hL
    go_wp2_with fail
    refine (digit_ok L _ (by rw [HL.out]; exact HN.out) HD.out).mono ?_
    rintro e w2 ⟨rfl, hb2⟩
    obtain ⟨d, Hd, hd9⟩ : ∃ d : Nat, Hid (chk (bs L) = d) ∧ d ≤ 9 := ⟨(chk (bs L)).toNat, by show _ = _; have := chk_rng L; omega, by have := chk_rng L; omega⟩
    rw [Hd.out]
    have hblk2 := hblk.below hb2 hblk.lt
    have hb := below_on hb1 (Nat.le_refl _) hb2
    clear hcv hblk hb1 hb2
    have hsz : (bs L).size = n := by rw [bs_size]; exact HL.out
    have hd0 : decide ((d : Int) < 0) = false := decide_eq_false (by omega)
    have hd1 : decide (9 < (d : Int)) = false := decide_eq_false (by omega)
    go_wp2_with fail
    go_loopw [11] (fun c wr => ∃ k : Nat, k ≤ 10 ∧ c = .int .i64 k ∧ Blk wr wc.heap.size L ∧ Below wc.heap.size wc wr) (fun c _ => 10 - (intOf c).toNat)
    case atStart => exact ⟨0, Nat.zero_le _, rfl, hblk2, hb⟩
    case round =>
      clear hblk2 hb
      obtain ⟨k, hk, rfl, hblk, hb⟩ := hrel
      by_cases hlt : k < 10
      · have hcv := hblk.text HL.out
        have hcv2 := one_text wr k (by omega)
        have hw := wrap8 (48 + (k : Int)) (by omega) (by omega)
        obtain ⟨Y, hY⟩ : ∃ Y, bs L ++ bs [dg k] = Y := ⟨_, rfl⟩
        have hs2 : (bs [dg k]).size = 1 := by rw [bs_size]; rfl
        have hYs : Hid (Y.size = n + 1) := by show _ = _; rw [← hY, bs_add, bs_size]; simp; exact HL.out
        have hYg : Hid (gtE Y = if chk (bs L) = ((dg k).toNat : Int) - 48 then 0 else 23) := by
          show _ = _; rw [← hY, bs_add]; exact gt_one L (dg k) (by rw [HL.out]; exact HN.out) HD.out (dg_dig k (by omega))
        have hbw : Below wc.heap.size wc (wr.alloc (.cells #[.int .u8 (48 + (k : Int))] 5)) := hb.alloc hb.size _
        have hblkw := hblk.alloc (.cells #[.int .u8 (48 + (k : Int))] 5)
        have HB : Hid (∀ w9, Below (wr.alloc (.cells #[.int .u8 (48 + (k : Int))] 5)).heap.size (wr.alloc (.cells #[.int .u8 (48 + (k : Int))] 5)) w9 → Blk w9 wc.heap.size L ∧ Below wc.heap.size wc w9) := fun w9 h => ⟨hblkw.below h hblkw.lt, below_on hbw (Nat.le_refl _) h⟩
        clear hblkw hbw hblk hb
        by_cases hkd : d = k
        · subst hkd
          have hE : gtE Y = 0 := by rw [hYg.out, Hd.out, dg_nat d hd9, if_pos (by omega)]
          have HG := hide (gtin_yes Y (n + 1) hYs.out (by omega) hE)
          clear hE hYg
          go_wp2_with (go_at_call 13; refine (HG.out _).mono ?_; rintro e w9 ⟨rfl, hb9⟩)
          go_roundw
          case rel => exact ⟨d + 1, by omega, by go_num, (HB.out _ hb9).1, (HB.out _ hb9).2⟩
          case measure => simp [intOf]; omega
        · have hE : gtE Y = 23 := by rw [hYg.out, Hd.out, dg_nat k (by omega), if_neg (by omega)]
          have HG := hide (gtin_23 Y (by rw [hYs.out]; omega) hE)
          have hkd' : ((k : Int) == (d : Int)) = false := by simp; omega
          clear hE hYg
          go_wp2_with (go_at_call 13; refine (HG.out _).mono ?_; rintro e w9 ⟨rfl, hb9⟩)
          go_roundw
          case rel => exact ⟨k + 1, by omega, by go_num, (HB.out _ hb9).1, (HB.out _ hb9).2⟩
          case measure => simp [intOf]; omega
      · have hcv := hblk.text HL.out
        have hcv2 := one_text wr d hd9
        have hw := wrap8 (48 + (d : Int)) (by omega) (by omega)
        obtain ⟨X, hX⟩ : ∃ X, bs L ++ bs [dg d] = X := ⟨_, rfl⟩
        have hs2 : (bs [dg d]).size = 1 := by rw [bs_size]; rfl
        have HXs : Hid (X.size = n + 1) := by show _ = _; rw [← hX, bs_add, bs_size]; simp; exact HL.out
        have hXb : 8 ≤ X.size ∧ X.size ≤ 14 := by have := HXs.out; omega
        have HW := hide (gt_wide L (dg d) (by rw [HL.out]; exact HN.out) HD.out (dg_dig d hd9) (by rw [Hd.out, dg_nat d hd9]; omega))
        have HE : Hid (gtE X = 0) := by
          show _ = _
          rw [← hX, bs_add, gt_one L (dg d) (by rw [HL.out]; exact HN.out) HD.out (dg_dig d hd9), Hd.out, dg_nat d hd9, if_pos (by omega)]
        obtain ⟨t, HT⟩ : ∃ t : ByteArray, Hid (zs (14 - X.size) ++ X = t) := ⟨_, rfl⟩
        have hts : t.size = 14 := by rw [← HT.out, wide_size]; omega
        have htr : t.extract (14 - X.size) 14 = X := by
          have e : 14 = 14 - X.size + X.size := by omega
          rw [← HT.out]
          conv => lhs; arg 3; rw [e]
          exact wide_rest X _
        have HG14 := hide (gtin_yes t 14 hts (Nat.le_refl _) (by rw [← HT.out, ← hX, bs_add]; exact HW.out.1))
        have hq : ((14 : Int) - (X.size : Int)).toNat = 14 - X.size := by omega
        have hbw : Below wc.heap.size wc (wr.alloc (.cells #[.int .u8 (48 + (d : Int))] 5)) := hb.alloc hb.size _
        have hblkw := hblk.alloc (.cells #[.int .u8 (48 + (d : Int))] 5)
        clear hblk hb HW
        go_wp2_with fail
        refine (widen_ok X _ HE.out).mono ?_
        rintro e w3 ⟨rfl, hb3⟩
        rw [HT.out]
        have hblk3 := hblkw.below hb3 hblkw.lt
        have hb3' := below_on hbw (Nat.le_refl _) hb3
        clear hbw hblkw hb3 hcv hcv2
        go_wp2_with fail
        refine (HG14.out _).mono ?_
        rintro e w4 ⟨rfl, hb4⟩
        have hblk4 := hblk3.below hb4 hblk3.lt
        have hb4' := below_on hb3' (Nat.le_refl _) hb4
        clear hblk3 hb3' hb4
        have hA0 : 0 ≤ change % (n : Int) := Int.emod_nonneg _ (by omega)
        have hA1 : change % (n : Int) < n := Int.emod_lt_of_pos _ (by omega)
        obtain ⟨A, HA⟩ : ∃ A : Nat, Hid (change % (n : Int) = A) := ⟨(change % (n : Int)).toNat, by show _ = _; omega⟩
        have hAn : A < n := by have := HA.out; omega
        have hA : wrap64 (change % (n : Int)) = A := by rw [HA.out]; exact wrap64_small A (by omega)
        have hq0 : 0 ≤ change / (n : Int) := Int.ediv_nonneg hc0 (by omega)
        have ht0 : (change / (n : Int)).tmod 9 = (change / (n : Int)) % 9 := Int.tmod_eq_emod_of_nonneg hq0
        obtain ⟨r, HR⟩ : ∃ r : Nat, Hid ((change / (n : Int)).tmod 9 = r) := ⟨((change / (n : Int)).tmod 9).toNat, by show _ = _; omega⟩
        have hr8 : r ≤ 8 := by have := HR.out; omega
        have hR : wrap64 ((change / (n : Int)).tmod 9) = r := by rw [HR.out]; exact wrap64_small r (by omega)
        clear hA0 hA1 hq0 ht0
        have hdA := (List.all_eq_true.1 HD.out) (L[A]'(by rw [HL.out]; exact hAn)) (List.getElem_mem _)
        rw [dig_iff] at hdA
        obtain ⟨x, Hx, hx9⟩ : ∃ x : Nat, Hid (((L[A]'(by rw [HL.out]; exact hAn)).toNat : Int) = 48 + (x : Int)) ∧ x ≤ 9 := ⟨((L[A]'(by rw [HL.out]; exact hAn)).toNat : Nat) - 48, by show _ = _; omega, by omega⟩
        have hcell := hblk4.cell A (by rw [HL.out]; exact hAn)
        rw [Hx.out] at hcell
        have hfr := hblk4.frozen A
        have hwx : IntKind.u8.wrap (48 + (x : Int) - 48) = x := by rw [wrap8 _ (by omega) (by omega)]; omega
        clear hdA
        have HS : Hid (Blk (w4.setCell ⟨wc.heap.size, A, none⟩ (.int .u8 (48 + ((x : Int) + (1 + (r : Int))) % 10))) wc.heap.size (L.set A (dg ((x + (1 + r)) % 10)))) := by
          have h := hblk4.set A (dg ((x + (1 + r)) % 10))
          rw [dg_nat _ (by omega)] at h
          have e : ((48 + (x + (1 + r)) % 10 : Nat) : Int) = 48 + ((x : Int) + (1 + (r : Int))) % 10 := by omega
          rw [e] at h
          exact h
        have HBs := hide (hb4'.setCell (p := ⟨wc.heap.size, A, none⟩) (Nat.le_refl _) (.int .u8 (48 + ((x : Int) + (1 + (r : Int))) % 10)))
        have HN2 : Hid (chk (bs (L.set A (dg ((x + (1 + r)) % 10)))) ≠ chk (bs L)) := by
          show _ ≠ _
          refine chk_set L A x (1 + r) (by rw [HL.out]; exact hAn) hx9 (by omega) (by omega) ?_
          have hlt : A < L.length := by rw [HL.out]; exact hAn
          simp only [List.getD, List.getElem?_eq_getElem hlt, Option.getD_some]
          apply UInt8.toNat.inj
          rw [dg_nat x hx9]; have := Hx.out; omega
        have HD2 : Hid ((L.set A (dg ((x + (1 + r)) % 10))).all dig = true) := by
          show _ = _
          rw [List.all_eq_true]
          intro c hc
          rcases List.mem_or_eq_of_mem_set hc with h | h
          · exact (List.all_eq_true.1 HD.out) c h
          · rw [h]; exact dg_dig _ (by omega)
        go_upto_region 31 with fail
        obtain ⟨w5, hw5⟩ : ∃ w5, w4.setCell ⟨wc.heap.size, A, none⟩ (.int .u8 (48 + ((x : Int) + (1 + (r : Int))) % 10)) = w5 := ⟨_, rfl⟩
        rw [hw5] at HS HBs ⊢
        obtain ⟨L2, hL2⟩ : ∃ L2, L.set A (dg ((x + (1 + r)) % 10)) = L2 := ⟨_, rfl⟩
        have HL2 : Hid (L2.length = n) := by show _ = _; rw [← hL2, List.length_set]; exact HL.out
        rw [hL2] at HS HN2 HD2
        clear hw5 hL2 hcell hfr hblk4 hb4'
        have hcv := HS.out.text HL2.out
        have hcv2 := one_text w5 d hd9
        obtain ⟨Y, hY⟩ : ∃ Y, bs L2 ++ bs [dg d] = Y := ⟨_, rfl⟩
        have hsz2 : (bs L2).size = n := by rw [bs_size]; exact HL2.out
        have hYs : Hid (Y.size = n + 1) := by show _ = _; rw [← hY, bs_add, bs_size]; simp; exact HL2.out
        have hE : gtE Y = 23 := by
          rw [← hY, bs_add, gt_one L2 (dg d) (by rw [HL2.out]; exact HN.out) HD2.out (dg_dig d hd9), dg_nat d hd9, if_neg]
          have := HN2.out
          rw [Hd.out] at this
          omega
        have HG := hide (gtin_23 Y (by rw [hYs.out]; omega) hE)
        clear hE
        go_wp2_with (go_at_call 13; refine (HG.out _).mono ?_; rintro e w9 ⟨rfl, hb9⟩)
        go_ret
        exact ⟨by simp, below_on (HBs.out.alloc HBs.out.size _) (Nat.le_refl _) hb9⟩
end Go.Proofs.Ytakeckpfblinpaa
