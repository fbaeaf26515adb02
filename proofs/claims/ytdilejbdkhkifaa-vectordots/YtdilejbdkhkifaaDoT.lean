/- VectorDots: the law's walk, where the first list has the dot. -/
import Derived.Test.YtdilejbdkhkifaaDoLaw
namespace Go.Proofs.Ytdilejbdkhkifaa
open Go.RowKit
attribute [local go_sem ↓] ld53_eq st53_eq

set_option maxRecDepth 100000 in
set_option maxHeartbeats 6000000 in
theorem dots_t (ao bo : Option Addr) (n c m d : Nat) (X Y : List Int) (r q : Int) (w : World) (hX : Src w ao n c X) (hY : Src w bo m d Y) (y : Bool) (hx : hasD X r q = true) (hy : hasD Y r q = y) :
    Calls Try.prog 8 #[.slice ao n c, .slice bo m d, .agg #[.int .i64 r, .int .i64 q]] w fun e w' => e = .returned (.bool true) ∧ Below w.heap.size w w' := by
  have HB := below_new w (.cells #[.int .i64 r, .int .i64 q] 29)
  have T0 := hide (ThD.mk HB (hX.below HB) (hY.below HB) (dot_new w r q))
  have Hx := hide hx
  have Hy := hide hy
  have HU : Hid (hasD (short (fmax (at' X) (at' Y))) r q = (true || y)) := by show _ = _; rw [has_up, hx, hy]
  have HV : Hid (hasD (short (fmin (at' X) (at' Y))) r q = (true && y)) := by show _ = _; rw [has_down, hx, hy]
  have HI : Hid (inL r q (behL (at' X) (at' Y) 16) = (y && !true)) := by show _ = _; rw [inL_beh, hx, hy]
  have HK := hide (beh_ok (at' X) (at' Y) (bd_at X) 16 (Nat.le_refl _))
  have HLn := hide (behL_length (at' X) (at' Y) 16)
  clear hX hY hx hy HB
  go_enter Try.func8, Try.ntmps8
  go_wp2_with fail
  obtain ⟨w0, Hw0⟩ : ∃ w0, w.alloc (.cells #[.int .i64 r, .int .i64 q] 29) = w0 := ⟨_, rfl⟩
  rw [Hw0] at T0 ⊢
  clear Hw0
  refine (awake_any _).mono ?_
  rintro e w1 ⟨rfl, b⟩
  have T1 := hide (T0.out.on b)
  clear T0 b
  go_wp2_with fail
  refine (lit_has w1 _ rfl).mono ?_
  rintro e w2 ⟨rfl, b⟩
  have T2 := hide (T1.out.on b)
  clear T1 b
  have d0 := T2.out.d.c0
  have d1 := T2.out.d.c1
  go_wp2_with fail
  refine (has_any _ _ _ X r q _ T2.out.x).mono ?_
  rintro e w3 ⟨rfl, b⟩
  have T3 := hide (T2.out.on b)
  clear T2 b d0 d1
  rw [Hx.out]
  have d0 := T3.out.d.c0
  have d1 := T3.out.d.c1
  go_wp2_with fail
  refine (has_any _ _ _ Y r q _ T3.out.y).mono ?_
  rintro e w4 ⟨rfl, b⟩
  have T4 := hide (T3.out.on b)
  clear T3 b d0 d1
  rw [Hy.out]
  have d0 := T4.out.d.c0
  have d1 := T4.out.d.c1
  have T4d : Hid (DotAt w4.drew w.heap.size r q) := T4.out.d
  have f0 := T4d.out.c0
  have f1 := T4d.out.c1
  go_wp2_with fail
  first | (go_region_held (fun W => W.cell? ⟨w.heap.size, 0, none⟩ = some (.int .i64 r) ∧ W.cell? ⟨w.heap.size, 1, none⟩ = some (.int .i64 q)) (first | exact ⟨j0, j1⟩ | exact ⟨i0, i1⟩ | exact ⟨g0, g1⟩ | exact ⟨e0, e1⟩ | go_keep) (first | (go_at_call 26; refine (mergeRows_any _ _ _ _ _ _ X Y _ _ (by simp) (by simp) (src_drew (T4.out.x.below (below_new _ _))) (src_drew (T4.out.y.below (below_new _ _)))).mono ?_; rintro e w5 ⟨a5, n5, c5, rfl, S, b⟩; have T5 := hide ((T4.out.on (below_drew (below_new _ _))).on b); have S5 := hide S; have e0 := T5.out.d.c0; have e1 := T5.out.d.c1; clear b S) | (go_at_call_of 18 a5; refine (has_any _ _ _ _ r q _ S5.out).mono ?_; rintro e w6 ⟨rfl, b⟩; have T6 := hide (T5.out.on b); have g0 := T6.out.d.c0; have g1 := T6.out.d.c1; clear b; rw [HU.out]) | (go_at_call 25; refine (meetRows_any _ _ _ _ _ _ X Y _ _ (by simp) (by simp) (T6.out.x.below (below_new _ _)) (T6.out.y.below (below_new _ _))).mono ?_; rintro e w7 ⟨a7, n7, c7, rfl, S, b⟩; have T7 := hide ((T6.out.on (below_new _ _)).on b); have S7 := hide S; have i0 := T7.out.d.c0; have i1 := T7.out.d.c1; clear b S) | (go_at_call_of 18 a7; refine (has_any _ _ _ _ r q _ S7.out).mono ?_; rintro e w8 ⟨rfl, b⟩; have T8 := hide (T7.out.on b); have j0 := T8.out.d.c0; have j1 := T8.out.d.c1; clear b; rw [HV.out]))) | fail
  all_goals (go_wp2_with fail)
  refine (behind_any _ _ _ _ _ _ X Y _ T8.out.x T8.out.y).mono ?_
  rintro e w9 ⟨a9, n9, c9, rfl, S, b⟩
  have T9 := hide (T8.out.on b)
  have S9 := hide S
  clear T8 T7 T6 T5 T4 T4d S5 S7 b S d0 d1 e0 e1 f0 f1 g0 g1 i0 i1 j0 j1
  go_wp2_with fail
  obtain ⟨LL, HLL⟩ : ∃ LL, Hid (behL (at' X) (at' Y) 16 = LL) := ⟨_, rfl⟩
  rw [HLL.out] at HI HK HLn S9
  go_loopw [9, 54] (fun v i wr => ∃ k : Nat, k ≤ n9 ∧ i = .int .i64 k ∧ v = .bool (inL r q (LL.take k)) ∧ Hid (ThD w wr ao bo n c m d X Y r q) ∧ Hid (SSrc wr a9 n9 c9 LL)) (fun _ i _ => n9 - (intOf i).toNat)
  case atStart => exact ⟨0, Nat.zero_le _, rfl, rfl, T9, S9⟩
  case round =>
    obtain ⟨k, hk, rfl, rfl, TR, SR⟩ := hrel
    have hn9 : n9 ≤ 16 := by have h1 := SR.out.1; have h2 := HLn.out; omega
    by_cases hlt : k < n9
    · obtain ⟨ad, rfl⟩ := SR.out.at k hlt
      have hlen : k < LL.length := by have := SR.out.1; omega
      have l1 := run_ld53 SR.out ad rfl k hlt
      have hm := HK.out _ (getS_mem LL k hlen)
      have TK := hide (take_snocS LL k hlen)
      obtain ⟨s, Hs⟩ : ∃ s, Hid (LL.getD k (0, 0, 0) = s) := ⟨_, rfl⟩
      rw [Hs.out] at l1 hm TK
      obtain ⟨v2, s2, p2, b2⟩ := freshS wr s
      obtain ⟨s0, sl, sh⟩ := s
      have TN := hide (TR.out.on b2)
      have SN := hide (SR.out.below b2)
      have z0 := p2.c0
      have z1 := p2.c1
      have z2 := p2.c2
      have y0 := TN.out.d.c0
      have y1 := TN.out.d.c1
      simp only at hm z0 z1 z2
      clear p2 b2 TR SR
      obtain ⟨u, Hu⟩ : ∃ u, Hid (inL r q (LL.take k) = u) := ⟨_, rfl⟩
      rw [Hu.out]
      have NX : Hid (inL r q (LL.take (k + 1)) = (u || ((s0 == r) && (decide (sl ≤ q) && decide (q ≤ sh))))) := by show _ = _; rw [TK.out, inL_snoc, Hu.out]; rfl
      have k1 : ¬ sl < 1 := by omega
      have k2 : ¬ sh < sl := by omega
      by_cases h1 : s0 = r
      · have h1' : (s0 == r) = true := by simp [h1]
        by_cases h2 : sl ≤ q
        · by_cases h3 : q ≤ sh
          · have NY : Hid (true = inL r q (LL.take (k + 1))) := by show _ = _; rw [NX.out, h1', decide_eq_true h2, decide_eq_true h3]; simp
            clear h1
            go_wp2_with fail
            go_roundw
            case rel => exact ⟨k + 1, by omega, by go_num, by rw [NY.out], TN, SN⟩
            case measure => simp [intOf]; omega
          · have NY : Hid (u = inL r q (LL.take (k + 1))) := by show _ = _; rw [NX.out, h1', decide_eq_true h2, decide_eq_false h3]; simp
            clear h1
            go_wp2_with fail
            go_roundw
            case rel => exact ⟨k + 1, by omega, by go_num, by rw [NY.out], TN, SN⟩
            case measure => simp [intOf]; omega
        · have NY : Hid (u = inL r q (LL.take (k + 1))) := by show _ = _; rw [NX.out, h1', decide_eq_false h2]; simp
          clear h1
          go_wp2_with fail
          go_roundw
          case rel => exact ⟨k + 1, by omega, by go_num, by rw [NY.out], TN, SN⟩
          case measure => simp [intOf]; omega
      · have h1' : (s0 == r) = false := by simp [h1]
        have NY : Hid (u = inL r q (LL.take (k + 1))) := by show _ = _; rw [NX.out, h1']; simp
        clear h1
        go_wp2_with fail
        go_roundw
        case rel => exact ⟨k + 1, by omega, by go_num, by rw [NY.out], TN, SN⟩
        case measure => simp [intOf]; omega
    · obtain rfl : k = n9 := by omega
      have e : LL.take k = LL := List.take_of_length_le (by have := SR.out.1; omega)
      rw [e, HI.out]
      cases y with
      | false =>
        go_wp2_with fail
        go_ret
        exact ⟨by first | rfl | simp, TR.out.below⟩
      | true =>
        go_wp2_with fail
        go_ret
        exact ⟨by first | rfl | simp, TR.out.below⟩
end Go.Proofs.Ytdilejbdkhkifaa
