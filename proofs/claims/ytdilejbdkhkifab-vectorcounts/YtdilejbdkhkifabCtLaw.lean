/- VectorCounts: the law's walk. -/
import Derived.Test.YtdilejbdkhkifabCPl
import Derived.Test.YtdilejbdkhkifabSpV
namespace Go.Proofs.Ytdilejbdkhkifab
open Go.RowKit
attribute [local go_sem ↓] st29_eq ld53_eq st53_eq

theorem lit_bump (w : World) (g : Nat) (hg : w.heap.size = g) : Calls Try.prog 15 #[.slice (some ⟨g, 0, none⟩) 1 1, .int .i64 2, .int .i64 10] (w.alloc (.cells #[.int .i64 3] 3)) fun e w' => Gives3 w w' e [3, 0, 1] 2 1 0 := by
  subst hg
  have h1 := bump_any (some ⟨w.heap.size, 0, none⟩) 1 1 [3] 2 10 (w.alloc (.cells #[.int .i64 3] 3)) (lit_src w [3] _ rfl 3 1 rfl)
  rw [show bumpZ [3] 2 10 = [3, 0, 1] from by decide +kernel, show bumpR [3] 2 10 = 2 from by decide +kernel, show bumpN [3] 2 10 = 1 from by decide +kernel, show bumpE [3] 2 10 = 0 from by decide +kernel] at h1
  exact h1.mono (fun e w' ⟨ao, n, c, he, S, hb, hn⟩ => ⟨ao, n, c, he, S, below_on2 (below_new _ _) hb, fun ad h => by have := hn ad h; simp at this; omega⟩)
theorem freshD (w1 : World) (R M : Int) : ∃ w2 : World, (st29 (.pointer (some ⟨w1.heap.size, 0, none⟩)) (.agg #[.int .i64 R, .int .i64 M])).run Try.prog (w1.alloc (.cells #[.int .i64 0, .int .i64 0] 31)) = .ok () w2 ∧ DotAt w2 w1.heap.size R M ∧ Below w1.heap.size w1 w2 ∧ w1.heap.size < w2.heap.size :=
  ⟨_, run_st29 (dot_new w1 0 0) R M, (dot_new w1 0 0).setRow R M, below_setRow (below_new _ _) (Nat.le_refl _), ((dot_new w1 0 0).setRow R M).lt⟩

set_option maxRecDepth 100000 in
set_option maxHeartbeats 1600000 in
theorem counts_row (ao : Option Addr) (n c : Nat) (V : List Int) (ro : Option Addr) (m d : Nat) (R : List Int) (l : Int) (w : World) (hV : Src w ao n c V) (_ : n ≤ maxLen) (hR : Src w ro m d R) (hm : m ≤ maxLen) (_ : (Lit.int .i64 l).wf = true) :
    Calls Try.prog 5 #[.slice ao n c, .slice ro m d, .int .i64 l] w fun e w' => e = .returned (.bool true) ∧ Below w.heap.size w w' := by
  have HV := hide hV
  have HR := hide hR
  unfold maxLen at hm
  clear hV hR
  go_enter Try.func5, Try.ntmps5
  go_wp2_with fail
  refine (lit_bump w _ rfl).mono ?_
  rintro e w1 ⟨a1, n1, c1, rfl, S, b, _⟩
  obtain ⟨w2, s2, d2, b2, _⟩ := freshD w1 2 1
  have B2 := hide (below_on2 b b2)
  have S2 := hide (S.below b2)
  have e0 := d2.c0
  have e1 := d2.c1
  clear b S b2 d2
  go_wp2_with fail
  refine (at_any a1 n1 c1 [3, 0, 1] 2 _ S2.out).mono ?_
  rintro e w3 ⟨rfl, rfl⟩
  rw [show atI [3, 0, 1] 2 = 1 from by decide +kernel]
  go_wp2_with fail
  refine (norm_any ao n c V _ (HV.out.below B2.out)).mono ?_
  rintro e w4 ⟨a4, n4, c4, rfl, S, b⟩
  have B4 := hide (below_on2 B2.out b)
  have S4 := hide S
  clear b S S2 s2 e0 e1 B2
  obtain ⟨F, HF⟩ : ∃ F, Hid (at' V = F) := ⟨_, rfl⟩
  have L4 : Hid (leF F (at' (short (at' V))) = true) := by
    show _ = _
    rw [leF_iff]; intro r hr; rw [at_short _ (bd_at V) r hr, HF.out]; exact Int.le_refl _
  have G4 : Hid ((0 : Int) = sumN (at' (short (at' V))) 16 - sumN F 16) := by
    show _ = _
    rw [sumN_congr _ _ 16 (at_short _ (bd_at V)), HF.out]; omega
  obtain ⟨N0, HN0⟩ : ∃ N0, Hid (short (at' V) = N0) := ⟨_, rfl⟩
  rw [HN0.out] at L4 G4 S4
  go_wp2_with fail
  go_loopw [10, 11, 42] (fun v g i wr => ∃ (k : Nat) (no : Option Addr) (nn nc : Nat) (N : List Int) (G : Int), k ≤ m ∧ i = .int .i64 k ∧ v = .slice no nn nc ∧ g = .int .i64 G ∧ Hid (Src wr no nn nc N) ∧ Hid (Below w.heap.size w wr) ∧ Hid (leF F (at' N) = true) ∧ Hid (G = sumN (at' N) 16 - sumN F 16)) (fun _ _ i _ => m - (intOf i).toNat)
  case atStart => exact ⟨0, a4, n4, c4, N0, 0, Nat.zero_le _, rfl, rfl, rfl, S4, B4, L4, G4⟩
  case round =>
    obtain ⟨k, no, nn, nc, N, G, hk, rfl, rfl, rfl, SN, BN, LN, GN⟩ := hrel
    by_cases hlt : k < m
    · obtain ⟨ad, rfl, ca⟩ := (HR.out.below BN.out).at k hlt
      obtain ⟨r, Hr⟩ : ∃ r, Hid (R.getD k 0 = r) := ⟨_, rfl⟩
      rw [Hr.out] at ca
      go_wp2_with fail
      refine (bump_any no nn nc N r l _ SN.out).mono ?_
      rintro e w5 ⟨a5, n5, c5, rfl, S, b, _⟩
      obtain ⟨E, HE⟩ : ∃ E, Hid (bumpE N r l = E) := ⟨_, rfl⟩
      obtain ⟨dr, Hdr⟩ : ∃ x, Hid (bumpR N r l = x) := ⟨_, rfl⟩
      obtain ⟨dn, Hdn⟩ : ∃ x, Hid (bumpN N r l = x) := ⟨_, rfl⟩
      obtain ⟨NZ, HNZ⟩ : ∃ x, Hid (bumpZ N r l = x) := ⟨_, rfl⟩
      rw [HE.out, Hdr.out, Hdn.out]
      rw [HNZ.out] at S
      obtain ⟨w6, s6, d6, b6, _⟩ := freshD w5 dr dn
      have BB := below_on2 b b6
      have B6 := hide (BN.out.trans (BB.mono BN.out.size))
      have N6 := hide (SN.out.below BB)
      have S6 := hide (S.below b6)
      have D6 := hide d6
      have e0 := d6.c0
      have e1 := d6.c1
      clear b b6 BB S d6 SN BN
      obtain ⟨x, Hx⟩ : ∃ x, Hid (isR r = x) := ⟨_, rfl⟩
      cases x with
      | false =>
        have hE : bumpE N r l = 3 := by unfold bumpE; rw [Hx.out]; rfl
        obtain ⟨z1, z2, z3⟩ := bump_no N r l 3 (by decide) hE
        obtain rfl : E = 3 := by rw [← HE.out, hE]
        obtain rfl : dr = 0 := by rw [← Hdr.out, z2]
        obtain rfl : dn = 0 := by rw [← Hdn.out, z3]
        obtain rfl : n5 = 0 := by rw [← S6.out.1, ← HNZ.out, z1]; rfl
        clear hE z1 z2 z3
        rcases isR_no Hx.out with h | h
        · have h' : ¬ (0 : Int) ≤ r := by omega
          go_wp2_with fail
          go_roundw
          case rel => exact ⟨k + 1, no, nn, nc, N, G, by omega, by go_num, rfl, rfl, N6, B6, LN, GN⟩
          case measure => simp [intOf]; omega
        · have h' : (0 : Int) ≤ r := by omega
          have h'' : ¬ r < 16 := by omega
          go_wp2_with fail
          go_roundw
          case rel => exact ⟨k + 1, no, nn, nc, N, G, by omega, by go_num, rfl, rfl, N6, B6, LN, GN⟩
          case measure => simp [intOf]; omega
      | true =>
        obtain ⟨j, rfl, hj⟩ := isR_yes Hx.out
        have HAT : Hid (atI N j = at' N j) := by show _ = _; unfold atI; rw [if_pos Hx.out, Int.toNat_natCast]
        by_cases hc : cut l ≤ at' N j
        · have hE : bumpE N j l = 9 := by unfold bumpE; rw [Hx.out, if_pos rfl, Int.toNat_natCast, if_pos hc]
          obtain ⟨z1, z2, z3⟩ := bump_no N j l 9 (by decide) hE
          obtain rfl : E = 9 := by rw [← HE.out, hE]
          obtain rfl : dr = 0 := by rw [← Hdr.out, z2]
          obtain rfl : dn = 0 := by rw [← Hdn.out, z3]
          obtain rfl : n5 = 0 := by rw [← S6.out.1, ← HNZ.out, z1]; rfl
          clear hE z1 z2 z3
          obtain ⟨y, Hy⟩ : ∃ y, Hid (at' N j = y) := ⟨_, rfl⟩
          rw [Hy.out] at hc HAT
          by_cases hl : y < l
          · have h2 : ¬ y < 1000000000 := by unfold cut at hc; split at hc <;> omega
            clear hc
            go_wp2_with (go_at_call 16; refine (at_any no nn nc N j _ N6.out).mono ?_; rintro e w' ⟨rfl, rfl⟩; rw [HAT.out])
            go_roundw
            case rel => exact ⟨k + 1, no, nn, nc, N, G, by omega, by go_num, rfl, rfl, N6, B6, LN, GN⟩
            case measure => simp [intOf]; omega
          · clear hc
            go_wp2_with (go_at_call 16; refine (at_any no nn nc N j _ N6.out).mono ?_; rintro e w' ⟨rfl, rfl⟩; rw [HAT.out])
            go_roundw
            case rel => exact ⟨k + 1, no, nn, nc, N, G, by omega, by go_num, rfl, rfl, N6, B6, LN, GN⟩
            case measure => simp [intOf]; omega
        · obtain ⟨z0, z1, z2, z3⟩ := bump_up N j l hj hc
          obtain rfl : E = 0 := by rw [← HE.out, z0]
          obtain rfl : dr = j := by rw [← Hdr.out, z2]
          have q1 := hide (up_hasnt N j hj)
          have q2 := hide (up_has N j l hj hc)
          have q3 := hide (up_sum N j l hj hc)
          have q4 := hide (up_ord N j l hj hc)
          have q5 := hide (up_le N j l hj hc F LN.out)
          have q6 := cut_lt hc
          rw [HNZ.out] at z1
          rw [← z1] at q2 q3 q4 q5
          have dnE : at' N j + 1 = dn := by rw [← Hdn.out, z3]
          rw [dnE] at q1 q2
          have q7 : ¬ l < dn := by omega
          clear z0 z1 z2 z3 hc HAT q6 dnE
          have bN := sumN_bd (at' N) (bd_at N) 16 (Nat.le_refl _)
          have bF := sumN_bd F (by rw [← HF.out]; exact bd_at V) 16 (Nat.le_refl _)
          have hG : -16000000000 ≤ G ∧ G ≤ 16000000000 := by have := GN.out; omega
          have GX : Hid (G + 1 = sumN (at' NZ) 16 - sumN F 16) := by show _ = _; rw [q3.out, GN.out]; omega
          obtain ⟨t, Ht⟩ : ∃ t, Hid (sumN (at' N) 16 = t) := ⟨_, rfl⟩
          rw [Ht.out] at bN q3
          clear bF GN
          go_wp2_with fail
          refine (has_any no nn nc N j dn _ N6.out).mono ?_
          rintro e w7 ⟨rfl, b⟩
          have B7 := hide (B6.out.trans (b.mono B6.out.size))
          have N7 := hide (N6.out.below b)
          have S7 := hide (S6.out.below b)
          have D7 := hide (D6.out.below b)
          clear b B6 N6 S6 D6 e0 e1
          have e0 := D7.out.c0
          have e1 := D7.out.c1
          rw [q1.out]
          go_wp2_with fail
          refine (has_any a5 n5 c5 NZ j dn _ S7.out).mono ?_
          rintro e w8 ⟨rfl, b⟩
          have B8 := hide (B7.out.trans (b.mono B7.out.size))
          have N8 := hide (N7.out.below b)
          have S8 := hide (S7.out.below b)
          have D8 := hide (D7.out.below b)
          clear b B7 N7 S7 D7 e0 e1
          have e0 := D8.out.c0
          have e1 := D8.out.c1
          rw [q2.out]
          go_wp2_with fail
          refine (vsum_any a5 n5 c5 NZ _ S8.out).mono ?_
          rintro e w9 ⟨rfl, b⟩
          have B9 := hide (B8.out.trans (b.mono B8.out.size))
          have N9 := hide (N8.out.below b)
          have S9 := hide (S8.out.below b)
          clear b B8 N8 S8 D8 e0 e1
          rw [q3.out]
          go_wp2_with fail
          refine (vsum_any no nn nc N _ N9.out).mono ?_
          rintro e w10 ⟨rfl, b⟩
          have B10 := hide (B9.out.trans (b.mono B9.out.size))
          have N10 := hide (N9.out.below b)
          have S10 := hide (S9.out.below b)
          clear b B9 N9 S9
          rw [Ht.out]
          have hne : (t + 1 != t + 1) = false := by simp
          go_wp2_with fail
          refine (vorder_any a5 no n5 c5 nn nc NZ N _ S10.out N10.out).mono ?_
          rintro e w11 ⟨rfl, b⟩
          have B11 := hide (B10.out.trans (b.mono B10.out.size))
          have S11 := hide (S10.out.below b)
          clear b B10 N10 S10
          rw [q4.out]
          go_wp2_with fail
          go_roundw
          case rel => exact ⟨k + 1, a5, n5, c5, NZ, G + 1, by omega, by go_num, rfl, by go_num, S11, B11, q5, GX⟩
          case measure => simp [intOf]; omega
    · obtain rfl : k = m := by omega
      have bN := sumN_bd (at' N) (bd_at N) 16 (Nat.le_refl _)
      have FB := hide (show Bd F by rw [← HF.out]; exact bd_at V)
      have SP : Hid (spanN (behL F (at' N) 16) = G) := by show _ = _; rw [spanN_beh F (at' N) 16 ((leF_iff _ _).1 LN.out), GN.out]
      have HK := hide (beh_bd F (at' N) FB.out (bd_at N) 16 (Nat.le_refl _))
      have HLn := hide (behL_length F (at' N) 16)
      go_wp2_with fail
      refine (behind_any _ _ _ _ _ _ V N _ (HV.out.below BN.out) SN.out).mono ?_
      rintro e w9 ⟨a9, n9, c9, rfl, S, b⟩
      rw [HF.out] at S
      have B9 := hide (BN.out.trans (b.mono BN.out.size))
      have S9 := hide S
      clear b S SN BN
      obtain ⟨LL, HLL⟩ : ∃ LL, Hid (behL F (at' N) 16 = LL) := ⟨_, rfl⟩
      rw [HLL.out] at SP HK HLn S9
      go_wp2_with fail
      go_loopw [17, 143] (fun v i wr => ∃ p : Nat, p ≤ n9 ∧ i = .int .i64 p ∧ v = .int .i64 (spanN (LL.take p)) ∧ Hid (Below w.heap.size w wr) ∧ Hid (SSrc wr a9 n9 c9 LL)) (fun _ i _ => n9 - (intOf i).toNat)
      case atStart => exact ⟨0, Nat.zero_le _, rfl, rfl, B9, S9⟩
      case round =>
        obtain ⟨p, hp, rfl, rfl, BR, SR⟩ := hrel
        have hn9 : n9 ≤ 16 := by have h1 := SR.out.1; have h2 := HLn.out; omega
        by_cases hpl : p < n9
        · obtain ⟨bd, rfl⟩ : ∃ bd, a9 = some bd := by
            cases a9 with
            | none => have := SR.out.2.1 rfl; omega
            | some bd => exact ⟨bd, rfl⟩
          have hlen : p < LL.length := by have := SR.out.1; omega
          have l1 := run_ld53 SR.out bd rfl p hpl
          have hmem : LL.getD p (0, 0, 0) ∈ LL := by
            simp only [List.getD, List.getElem?_eq_getElem hlen, Option.getD_some]; exact List.getElem_mem hlen
          have hmm := HK.out _ hmem
          have TK : Hid (LL.take (p + 1) = LL.take p ++ [LL.getD p (0, 0, 0)]) := by
            show _ = _; rw [List.take_succ_eq_append_getElem hlen]; simp [List.getD, hlen]
          have tb := spanN_take_bd LL HK.out p
          obtain ⟨s, Hs⟩ : ∃ s, Hid (LL.getD p (0, 0, 0) = s) := ⟨_, rfl⟩
          rw [Hs.out] at l1 hmm TK
          obtain ⟨v2, s2, p2, b2⟩ := freshS wr s
          obtain ⟨s0, sl, sh⟩ := s
          have BR2 := hide (BR.out.trans (b2.mono BR.out.size))
          have SR2 := hide (SR.out.below b2)
          have z1 := p2.c1
          have z2 := p2.c2
          simp only at hmm z1 z2
          clear p2 b2 BR SR hmem
          obtain ⟨u, Hu⟩ : ∃ u, Hid (spanN (LL.take p) = u) := ⟨_, rfl⟩
          have NX : Hid (spanN (LL.take (p + 1)) = u + (sh - sl + 1)) := by show _ = _; rw [TK.out, spanN_snoc, Hu.out]
          rw [Hu.out] at tb ⊢
          go_wp2_with fail
          go_roundw
          case rel => exact ⟨p + 1, by omega, by go_num, by rw [NX.out], BR2, SR2⟩
          case measure => simp [intOf]; omega
        · obtain rfl : p = n9 := by omega
          have e : LL.take p = LL := List.take_of_length_le (by have := SR.out.1; omega)
          rw [e, SP.out]
          have hgg : (G == G) = true := by simp
          go_wp2_with fail
          go_ret
          exact ⟨by simp, BR.out⟩
end Go.Proofs.Ytdilejbdkhkifab
