/- MailAcks: the law's walk. -/
import Derived.Test.YtmpklgnoliicbaaMAk
namespace Go.Proofs.Ytmpklgnoliicbaa
open Go.RowKit
attribute [local go_sem ↓] ldP_eq stP_eq ldM_eq stM_eq
attribute [local go_sem] MC_size to_MC MC_s0 MC_s1 MC_s2 MC_s3 MC_s4 MC_s5
variable {w w' : World} {g : Nat}

theorem ack_form {a b c d e : Int} {po : Option Addr} {pn pc : Nat} {X : List Pt} (h : ckE ⟨a, b, c, d, e, po, pn, pc⟩ X = 0) : ckE ⟨3, c, b, 0, e, none, 0, 0⟩ [] = 0 := by
  have hi : inForm ⟨a, b, c, d, e, po, pn, pc⟩ X = true := by
    unfold ckE at h
    by_cases x : inForm ⟨a, b, c, d, e, po, pn, pc⟩ X = true
    · exact x
    · rw [if_neg x] at h; cases h
  unfold inForm at hi
  simp only [Bool.and_eq_true, Bool.not_eq_true', decide_eq_false_iff_not] at hi
  obtain ⟨h1, h2, h3, h4, -⟩ := hi
  have hb : ¬ (d < 0 ∨ e < d ∨ 4611686018427387904 < e) := by
    unfold ofKind at h4
    by_cases x : d < 0 ∨ e < d ∨ 4611686018427387904 < e
    · rw [if_pos x] at h4; cases h4
    · exact x
  have hv : inForm ⟨3, c, b, 0, e, none, 0, 0⟩ [] = true := by
    unfold inForm ofKind
    simp only [h1, h2, Bool.true_and]
    rw [decide_eq_false (fun x => h3 x.symm), if_neg (by omega)]
    simp [kindB, rise]
  unfold ckE
  rw [if_pos hv]
set_option maxRecDepth 100000 in
set_option maxHeartbeats 2000000 in
theorem mailAcks_any (a b c d e : Int) (po : Option Addr) (pn pc : Nat) (X : List Pt) (w : World) (S : PSrc w po pn pc X) (he : e ≤ 9223372036854775807) : Calls Try.prog 4 #[MV ⟨a, b, c, d, e, po, pn, pc⟩] w fun r w' => r = .returned (.bool true) ∧ Below w.heap.size w w' := by
  obtain ⟨w1, hw1⟩ : ∃ w1, w.alloc (.cells (MC ⟨a, b, c, d, e, po, pn, pc⟩) 24) = w1 := ⟨_, rfl⟩
  obtain ⟨g, hg⟩ : ∃ g, w.heap.size = g := ⟨_, rfl⟩
  have HX := hide (bx_new w ⟨a, b, c, d, e, po, pn, pc⟩ hw1 hg)
  have HS := hide (S.below HX.out.bel)
  have HE := hide he
  have HG := hide hg
  clear S he
  go_enter Try.func4, Try.ntmps4
  go_wp2_with fail
  clear hw1 hg
  refine (some_any w1).mono ?_
  rintro r w2 ⟨q, v, rfl, S2, b2⟩
  have HS2 := hide S2
  have HB2 := hide b2
  clear S2 b2
  go_wp2_with fail
  refine (ack_any 1 0 1 2 3 (some ⟨q, 0, none⟩) 1 1 [⟨4, some ⟨v, 0, none⟩, 2, 2⟩] w2 HS2.out (by omega)).mono ?_
  rintro r w3 ⟨rfl, b3⟩
  rw [show ackV ⟨1, 0, 1, 2, 3, some ⟨q, 0, none⟩, 1, 1⟩ [⟨4, some ⟨v, 0, none⟩, 2, 2⟩] = ⟨3, 1, 0, 0, 3, none, 0, 0⟩ from rfl, show ackE ⟨1, 0, 1, 2, 3, some ⟨q, 0, none⟩, 1, 1⟩ [⟨4, some ⟨v, 0, none⟩, 2, 2⟩] = 0 from rfl]
  have HB3 := hide (HB2.out.trans (b3.mono HB2.out.size))
  obtain ⟨g3, hg3⟩ : ∃ g3, w3.heap.size = g3 := ⟨_, rfl⟩
  obtain ⟨w4, hst, M4, b4, z4⟩ := madeM w3 ⟨3, 1, 0, 0, 3, none, 0, 0⟩ g3 hg3
  have HB4 := hide (HB3.out.trans (b4.mono HB3.out.size))
  have HM4 := hide M4
  have HMX := hide (HX.out.box.below HB4.out)
  have l4 := run_ldM HMX.out
  have a0 := M4.c0
  simp only at a0
  have HGG : Hid (w1.heap.size ≤ g3) := by show _ ≤ _; rw [← hg3]; exact HB3.out.size
  clear HS2 b3 M4 b4 z4 HB2
  go_wp2_with fail
  refine (ack_any a b c d e po pn pc X w4 (HS.out.below HB4.out) HE.out).mono ?_
  rintro r w5 ⟨rfl, b5⟩
  have HB5 := hide b5
  have HNE : Hid (g ≠ g3) := by show _ ≠ _; have := HX.out.box.lt; have := HGG.out; omega
  clear b5
  have FIN : Hid (∀ W, Below w1.heap.size w1 W → Below w.heap.size w W) := fun W hb => HX.out.bel.trans (hb.mono HX.out.bel.size)
  rcases ckE_cases ⟨a, b, c, d, e, po, pn, pc⟩ X with hc | hc
  · have HCK := hide hc
    by_cases hk : a = 1 ∨ a = 2
    · have hV : ackV ⟨a, b, c, d, e, po, pn, pc⟩ X = ⟨3, c, b, 0, e, none, 0, 0⟩ := by unfold ackV; rw [if_pos ⟨hc, hk⟩]
      have hE : ackE ⟨a, b, c, d, e, po, pn, pc⟩ X = 0 := by unfold ackE; rw [if_pos hc, if_pos hk]
      rw [hV, hE]
      clear hV hE
      have hst5 : (stM (.pointer (some ⟨g3, 0, none⟩)) (.agg (MC ⟨3, c, b, 0, e, none, 0, 0⟩))).run Try.prog w5 = .ok () (w5.setRow g3 (MC ⟨3, c, b, 0, e, none, 0, 0⟩)) := run_stM (HM4.out.below HB5.out)
      have HM6 : Hid (MBox (w5.setRow g3 (MC ⟨3, c, b, 0, e, none, 0, 0⟩)) g3 ⟨3, c, b, 0, e, none, 0, 0⟩) := (HM4.out.below HB5.out).setRow
      have HX6 : Hid (MBox (w5.setRow g3 (MC ⟨3, c, b, 0, e, none, 0, 0⟩)) g ⟨a, b, c, d, e, po, pn, pc⟩) := (setRow_other _ _ _ _ HNE.out).trans (HMX.out.below HB5.out)
      have HB6 : Hid (Below w1.heap.size w1 (w5.setRow g3 (MC ⟨3, c, b, 0, e, none, 0, 0⟩))) := below_setRow (HB4.out.trans (HB5.out.mono HB4.out.size)) HGG.out
      have l6 := run_ldM HX6.out
      clear l4 a0 hst
      go_wp2_with fail
      refine (rcheck_any a b c d e po pn pc X _ (HS.out.below HB6.out)).mono ?_
      rintro r w7 ⟨rfl, b7⟩
      rw [HCK.out]
      have HM7 := hide (HM6.out.below b7)
      have HX7 := hide (HX6.out.below b7)
      have HB7 := hide (HB6.out.trans (b7.mono HB6.out.size))
      clear b7 l6 hst5 HM6 HX6
      have k0 := HX7.out.c0
      have l7 := run_ldM HM7.out
      simp only at k0
      have HCA := hide (check_any 3 c b 0 e none 0 0 [] w7 (PSrc.empty _) HE.out)
      rw [ack_form hc] at HCA
      have HAF := hide (ack_form hc)
      clear hc
      by_cases hk1 : a = 1
      · subst hk1
        clear hk
        go_wp2_with fail
        refine HCA.out.mono ?_
        rintro r w8 ⟨rfl, b8⟩
        have HM8 := hide (HM7.out.below b8)
        have HX8 := hide (HX7.out.below b8)
        have HB8 := hide (HB7.out.trans (b8.mono HB7.out.size))
        have m0 := HM8.out.c0
        have m1 := HM8.out.c1
        have m2 := HM8.out.c2
        have m3 := HM8.out.c3
        have m4 := HM8.out.c4
        have m5 := HM8.out.c5
        have n1 := HX8.out.c1
        have n2 := HX8.out.c2
        have n4 := HX8.out.c4
        have l8 := run_ldM HM8.out
        simp only at m0 m1 m2 m3 m4 m5 n1 n2 n4
        clear b8 l7 k0
        go_wp2_with fail
        refine (ack_any 3 c b 0 e none 0 0 [] w8 (PSrc.empty _) HE.out).mono ?_
        rintro r w9 ⟨rfl, b9⟩
        rw [show ackE ⟨3, c, b, 0, e, none, 0, 0⟩ [] = 7 from by unfold ackE; rw [if_pos HAF.out, if_neg (by simp)]]
        have HB9 := hide (HB8.out.trans (b9.mono HB8.out.size))
        clear b9
        go_wp2_with fail
        go_ret
        exact ⟨rfl, FIN.out _ HB9.out⟩
      · have hk2 : a = 2 := hk.elim (fun h => absurd h hk1) id
        subst hk2
        clear hk
        go_wp2_with fail
        refine HCA.out.mono ?_
        rintro r w8 ⟨rfl, b8⟩
        have HM8 := hide (HM7.out.below b8)
        have HX8 := hide (HX7.out.below b8)
        have HB8 := hide (HB7.out.trans (b8.mono HB7.out.size))
        have m0 := HM8.out.c0
        have m1 := HM8.out.c1
        have m2 := HM8.out.c2
        have m3 := HM8.out.c3
        have m4 := HM8.out.c4
        have m5 := HM8.out.c5
        have n1 := HX8.out.c1
        have n2 := HX8.out.c2
        have n4 := HX8.out.c4
        have l8 := run_ldM HM8.out
        simp only at m0 m1 m2 m3 m4 m5 n1 n2 n4
        clear b8 l7 k0
        go_wp2_with fail
        refine (ack_any 3 c b 0 e none 0 0 [] w8 (PSrc.empty _) HE.out).mono ?_
        rintro r w9 ⟨rfl, b9⟩
        rw [show ackE ⟨3, c, b, 0, e, none, 0, 0⟩ [] = 7 from by unfold ackE; rw [if_pos HAF.out, if_neg (by simp)]]
        have HB9 := hide (HB8.out.trans (b9.mono HB8.out.size))
        clear b9
        go_wp2_with fail
        go_ret
        exact ⟨rfl, FIN.out _ HB9.out⟩
    · have hV : ackV ⟨a, b, c, d, e, po, pn, pc⟩ X = ⟨0, 0, 0, 0, 0, none, 0, 0⟩ := by unfold ackV; rw [if_neg (fun h => hk h.2)]
      have hE : ackE ⟨a, b, c, d, e, po, pn, pc⟩ X = 7 := by unfold ackE; rw [if_pos hc, if_neg hk]
      rw [hV, hE]
      clear hV hE
      have hst5 : (stM (.pointer (some ⟨g3, 0, none⟩)) (.agg (MC ⟨0, 0, 0, 0, 0, none, 0, 0⟩))).run Try.prog w5 = .ok () (w5.setRow g3 (MC ⟨0, 0, 0, 0, 0, none, 0, 0⟩)) := run_stM (HM4.out.below HB5.out)
      have HM6 : Hid (MBox (w5.setRow g3 (MC ⟨0, 0, 0, 0, 0, none, 0, 0⟩)) g3 ⟨0, 0, 0, 0, 0, none, 0, 0⟩) := (HM4.out.below HB5.out).setRow
      have HX6 : Hid (MBox (w5.setRow g3 (MC ⟨0, 0, 0, 0, 0, none, 0, 0⟩)) g ⟨a, b, c, d, e, po, pn, pc⟩) := (setRow_other _ _ _ _ HNE.out).trans (HMX.out.below HB5.out)
      have HB6 : Hid (Below w1.heap.size w1 (w5.setRow g3 (MC ⟨0, 0, 0, 0, 0, none, 0, 0⟩))) := below_setRow (HB4.out.trans (HB5.out.mono HB4.out.size)) HGG.out
      have l6 := run_ldM HX6.out
      clear l4 a0 hst
      go_wp2_with fail
      refine (rcheck_any a b c d e po pn pc X _ (HS.out.below HB6.out)).mono ?_
      rintro r w7 ⟨rfl, b7⟩
      rw [HCK.out]
      have HM7 := hide (HM6.out.below b7)
      have HX7 := hide (HX6.out.below b7)
      have HB7 := hide (HB6.out.trans (b7.mono HB6.out.size))
      clear b7 l6 hst5 HM6 HX6
      have k0 := HX7.out.c0
      have l7 := run_ldM HM7.out
      simp only at k0
      have q1 : ¬ a = 1 := fun h => hk (Or.inl h)
      have q2 : ¬ a = 2 := fun h => hk (Or.inr h)
      have q1b : (a != 1) = true := by simpa using q1
      have q2b : (a != 2) = true := by simpa using q2
      clear hk hc
      go_wp2_with fail
      refine (equal_same 0 0 0 0 0 w7).mono ?_
      rintro r w8 ⟨rfl, b8⟩
      have HB8 := hide (HB7.out.trans (b8.mono HB7.out.size))
      clear b8 l7 k0
      go_wp2_with fail
      go_ret
      exact ⟨rfl, FIN.out _ HB8.out⟩
  · have HCK := hide hc
    have hn : ¬ ckE ⟨a, b, c, d, e, po, pn, pc⟩ X = 0 := by rw [hc]; decide
    have hV : ackV ⟨a, b, c, d, e, po, pn, pc⟩ X = ⟨0, 0, 0, 0, 0, none, 0, 0⟩ := by unfold ackV; rw [if_neg (fun h => hn h.1)]
    have hE : ackE ⟨a, b, c, d, e, po, pn, pc⟩ X = 1 := by unfold ackE; rw [if_neg hn]
    rw [hV, hE]
    clear hV hE hn hc
    have hst5 : (stM (.pointer (some ⟨g3, 0, none⟩)) (.agg (MC ⟨0, 0, 0, 0, 0, none, 0, 0⟩))).run Try.prog w5 = .ok () (w5.setRow g3 (MC ⟨0, 0, 0, 0, 0, none, 0, 0⟩)) := run_stM (HM4.out.below HB5.out)
    have HM6 : Hid (MBox (w5.setRow g3 (MC ⟨0, 0, 0, 0, 0, none, 0, 0⟩)) g3 ⟨0, 0, 0, 0, 0, none, 0, 0⟩) := (HM4.out.below HB5.out).setRow
    have HX6 : Hid (MBox (w5.setRow g3 (MC ⟨0, 0, 0, 0, 0, none, 0, 0⟩)) g ⟨a, b, c, d, e, po, pn, pc⟩) := (setRow_other _ _ _ _ HNE.out).trans (HMX.out.below HB5.out)
    have HB6 : Hid (Below w1.heap.size w1 (w5.setRow g3 (MC ⟨0, 0, 0, 0, 0, none, 0, 0⟩))) := below_setRow (HB4.out.trans (HB5.out.mono HB4.out.size)) HGG.out
    have l6 := run_ldM HX6.out
    clear l4 a0 hst
    go_wp2_with fail
    refine (rcheck_any a b c d e po pn pc X _ (HS.out.below HB6.out)).mono ?_
    rintro r w7 ⟨rfl, b7⟩
    rw [HCK.out]
    have HM7 := hide (HM6.out.below b7)
    have HX7 := hide (HX6.out.below b7)
    have HB7 := hide (HB6.out.trans (b7.mono HB6.out.size))
    clear b7 l6 hst5 HM6 HX6
    have l7 := run_ldM HM7.out
    go_wp2_with fail
    refine (equal_same 0 0 0 0 0 w7).mono ?_
    rintro r w8 ⟨rfl, b8⟩
    have HB8 := hide (HB7.out.trans (b8.mono HB7.out.size))
    clear b8 l7
    go_wp2_with fail
    go_ret
    exact ⟨rfl, FIN.out _ HB8.out⟩
end Go.Proofs.Ytmpklgnoliicbaa
