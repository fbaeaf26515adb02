/- The reference's Acks. -/
import Derived.Test.YtmpklgnoliicbaaMAk
namespace Go.Proofs.Ytmpklgnoliicbaa
open Go.RowKit
attribute [local go_sem ↓] ldP_eq stP_eq ldM_eq stM_eq
attribute [local go_sem] MC_size to_MC MC_s0 MC_s1 MC_s2 MC_s3 MC_s4 MC_s5
variable {w w' : World} {g : Nat}

set_option maxRecDepth 100000 in
theorem racks_any (a b c d e : Int) (po : Option Addr) (pn pc : Nat) (X : List Pt) (w : World) (S : PSrc w po pn pc X) : Calls Try.prog 9 #[MV ⟨a, b, c, d, e, po, pn, pc⟩] w fun r w' =>
    r = .returned (.tuple #[MV (ackV ⟨a, b, c, d, e, po, pn, pc⟩ X), .int .i64 (ackE ⟨a, b, c, d, e, po, pn, pc⟩ X)]) ∧ Below w.heap.size w w' := by
  obtain ⟨w1, hw1⟩ : ∃ w1, (w.alloc (.cells (MC ⟨a, b, c, d, e, po, pn, pc⟩) 24)).alloc (.cells (MC ⟨0, 0, 0, 0, 0, none, 0, 0⟩) 24) = w1 := ⟨_, rfl⟩
  obtain ⟨g0, hg0⟩ : ∃ g0, w.heap.size + 1 = g0 := ⟨_, rfl⟩
  have HB : Hid (Below w.heap.size w w1) := by rw [← hw1]; exact ((Below.refl _ _).alloc (Nat.le_refl _) _).alloc (by simp) _
  have HZ : Hid (w1.heap.size = w.heap.size + 2) := by show _ = _; rw [← hw1]; simp
  have HM : Hid (MBox w1 w.heap.size ⟨a, b, c, d, e, po, pn, pc⟩ ∧ MBox w1 g0 ⟨0, 0, 0, 0, 0, none, 0, 0⟩) := by
    refine ⟨by rw [← hw1]; exact (mbox_new w _).below (below_new _ _), ?_⟩
    have := mbox_new (w.alloc (.cells (MC ⟨a, b, c, d, e, po, pn, pc⟩) 24)) ⟨0, 0, 0, 0, 0, none, 0, 0⟩
    rw [World.size_alloc, hg0] at this
    rw [← hw1]; exact this
  have HG : Hid (w.heap.size ≤ g0) := by show _ ≤ _; omega
  have HC := hide (rcheck_any a b c d e po pn pc X w1 (S.below HB.out))
  have HFin : Hid (∀ W q, Below w1.heap.size w1 W → Below w.heap.size w (W.setRow g0 (MC q)) ∧ MBox (W.setRow g0 (MC q)) g0 q) := fun W q hb =>
    ⟨below_setRow (HB.out.trans (hb.mono HB.out.size)) HG.out, (HM.out.2.below hb).setRow⟩
  have hl := run_ldM HM.out.1
  clear S
  rcases ckE_cases ⟨a, b, c, d, e, po, pn, pc⟩ X with hc | hc
  · rw [hc] at HC
    by_cases hk : a = 1 ∨ a = 2
    · have HV : Hid (ackV ⟨a, b, c, d, e, po, pn, pc⟩ X = ⟨3, c, b, 0, e, none, 0, 0⟩ ∧ ackE ⟨a, b, c, d, e, po, pn, pc⟩ X = 0) := by
        unfold ackV ackE
        rw [if_pos ⟨hc, hk⟩, if_pos hc, if_pos hk]
        exact ⟨rfl, rfl⟩
      rw [HV.out.1, HV.out.2]
      clear hc HV
      go_enter Try.func9, Try.ntmps9
      go_wp2_with fail
      refine HC.out.mono ?_
      rintro r w2 ⟨rfl, b2⟩
      have HB2 := hide b2
      have y0 := (HM.out.1.below b2).c0
      have y1 := (HM.out.1.below b2).c1
      have y2 := (HM.out.1.below b2).c2
      have y4 := (HM.out.1.below b2).c4
      simp only at y0 y1 y2 y4
      have hst : (stM (.pointer (some ⟨g0, 0, none⟩)) (.agg (MC ⟨3, c, b, 0, e, none, 0, 0⟩))).run Try.prog w2 = .ok () (w2.setRow g0 (MC ⟨3, c, b, 0, e, none, 0, 0⟩)) := run_stM (HM.out.2.below b2)
      clear b2 hl hw1
      by_cases hk1 : a = 1
      · subst hk1
        clear hk
        go_wp2_with fail
        refine bodyPost_ret (v := .tuple #[MV ⟨3, c, b, 0, e, none, 0, 0⟩, .int .i64 0]) ?_ rfl ⟨rfl, (HFin.out w2 _ HB2.out).1⟩
        exact resM Try.results9 rfl rfl (HFin.out w2 _ HB2.out).2
      · have hk2 : a = 2 := hk.elim (fun h => absurd h hk1) id
        subst hk2
        clear hk hk1
        go_wp2_with fail
        refine bodyPost_ret (v := .tuple #[MV ⟨3, c, b, 0, e, none, 0, 0⟩, .int .i64 0]) ?_ rfl ⟨rfl, (HFin.out w2 _ HB2.out).1⟩
        exact resM Try.results9 rfl rfl (HFin.out w2 _ HB2.out).2
    · have HV : Hid (ackV ⟨a, b, c, d, e, po, pn, pc⟩ X = ⟨0, 0, 0, 0, 0, none, 0, 0⟩ ∧ ackE ⟨a, b, c, d, e, po, pn, pc⟩ X = 7) := by
        unfold ackV ackE
        rw [if_neg (fun h => hk h.2), if_pos hc, if_neg hk]
        exact ⟨rfl, rfl⟩
      rw [HV.out.1, HV.out.2]
      have k1 : ¬ a = 1 := fun h => hk (Or.inl h)
      have k2 : ¬ a = 2 := fun h => hk (Or.inr h)
      have k1b : (a != 1) = true := by simpa using k1
      have k2b : (a != 2) = true := by simpa using k2
      clear hc HV hk
      go_enter Try.func9, Try.ntmps9
      go_wp2_with fail
      refine HC.out.mono ?_
      rintro r w2 ⟨rfl, b2⟩
      have HB2 := hide b2
      have y0 := (HM.out.1.below b2).c0
      simp only at y0
      have hst : (stM (.pointer (some ⟨g0, 0, none⟩)) (.agg (MC ⟨0, 0, 0, 0, 0, none, 0, 0⟩))).run Try.prog w2 = .ok () (w2.setRow g0 (MC ⟨0, 0, 0, 0, 0, none, 0, 0⟩)) := run_stM (HM.out.2.below b2)
      clear b2 hl hw1
      go_wp2_with fail
      refine bodyPost_ret (v := .tuple #[MV ⟨0, 0, 0, 0, 0, none, 0, 0⟩, .int .i64 7]) ?_ rfl ⟨rfl, (HFin.out w2 _ HB2.out).1⟩
      exact resM Try.results9 rfl rfl (HFin.out w2 _ HB2.out).2
  · have hn : ¬ ckE ⟨a, b, c, d, e, po, pn, pc⟩ X = 0 := by rw [hc]; decide
    have HV : Hid (ackV ⟨a, b, c, d, e, po, pn, pc⟩ X = ⟨0, 0, 0, 0, 0, none, 0, 0⟩ ∧ ackE ⟨a, b, c, d, e, po, pn, pc⟩ X = 1) := by
      unfold ackV ackE
      rw [if_neg (fun h => hn h.1), if_neg hn]
      exact ⟨rfl, rfl⟩
    rw [HV.out.1, HV.out.2]
    rw [hc] at HC
    clear hc HV hn
    go_enter Try.func9, Try.ntmps9
    go_wp2_with fail
    refine HC.out.mono ?_
    rintro r w2 ⟨rfl, b2⟩
    have HB2 := hide b2
    have hst : (stM (.pointer (some ⟨g0, 0, none⟩)) (.agg (MC ⟨0, 0, 0, 0, 0, none, 0, 0⟩))).run Try.prog w2 = .ok () (w2.setRow g0 (MC ⟨0, 0, 0, 0, 0, none, 0, 0⟩)) := run_stM (HM.out.2.below b2)
    clear b2 hl hw1
    go_wp2_with fail
    refine bodyPost_ret (v := .tuple #[MV ⟨0, 0, 0, 0, 0, none, 0, 0⟩, .int .i64 1]) ?_ rfl ⟨rfl, (HFin.out w2 _ HB2.out).1⟩
    exact resM Try.results9 rfl rfl (HFin.out w2 _ HB2.out).2
end Go.Proofs.Ytmpklgnoliicbaa
