/- mail's Ack; the law's some; the reference's Equal of mails without parts. -/
import Derived.Test.YtmpklgnoliicbaaMCk
namespace Go.Proofs.Ytmpklgnoliicbaa
open Go.RowKit
attribute [local go_sem ↓] ldP_eq stP_eq ldM_eq stM_eq
attribute [local go_sem] MC_size to_MC MC_s0 MC_s1 MC_s2 MC_s3 MC_s4 MC_s5
variable {w w' : World} {g : Nat}

/-- what Ack answers -/
def ackV (m : Ml) (X : List Pt) : Ml := if ckE m X = 0 ∧ (m.kind = 1 ∨ m.kind = 2) then ⟨3, m.to_, m.fr, 0, m.hi, none, 0, 0⟩ else ⟨0, 0, 0, 0, 0, none, 0, 0⟩
def ackE (m : Ml) (X : List Pt) : Int := if ckE m X = 0 then (if m.kind = 1 ∨ m.kind = 2 then 0 else 7) else 1
theorem ckE_cases (m : Ml) (X : List Pt) : ckE m X = 0 ∨ ckE m X = 1 := by unfold ckE; split <;> simp
set_option maxRecDepth 100000 in
theorem ack_any (a b c d e : Int) (po : Option Addr) (pn pc : Nat) (X : List Pt) (w : World) (S : PSrc w po pn pc X) (he : e ≤ 9223372036854775807) : Calls Try.prog 7 #[MV ⟨a, b, c, d, e, po, pn, pc⟩] w fun r w' =>
    r = .returned (.tuple #[MV (ackV ⟨a, b, c, d, e, po, pn, pc⟩ X), .int .i64 (ackE ⟨a, b, c, d, e, po, pn, pc⟩ X)]) ∧ Below w.heap.size w w' := by
  obtain ⟨w1, hw1⟩ : ∃ w1, (w.alloc (.cells (MC ⟨a, b, c, d, e, po, pn, pc⟩) 24)).alloc (.cells (MC ⟨0, 0, 0, 0, 0, none, 0, 0⟩) 24) = w1 := ⟨_, rfl⟩
  obtain ⟨g0, hg0⟩ : ∃ g0, w.heap.size + 1 = g0 := ⟨_, rfl⟩
  have HB : Hid (Below w.heap.size w w1) := by rw [← hw1]; exact ((Below.refl _ _).alloc (Nat.le_refl _) _).alloc (by simp) _
  have HZ : Hid (w1.heap.size = w.heap.size + 2) := by show _ = _; rw [← hw1]; simp
  have HM : Hid (MBox w1 w.heap.size ⟨a, b, c, d, e, po, pn, pc⟩ ∧ MBox w1 g0 ⟨0, 0, 0, 0, 0, none, 0, 0⟩) := by
    refine ⟨by rw [← hw1]; exact (mbox_new w _).below (below_new _ _), ?_⟩
    have := mbox_new (w.alloc (.cells (MC ⟨a, b, c, d, e, po, pn, pc⟩) 24)) ⟨0, 0, 0, 0, 0, none, 0, 0⟩
    rw [World.size_alloc, hg0] at this
    rw [← hw1]; exact this
  have HG : Hid (w.heap.size ≤ g0) := by show _ ≤ _; omega
  have HC := hide (check_any a b c d e po pn pc X w1 (S.below HB.out) he)
  have HFin : Hid (∀ W q, Below w1.heap.size w1 W → Below w.heap.size w (W.setRow g0 (MC q)) ∧ MBox (W.setRow g0 (MC q)) g0 q) := fun W q hb =>
    ⟨below_setRow (HB.out.trans (hb.mono HB.out.size)) HG.out, (HM.out.2.below hb).setRow⟩
  have hl := run_ldM HM.out.1
  clear S
  rcases ckE_cases ⟨a, b, c, d, e, po, pn, pc⟩ X with hc | hc
  · rw [hc] at HC
    by_cases hk : a = 1 ∨ a = 2
    · have HV : Hid (ackV ⟨a, b, c, d, e, po, pn, pc⟩ X = ⟨3, c, b, 0, e, none, 0, 0⟩ ∧ ackE ⟨a, b, c, d, e, po, pn, pc⟩ X = 0) := by
        unfold ackV ackE
        rw [if_pos ⟨hc, hk⟩, if_pos hc, if_pos hk]
        exact ⟨rfl, rfl⟩
      rw [HV.out.1, HV.out.2]
      clear hc HV
      go_enter Try.func7, Try.ntmps7
      go_wp2_with fail
      refine HC.out.mono ?_
      rintro r w2 ⟨rfl, b2⟩
      have HB2 := hide b2
      have y0 := (HM.out.1.below b2).c0
      have y1 := (HM.out.1.below b2).c1
      have y2 := (HM.out.1.below b2).c2
      have y4 := (HM.out.1.below b2).c4
      simp only at y0 y1 y2 y4
      have hst : (stM (.pointer (some ⟨g0, 0, none⟩)) (.agg (MC ⟨3, c, b, 0, e, none, 0, 0⟩))).run Try.prog w2 = .ok () (w2.setRow g0 (MC ⟨3, c, b, 0, e, none, 0, 0⟩)) := run_stM (HM.out.2.below b2)
      clear b2 hl hw1
      by_cases hk1 : a = 1
      · subst hk1
        clear hk
        go_wp2_with fail
        refine bodyPost_ret (v := .tuple #[MV ⟨3, c, b, 0, e, none, 0, 0⟩, .int .i64 0]) ?_ rfl ⟨rfl, (HFin.out w2 _ HB2.out).1⟩
        exact resM Try.results7 rfl rfl (HFin.out w2 _ HB2.out).2
      · have hk2 : a = 2 := hk.elim (fun h => absurd h hk1) id
        subst hk2
        clear hk hk1
        go_wp2_with fail
        refine bodyPost_ret (v := .tuple #[MV ⟨3, c, b, 0, e, none, 0, 0⟩, .int .i64 0]) ?_ rfl ⟨rfl, (HFin.out w2 _ HB2.out).1⟩
        exact resM Try.results7 rfl rfl (HFin.out w2 _ HB2.out).2
    · have HV : Hid (ackV ⟨a, b, c, d, e, po, pn, pc⟩ X = ⟨0, 0, 0, 0, 0, none, 0, 0⟩ ∧ ackE ⟨a, b, c, d, e, po, pn, pc⟩ X = 7) := by
        unfold ackV ackE
        rw [if_neg (fun h => hk h.2), if_pos hc, if_neg hk]
        exact ⟨rfl, rfl⟩
      rw [HV.out.1, HV.out.2]
      have k1 : ¬ a = 1 := fun h => hk (Or.inl h)
      have k2 : ¬ a = 2 := fun h => hk (Or.inr h)
      have k1b : (a != 1) = true := by simpa using k1
      have k2b : (a != 2) = true := by simpa using k2
      clear hc HV hk
      go_enter Try.func7, Try.ntmps7
      go_wp2_with fail
      refine HC.out.mono ?_
      rintro r w2 ⟨rfl, b2⟩
      have HB2 := hide b2
      have y0 := (HM.out.1.below b2).c0
      simp only at y0
      have hst : (stM (.pointer (some ⟨g0, 0, none⟩)) (.agg (MC ⟨0, 0, 0, 0, 0, none, 0, 0⟩))).run Try.prog w2 = .ok () (w2.setRow g0 (MC ⟨0, 0, 0, 0, 0, none, 0, 0⟩)) := run_stM (HM.out.2.below b2)
      clear b2 hl hw1
      go_wp2_with fail
      refine bodyPost_ret (v := .tuple #[MV ⟨0, 0, 0, 0, 0, none, 0, 0⟩, .int .i64 7]) ?_ rfl ⟨rfl, (HFin.out w2 _ HB2.out).1⟩
      exact resM Try.results7 rfl rfl (HFin.out w2 _ HB2.out).2
  · have hn : ¬ ckE ⟨a, b, c, d, e, po, pn, pc⟩ X = 0 := by rw [hc]; decide
    have HV : Hid (ackV ⟨a, b, c, d, e, po, pn, pc⟩ X = ⟨0, 0, 0, 0, 0, none, 0, 0⟩ ∧ ackE ⟨a, b, c, d, e, po, pn, pc⟩ X = 1) := by
      unfold ackV ackE
      rw [if_neg (fun h => hn h.1), if_neg hn]
      exact ⟨rfl, rfl⟩
    rw [HV.out.1, HV.out.2]
    rw [hc] at HC
    clear hc HV hn
    go_enter Try.func7, Try.ntmps7
    go_wp2_with fail
    refine HC.out.mono ?_
    rintro r w2 ⟨rfl, b2⟩
    have HB2 := hide b2
    have hst : (stM (.pointer (some ⟨g0, 0, none⟩)) (.agg (MC ⟨0, 0, 0, 0, 0, none, 0, 0⟩))).run Try.prog w2 = .ok () (w2.setRow g0 (MC ⟨0, 0, 0, 0, 0, none, 0, 0⟩)) := run_stM (HM.out.2.below b2)
    clear b2 hl hw1
    go_wp2_with fail
    refine bodyPost_ret (v := .tuple #[MV ⟨0, 0, 0, 0, 0, none, 0, 0⟩, .int .i64 1]) ?_ rfl ⟨rfl, (HFin.out w2 _ HB2.out).1⟩
    exact resM Try.results7 rfl rfl (HFin.out w2 _ HB2.out).2
theorem part_lit (w : World) (p : Pt) : PSrc (w.alloc (.cells #[.int .i64 p.cart, .slice p.vo p.vn p.vc] 43)) (some ⟨w.heap.size, 0, none⟩) 1 1 [p] := by
  refine ⟨rfl, fun h => (by cases h), fun ad h t ht => ?_, by omega⟩
  obtain rfl := Option.some.inj h
  obtain rfl : t = 0 := by omega
  rw [Nat.zero_mul, add_zero]
  exact ⟨by rw [World.cell?_alloc_new]; rfl, by rw [Addr.add_lit, Nat.zero_add, World.cell?_alloc_new]; rfl⟩
set_option maxRecDepth 100000 in
theorem some_any (w : World) : Calls Try.prog 6 #[] w fun r w' => ∃ q v, r = .returned (MV ⟨1, 0, 1, 2, 3, some ⟨q, 0, none⟩, 1, 1⟩) ∧ PSrc w' (some ⟨q, 0, none⟩) 1 1 [⟨4, some ⟨v, 0, none⟩, 2, 2⟩] ∧ Below w.heap.size w w' := by
  obtain ⟨w1, hw1⟩ : ∃ w1, w.alloc (.cells (MC ⟨0, 0, 0, 0, 0, none, 0, 0⟩) 24) = w1 := ⟨_, rfl⟩
  obtain ⟨w2, hw2⟩ : ∃ w2, w1.alloc (.cells #[.int .u8 255, .int .u8 0] 5) = w2 := ⟨_, rfl⟩
  obtain ⟨w3, hw3⟩ : ∃ w3, w2.alloc (.cells #[.int .i64 4, .slice (some ⟨w1.heap.size, 0, none⟩) 2 2] 43) = w3 := ⟨_, rfl⟩
  have z1 : w1.heap.size = w.heap.size + 1 := by rw [← hw1]; simp
  have z2 : w2.heap.size = w.heap.size + 2 := by rw [← hw2]; simp [z1]
  have m3 : MBox w3 w.heap.size ⟨0, 0, 0, 0, 0, none, 0, 0⟩ := by
    have h1 : MBox w1 w.heap.size ⟨0, 0, 0, 0, 0, none, 0, 0⟩ := by rw [← hw1]; exact mbox_new w _
    have h2 : MBox w2 w.heap.size ⟨0, 0, 0, 0, 0, none, 0, 0⟩ := by rw [← hw2]; exact h1.below (below_new _ _)
    rw [← hw3]; exact h2.below (below_new _ _)
  have p3 : PSrc w3 (some ⟨w2.heap.size, 0, none⟩) 1 1 [⟨4, some ⟨w1.heap.size, 0, none⟩, 2, 2⟩] := by
    have := part_lit w2 ⟨4, some ⟨w1.heap.size, 0, none⟩, 2, 2⟩
    rw [← hw3]; exact this
  have hst : (stM (.pointer (some ⟨w.heap.size, 0, none⟩)) (.agg (MC ⟨1, 0, 1, 2, 3, some ⟨w2.heap.size, 0, none⟩, 1, 1⟩))).run Try.prog w3 = .ok () (w3.setRow w.heap.size (MC ⟨1, 0, 1, 2, 3, some ⟨w2.heap.size, 0, none⟩, 1, 1⟩)) := run_stM m3
  have HFin : Hid (MBox (w3.setRow w.heap.size (MC ⟨1, 0, 1, 2, 3, some ⟨w2.heap.size, 0, none⟩, 1, 1⟩)) w.heap.size ⟨1, 0, 1, 2, 3, some ⟨w2.heap.size, 0, none⟩, 1, 1⟩ ∧ PSrc (w3.setRow w.heap.size (MC ⟨1, 0, 1, 2, 3, some ⟨w2.heap.size, 0, none⟩, 1, 1⟩)) (some ⟨w2.heap.size, 0, none⟩) 1 1 [⟨4, some ⟨w1.heap.size, 0, none⟩, 2, 2⟩] ∧ Below w.heap.size w (w3.setRow w.heap.size (MC ⟨1, 0, 1, 2, 3, some ⟨w2.heap.size, 0, none⟩, 1, 1⟩))) := by
    have hb : Below w.heap.size w w3 := by
      have b1 : Below w.heap.size w w1 := by rw [← hw1]; exact below_new _ _
      have b2 : Below w.heap.size w w2 := by rw [← hw2]; exact b1.alloc (by omega) _
      rw [← hw3]; exact b2.alloc (by omega) _
    refine ⟨m3.setRow, ⟨rfl, fun h => (by cases h), fun ad h t ht => ?_, by omega⟩, below_setRow hb (Nat.le_refl _)⟩
    have A := p3.cell ad h t ht
    obtain rfl := Option.some.inj h
    have e0 : ∀ k, (w3.setRow w.heap.size (MC ⟨1, 0, 1, 2, 3, some ⟨w2.heap.size, 0, none⟩, 1, 1⟩)).cell? ⟨w2.heap.size, k, none⟩ = w3.cell? ⟨w2.heap.size, k, none⟩ := fun k => World.cell?_of_block (setRow_other _ _ _ _ (by show w2.heap.size ≠ w.heap.size; omega))
    have a0 := A.c0
    have a1 := A.c1
    rw [Addr.add_lit] at a0 a1
    rw [Addr.add_lit] at a1
    rw [Addr.add_lit]
    exact ⟨(e0 _).trans a0, by rw [Addr.add_lit]; exact (e0 _).trans a1⟩
  clear p3 m3 z1 z2
  go_enter Try.func6, Try.ntmps6
  go_wp2_with fail
  refine bodyPost_ret (v := MV ⟨1, 0, 1, 2, 3, some ⟨w2.heap.size, 0, none⟩, 1, 1⟩) ?_ rfl ⟨_, _, rfl, HFin.out.2.1, HFin.out.2.2⟩
  exact resM1 Try.results6 rfl HFin.out.1
set_option maxRecDepth 100000 in
theorem equal_same (a b c d e : Int) (w : World) : Calls Try.prog 12 #[MV ⟨a, b, c, d, e, none, 0, 0⟩, MV ⟨a, b, c, d, e, none, 0, 0⟩] w fun r w' => r = .returned (.bool true) ∧ Below w.heap.size w w' := by
  obtain ⟨w1, hw1⟩ : ∃ w1, (w.alloc (.cells (MC ⟨a, b, c, d, e, none, 0, 0⟩) 24)).alloc (.cells (MC ⟨a, b, c, d, e, none, 0, 0⟩) 24) = w1 := ⟨_, rfl⟩
  obtain ⟨g0, hg0⟩ : ∃ g0, w.heap.size + 1 = g0 := ⟨_, rfl⟩
  have HB : Hid (Below w.heap.size w w1) := by rw [← hw1]; exact ((Below.refl _ _).alloc (Nat.le_refl _) _).alloc (by simp) _
  have HM : Hid (MBox w1 w.heap.size ⟨a, b, c, d, e, none, 0, 0⟩ ∧ MBox w1 g0 ⟨a, b, c, d, e, none, 0, 0⟩) := by
    refine ⟨by rw [← hw1]; exact (mbox_new w _).below (below_new _ _), ?_⟩
    have := mbox_new (w.alloc (.cells (MC ⟨a, b, c, d, e, none, 0, 0⟩) 24)) ⟨a, b, c, d, e, none, 0, 0⟩
    rw [World.size_alloc, hg0] at this
    rw [← hw1]; exact this
  have x0 := HM.out.1.c0
  have x1 := HM.out.1.c1
  have x2 := HM.out.1.c2
  have x3 := HM.out.1.c3
  have x4 := HM.out.1.c4
  have x5 := HM.out.1.c5
  have y0 := HM.out.2.c0
  have y1 := HM.out.2.c1
  have y2 := HM.out.2.c2
  have y3 := HM.out.2.c3
  have y4 := HM.out.2.c4
  have y5 := HM.out.2.c5
  simp only at x0 x1 x2 x3 x4 x5 y0 y1 y2 y3 y4 y5
  go_enter Try.func12, Try.ntmps12
  go_wp2_with fail
  go_loopw [5] (fun i wr => i = .int .i64 0 ∧ wr = w1) (fun _ _ => 0)
  case atStart => exact ⟨rfl, rfl⟩
  case round =>
    obtain ⟨rfl, rfl⟩ := hrel
    go_wp2_with fail
    go_ret
    exact ⟨rfl, HB.out⟩
end Go.Proofs.Ytmpklgnoliicbaa
