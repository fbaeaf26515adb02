/- mail's Check; the reference's Check. -/
import Derived.Test.YtpnlfljndkfplaaNFn
namespace Go.Proofs.Ytpnlfljndkfplaa
open Go.RowKit
attribute [local go_sem ↓] ldP_eq stP_eq ldM_eq stM_eq
attribute [local go_sem] to_MC MC_s0 MC_s1 MC_s2 MC_s3 MC_s4 MC_s5
variable {w w' : World} {g : Nat}

theorem ckE_of {m : Ml} {X : List Pt} {v : Bool} (h : inForm m X = v) : ckE m X = if v = true then 0 else 1 := by unfold ckE; rw [h]
set_option maxRecDepth 100000 in
theorem check_any (a b c d e : Int) (po : Option Addr) (pn pc : Nat) (X : List Pt) (w : World) (S : PSrc w po pn pc X) (he : e ≤ 9223372036854775807) : Calls Try.prog 18 #[MV ⟨a, b, c, d, e, po, pn, pc⟩] w fun r w' => r = .returned (.int .i64 (ckE ⟨a, b, c, d, e, po, pn, pc⟩ X)) ∧ Below w.heap.size w w' := by
  obtain ⟨w1, hw1⟩ : ∃ w1, w.alloc (.cells (MC ⟨a, b, c, d, e, po, pn, pc⟩) 24) = w1 := ⟨_, rfl⟩
  obtain ⟨g, hg⟩ : ∃ g, w.heap.size = g := ⟨_, rfl⟩
  have HX := hide (bx_new w ⟨a, b, c, d, e, po, pn, pc⟩ hw1 hg)
  have HB : Hid (Below g w w1) := by rw [← hg]; exact HX.out.bel
  have x1 := HX.out.box.c1
  have x2 := HX.out.box.c2
  have hl := run_ldM HX.out.box
  simp only at x1 x2
  have HS := hide (S.below HX.out.bel)
  have HK := hide (isOfKind_any a b c d e po pn pc S.big he w1)
  clear S
  obtain ⟨u1, h1⟩ : ∃ u, isR b = u := ⟨_, rfl⟩
  obtain ⟨u2, h2⟩ : ∃ u, isR c = u := ⟨_, rfl⟩
  have H1 := hide h1
  have H2 := hide h2
  cases u1 with
  | false =>
    have HV : Hid (ckE ⟨a, b, c, d, e, po, pn, pc⟩ X = 1) := ckE_of (v := false) (by unfold inForm; rw [h1]; rfl)
    clear h1 h2 HK
    go_enter Try.func18, Try.ntmps18
    go_wp2_with (go_at_call 33; refine (isRep_any _ _).mono ?_; rintro e' w' ⟨rfl, rfl⟩; first | rw [H1.out] | rw [H2.out])
    go_ret
    exact ⟨ret_int HV.out.symm, by first | exact HB.out | (rw [hg]; exact HB.out)⟩
  | true =>
    cases u2 with
    | false =>
      have HV : Hid (ckE ⟨a, b, c, d, e, po, pn, pc⟩ X = 1) := ckE_of (v := false) (by unfold inForm; rw [h1, h2]; rfl)
      clear h1 h2 HK
      go_enter Try.func18, Try.ntmps18
      go_wp2_with (go_at_call 33; refine (isRep_any _ _).mono ?_; rintro e' w' ⟨rfl, rfl⟩; first | rw [H1.out] | rw [H2.out])
      go_ret
      exact ⟨ret_int HV.out.symm, by first | exact HB.out | (rw [hg]; exact HB.out)⟩
    | true =>
      by_cases h3 : b = c
      · have HV : Hid (ckE ⟨a, b, c, d, e, po, pn, pc⟩ X = 1) := ckE_of (v := false) (by unfold inForm; rw [h1, h2, decide_eq_true h3]; rfl)
        clear h1 h2 HK
        subst h3
        go_enter Try.func18, Try.ntmps18
        go_wp2_with (go_at_call 33; refine (isRep_any _ _).mono ?_; rintro e' w' ⟨rfl, rfl⟩; first | rw [H1.out] | rw [H2.out])
        go_ret
        exact ⟨ret_int HV.out.symm, by first | exact HB.out | (rw [hg]; exact HB.out)⟩
      · obtain ⟨u4, h4⟩ : ∃ u, ofKind ⟨a, b, c, d, e, po, pn, pc⟩ = u := ⟨_, rfl⟩
        obtain ⟨u5, h5⟩ : ∃ u, rise (-1) X = u := ⟨_, rfl⟩
        rw [h4] at HK
        have HF : Hid (ckE ⟨a, b, c, d, e, po, pn, pc⟩ X = if (u4 && u5) = true then 0 else 1) := ckE_of (by unfold inForm; rw [h1, h2, decide_eq_false h3, h4, h5]; rfl)
        have H5 := hide h5
        have h3b : (b == c) = false := by simpa using h3
        clear h1 h2 h4 h5
        cases u4 with
        | false =>
          go_enter Try.func18, Try.ntmps18
          go_wp2_with (go_at_call 33; refine (isRep_any _ _).mono ?_; rintro e' w' ⟨rfl, rfl⟩; first | rw [H1.out] | rw [H2.out])
          refine HK.out.mono ?_
          rintro e' w2 ⟨rfl, b2⟩
          have HB2 := hide (HB.out.trans (b2.mono (by have := HB.out.size; omega)))
          clear b2 hl x1 x2
          go_wp2_with fail
          go_ret
          exact ⟨ret_int HF.out.symm, by first | exact HB2.out | (rw [hg]; exact HB2.out)⟩
        | true =>
          go_enter Try.func18, Try.ntmps18
          go_wp2_with (go_at_call 33; refine (isRep_any _ _).mono ?_; rintro e' w' ⟨rfl, rfl⟩; first | rw [H1.out] | rw [H2.out])
          refine HK.out.mono ?_
          rintro e' w2 ⟨rfl, b2⟩
          have HB2 := hide (HB.out.trans (b2.mono (by have := HB.out.size; omega)))
          have HS2 := hide (HS.out.below b2)
          have x5 := (HX.out.box.below b2).c5
          simp only at x5
          clear b2 hl x1 x2
          go_wp2_with fail
          refine (cartsRise_any po pn pc X w2 HS2.out).mono ?_
          rintro e' w3 ⟨rfl, b3⟩
          rw [H5.out]
          have HB3 := hide (HB2.out.trans (b3.mono (by have := HB2.out.size; omega)))
          clear b3 x5
          cases u5 with
          | false =>
            go_wp2_with fail
            go_ret
            exact ⟨ret_int HF.out.symm, by first | exact HB3.out | (rw [hg]; exact HB3.out)⟩
          | true =>
            go_wp2_with fail
            go_ret
            exact ⟨ret_int HF.out.symm, by first | exact HB3.out | (rw [hg]; exact HB3.out)⟩
/-- the cart ahead of place k -/
def prv (X : List Pt) (k : Nat) : Int := if k = 0 then -1 else (X.getD (k - 1) pt0).cart
theorem isR_iff (r : Int) : isR r = true ↔ 0 ≤ r ∧ r < 16 := by unfold isR; simp
theorem inForm_bad1 {m : Ml} {X : List Pt} (h : m.fr < 0 ∨ 16 ≤ m.fr ∨ m.to_ < 0 ∨ 16 ≤ m.to_ ∨ m.fr = m.to_) : ckE m X = 1 := by
  refine ckE_of (v := false) ?_
  unfold inForm
  by_cases h1 : isR m.fr = true
  · by_cases h2 : isR m.to_ = true
    · have e1 := (isR_iff _).1 h1
      have e2 := (isR_iff _).1 h2
      rw [decide_eq_true (show m.fr = m.to_ by omega)]
      simp
    · simp [h2]
  · simp [h1]
theorem inForm_bad2 {m : Ml} {X : List Pt} (h : m.lo < 0 ∨ m.hi < m.lo ∨ 4611686018427387904 < m.hi) : ckE m X = 1 := by
  refine ckE_of (v := false) ?_
  unfold inForm ofKind
  rw [if_pos h]
  simp
theorem inForm_bad3 {m : Ml} {X : List Pt} (h : kindB m = false) : ckE m X = 1 := by
  refine ckE_of (v := false) ?_
  unfold inForm ofKind
  split
  · simp
  · simp [h]
theorem inForm_good {m : Ml} {X : List Pt} (h1 : ¬ (m.fr < 0 ∨ 16 ≤ m.fr ∨ m.to_ < 0 ∨ 16 ≤ m.to_ ∨ m.fr = m.to_)) (h2 : ¬ (m.lo < 0 ∨ m.hi < m.lo ∨ 4611686018427387904 < m.hi)) (h3 : kindB m = true) : ckE m X = if rise (-1) X = true then 0 else 1 := by
  refine ckE_of ?_
  unfold inForm ofKind
  rw [if_neg h2, h3, (isR_iff _).2 (by omega), (isR_iff _).2 (by omega), decide_eq_false (by omega)]
  simp
set_option maxRecDepth 100000 in
set_option maxHeartbeats 2000000 in
theorem rcheck_any (a b c d e : Int) (po : Option Addr) (pn pc : Nat) (X : List Pt) (w : World) (S : PSrc w po pn pc X) : Calls Try.prog 17 #[MV ⟨a, b, c, d, e, po, pn, pc⟩] w fun r w' => r = .returned (.int .i64 (ckE ⟨a, b, c, d, e, po, pn, pc⟩ X)) ∧ Below w.heap.size w w' := by
  obtain ⟨w1, hw1⟩ : ∃ w1, w.alloc (.cells (MC ⟨a, b, c, d, e, po, pn, pc⟩) 24) = w1 := ⟨_, rfl⟩
  obtain ⟨g, hg⟩ : ∃ g, w.heap.size = g := ⟨_, rfl⟩
  have HX := hide (bx_new w ⟨a, b, c, d, e, po, pn, pc⟩ hw1 hg)
  have HB : Hid (Below g w w1) := by rw [← hg]; exact HX.out.bel
  have x0 := HX.out.box.c0
  have x1 := HX.out.box.c1
  have x2 := HX.out.box.c2
  have x3 := HX.out.box.c3
  have x4 := HX.out.box.c4
  have x5 := HX.out.box.c5
  simp only at x0 x1 x2 x3 x4 x5
  have HS := hide (S.below HX.out.bel)
  have HN : Hid (pn ≤ 4398046511104 ∧ X.length = pn) := ⟨S.big, S.len⟩
  clear S

  by_cases h1 : b < 0
  · have HV : Hid (ckE ⟨a, b, c, d, e, po, pn, pc⟩ X = 1) := inForm_bad1 (Or.inl h1)
    go_enter Try.func17, Try.ntmps17
    go_wp2_with fail
    go_ret
    exact ⟨ret_int HV.out.symm, by first | exact HB.out | (rw [hg]; exact HB.out)⟩
  by_cases h2 : 16 ≤ b
  · have HV : Hid (ckE ⟨a, b, c, d, e, po, pn, pc⟩ X = 1) := inForm_bad1 (Or.inr (Or.inl h2))
    go_enter Try.func17, Try.ntmps17
    go_wp2_with fail
    go_ret
    exact ⟨ret_int HV.out.symm, by first | exact HB.out | (rw [hg]; exact HB.out)⟩
  by_cases h3 : c < 0
  · have HV : Hid (ckE ⟨a, b, c, d, e, po, pn, pc⟩ X = 1) := inForm_bad1 (Or.inr (Or.inr (Or.inl h3)))
    go_enter Try.func17, Try.ntmps17
    go_wp2_with fail
    go_ret
    exact ⟨ret_int HV.out.symm, by first | exact HB.out | (rw [hg]; exact HB.out)⟩
  by_cases h4 : 16 ≤ c
  · have HV : Hid (ckE ⟨a, b, c, d, e, po, pn, pc⟩ X = 1) := inForm_bad1 (Or.inr (Or.inr (Or.inr (Or.inl h4))))
    go_enter Try.func17, Try.ntmps17
    go_wp2_with fail
    go_ret
    exact ⟨ret_int HV.out.symm, by first | exact HB.out | (rw [hg]; exact HB.out)⟩
  by_cases h5 : b = c
  · have HV : Hid (ckE ⟨a, b, c, d, e, po, pn, pc⟩ X = 1) := inForm_bad1 (Or.inr (Or.inr (Or.inr (Or.inr h5))))
    subst h5
    go_enter Try.func17, Try.ntmps17
    go_wp2_with fail
    go_ret
    exact ⟨ret_int HV.out.symm, by first | exact HB.out | (rw [hg]; exact HB.out)⟩
  by_cases h6 : d < 0
  · have HV : Hid (ckE ⟨a, b, c, d, e, po, pn, pc⟩ X = 1) := inForm_bad2 (Or.inl h6)
    go_enter Try.func17, Try.ntmps17
    go_wp2_with fail
    go_ret
    exact ⟨ret_int HV.out.symm, by first | exact HB.out | (rw [hg]; exact HB.out)⟩
  by_cases h7 : e < d
  · have HV : Hid (ckE ⟨a, b, c, d, e, po, pn, pc⟩ X = 1) := inForm_bad2 (Or.inr (Or.inl h7))
    go_enter Try.func17, Try.ntmps17
    go_wp2_with fail
    go_ret
    exact ⟨ret_int HV.out.symm, by first | exact HB.out | (rw [hg]; exact HB.out)⟩
  by_cases h8 : 4611686018427387904 < e
  · have HV : Hid (ckE ⟨a, b, c, d, e, po, pn, pc⟩ X = 1) := inForm_bad2 (Or.inr (Or.inr h8))
    go_enter Try.func17, Try.ntmps17
    go_wp2_with fail
    go_ret
    exact ⟨ret_int HV.out.symm, by first | exact HB.out | (rw [hg]; exact HB.out)⟩
  have HG : Hid (kindB ⟨a, b, c, d, e, po, pn, pc⟩ = true → ckE ⟨a, b, c, d, e, po, pn, pc⟩ X = if rise (-1) X = true then 0 else 1) := fun h => inForm_good (by show ¬ (b < 0 ∨ 16 ≤ b ∨ c < 0 ∨ 16 ≤ c ∨ b = c); omega) (by show ¬ (d < 0 ∨ e < d ∨ 4611686018427387904 < e); omega) h
  have HM : Hid (0 ≤ d ∧ d ≤ e ∧ e ≤ 4611686018427387904) := ⟨by omega, by omega, by omega⟩
  have h5b : (b == c) = false := by simpa using h5
  go_enter Try.func17, Try.ntmps17
  go_upto_region 6 with fail
  go_cut [46] from 5 to 121 (fun s wx => s = .int .i64 a ∧ wx = w1)
  case first =>
    go_wp2_with fail
    go_meet
    exact ⟨rfl, rfl⟩
  case rest =>
  obtain ⟨rfl, rfl⟩ := hcut
  rename_i K1 hK1
  refine hK1 _ _ ?_
  go_cut [3] from 5 to 121 (fun s wx => s = .bool (kindB ⟨a, b, c, d, e, po, pn, pc⟩) ∧ wx = wc)
  case first =>
    clear hw1
    by_cases k1 : a = 1
    · subst k1
      have HV : Hid (kindB ⟨1, b, c, d, e, po, pn, pc⟩ = true) := by show _ = _; unfold kindB; rw [if_pos rfl]
      go_wp2_with fail
      go_meet
      exact ⟨by rw [HV.out]; first | done | rfl | simp, rfl⟩
    by_cases k2 : a = 2
    · subst k2
      have HV : Hid (kindB ⟨2, b, c, d, e, po, pn, pc⟩ = decide (d = 0)) := by show _ = _; unfold kindB; rw [if_neg (by simp), if_pos rfl]
      go_wp2_with fail
      go_meet
      exact ⟨by rw [HV.out]; first | done | rfl | simp, rfl⟩
    by_cases k3 : a = 3
    · subst k3
      by_cases q : d = 0
      · subst q
        have HV : Hid (kindB ⟨3, b, c, 0, e, po, pn, pc⟩ = decide ((0 : Int) = 0 ∧ pn = 0)) := by show _ = _; unfold kindB; rw [if_neg (by simp), if_neg (by simp), if_pos rfl]
        go_wp2_with fail
        go_meet
        exact ⟨by rw [HV.out]; (by_cases q2 : pn = 0 <;> simp [q2]), rfl⟩
      · have qd : decide (d = 0) = false := decide_eq_false q
        have HV : Hid (kindB ⟨3, b, c, d, e, po, pn, pc⟩ = decide (d = 0 ∧ pn = 0)) := by show _ = _; unfold kindB; rw [if_neg (by simp), if_neg (by simp), if_pos rfl]
        go_wp2_with fail
        go_meet
        exact ⟨by rw [HV.out]; (rw [decide_eq_false (fun h => q h.1)]), rfl⟩
    by_cases k4 : a = 4
    · subst k4
      have HV : Hid (kindB ⟨4, b, c, d, e, po, pn, pc⟩ = decide (e = 0)) := by show _ = _; unfold kindB; rw [if_neg (by simp), if_neg (by simp), if_neg (by simp), if_pos (Or.inl rfl)]
      go_wp2_with fail
      go_meet
      exact ⟨by rw [HV.out]; first | done | rfl | simp, rfl⟩
    by_cases k5 : a = 5
    · subst k5
      have HV : Hid (kindB ⟨5, b, c, d, e, po, pn, pc⟩ = decide (e = 0)) := by show _ = _; unfold kindB; rw [if_neg (by simp), if_neg (by simp), if_neg (by simp), if_pos (Or.inr rfl)]
      go_wp2_with fail
      go_meet
      exact ⟨by rw [HV.out]; first | done | rfl | simp, rfl⟩
    by_cases k6 : a = 6
    · subst k6
      have hw : wrap64 (e - d) = e - d := by have := HM.out; exact w64 (by omega) (by omega)
      have HV : Hid (kindB ⟨6, b, c, d, e, po, pn, pc⟩ = decide (e = d + 1)) := by show _ = _; unfold kindB; rw [if_neg (by simp), if_neg (by simp), if_neg (by simp), if_neg (by simp), if_pos rfl]
      go_wp2_with fail
      go_meet
      exact ⟨by rw [HV.out]; (congr 1; rw [Bool.eq_iff_iff]; simp; omega), rfl⟩
    have HV : Hid (kindB ⟨a, b, c, d, e, po, pn, pc⟩ = false) := by show _ = _; unfold kindB; rw [if_neg k1, if_neg k2, if_neg k3, if_neg (fun h => h.elim k4 k5), if_neg k6]
    go_wp2_with fail
    go_meet
    exact ⟨by rw [HV.out], rfl⟩
  case rest =>
    obtain ⟨rfl, rfl⟩ := hcut
    clear hw1 x0 x1 x2 x3 x4
    obtain ⟨kb, hkb⟩ : ∃ kb, kindB ⟨a, b, c, d, e, po, pn, pc⟩ = kb := ⟨_, rfl⟩
    rw [hkb] at HG ⊢
    cases kb with
    | false =>
      have HV : Hid (ckE ⟨a, b, c, d, e, po, pn, pc⟩ X = 1) := inForm_bad3 hkb
      clear hkb
      go_wp2_with fail
      go_ret
      exact ⟨ret_int HV.out.symm, by first | exact HB.out | (rw [hg]; exact HB.out)⟩
    | true =>
      have HV := hide (HG.out rfl)
      clear hkb HG
      go_wp2_with fail
      go_loopw [4] (fun i wr => ∃ k : Nat, k ≤ pn ∧ i = .int .i64 k ∧ Hid (rise (-1) X = rise (prv X k) (X.drop k) ∧ -1 ≤ prv X k) ∧ Hid (Below wc.heap.size wc wr)) (fun i _ => pn - (intOf i).toNat)
      case atStart => exact ⟨0, Nat.zero_le _, rfl, ⟨rfl, Int.le_refl _⟩, Below.refl _ _⟩
      case round =>
        obtain ⟨k, hk, rfl, HE, HBk⟩ := hrel
        have y5 := (HX.out.box.below HBk.out).c5
        simp only at y5
        by_cases hlt : k < pn
        · have HK1 : Hid (wrap64 ((k : Int) + 1) = ((k + 1 : Nat) : Int)) := by show _ = _; have := HN.out; rw [w64 (by omega) (by omega)]; rfl
          have HLT := hide hlt
          obtain ⟨bb, oo, rfl, A0⟩ := (HS.out.below HBk.out).at k hlt
          have HR := hide (HE.out.1.trans (rise_step X (prv X k) k (by have := HN.out; omega)))
          have r0 := A0.c0
          obtain ⟨y, hy⟩ : ∃ y, (X.getD k pt0).cart = y := ⟨_, rfl⟩
          have HPV : Hid (prv X (k + 1) = y) := by show _ = _; unfold prv; rw [if_neg (by omega), show k + 1 - 1 = k by omega, hy]
          rw [hy] at r0 HR
          have HY := hide hy
          clear A0 hy
          by_cases q1 : y < 0
          · have HZ : Hid (ckE ⟨a, b, c, d, e, some ⟨bb, oo, none⟩, pn, pc⟩ X = 1) := by
              show _ = _
              rw [HV.out, HR.out, decide_eq_false (by have := HE.out.2; omega), Bool.false_and]; rfl
            have HB2 := hide (HB.out.trans (HBk.out.mono (by have := HB.out.size; omega)))
            clear HR HV
            go_wp2_with fail
            go_ret
            exact ⟨ret_int HZ.out.symm, by first | exact HB2.out | (rw [hg]; exact HB2.out)⟩
          · by_cases q2 : 64 ≤ y
            · have HZ : Hid (ckE ⟨a, b, c, d, e, some ⟨bb, oo, none⟩, pn, pc⟩ X = 1) := by
                show _ = _
                rw [HV.out, HR.out, decide_eq_false (by omega), Bool.false_and]; rfl
              have HB2 := hide (HB.out.trans (HBk.out.mono (by have := HB.out.size; omega)))
              clear HR HV
              go_wp2_with fail
              go_ret
              exact ⟨ret_int HZ.out.symm, by first | exact HB2.out | (rw [hg]; exact HB2.out)⟩
            · by_cases hk0 : k = 0
              · subst hk0
                have HP0 : Hid (prv X 0 = -1) := rfl
                have HEn : Hid (rise (-1) X = rise (prv X (0 + 1)) (X.drop (0 + 1)) ∧ -1 ≤ prv X (0 + 1)) := by
                  refine ⟨?_, by rw [HPV.out]; omega⟩
                  rw [HPV.out, HR.out, decide_eq_true (by rw [HP0.out]; omega), Bool.true_and]
                clear HR HV
                rw [Nat.zero_mul, Nat.add_zero] at r0
                have hd0 : decide ((0 : Int) < ((0 : Nat) : Int)) = false := rfl
                go_wp2_with fail
                go_quiet (fail)
                have HBn := hide (HBk.out.trans ((below_drewN wr nq).mono HBk.out.size))
                go_wp2_with fail
                go_roundw
                case rel => exact ⟨0 + 1, HLT.out, by first | go_num | rw [HK1.out], HEn, HBn⟩
                case measure => have := HLT.out; first | (rw [HK1.out]; simp [intOf]; omega) | (simp [intOf]; omega)
              · obtain ⟨j, hj⟩ : ∃ j, k = j + 1 := ⟨k - 1, by omega⟩
                have hwj : wrap64 ((k : Int) - 1) = (j : Int) := by have := HN.out; rw [w64 (by omega) (by omega)]; omega
                have HWJ : Hid (IntKind.i64.wrap ((k : Int) - 1) = (j : Int)) := by show _ = _; rw [IntKind.wrap_i64]; have := HN.out; omega
                have hjn : (j : Int) < (pn : Int) := by omega
                have HK0 : Hid ((0 : Int) < (k : Int)) := by show _ < _; omega
                have HKN : Hid (0 < k) := by show _ < _; omega
                obtain ⟨bb2, oo2, hbb, A1⟩ := (HS.out.below HBk.out).at j (by omega)
                obtain ⟨rfl, rfl⟩ : bb = bb2 ∧ oo = oo2 := by injection hbb with h; injection h with h1 h2; exact ⟨h1, h2⟩
                have r1 := A1.c0
                obtain ⟨z, hz⟩ : ∃ z, (X.getD j pt0).cart = z := ⟨_, rfl⟩
                rw [hz] at r1
                have HP : Hid (prv X k = z) := by show _ = _; unfold prv; rw [if_neg hk0, show k - 1 = j by omega, hz]
                clear A1 hz hbb hj
                by_cases q3 : y ≤ z
                · have HZ : Hid (ckE ⟨a, b, c, d, e, some ⟨bb, oo, none⟩, pn, pc⟩ X = 1) := by
                    show _ = _
                    rw [HV.out, HR.out, decide_eq_false (by rw [HP.out]; omega), Bool.false_and]; rfl
                  have HB2 := hide (HB.out.trans (HBk.out.mono (by have := HB.out.size; omega)))
                  clear HR HV
                  go_wp2_with fail
                  have hk2 : (0 : Int) < (k : Int) := HK0.out
                  have hkd : decide ((0 : Int) < (k : Int)) = true := decide_eq_true hk2
                  refine wp_region_held_drew (S := fun W => W.cell? ⟨g, 5, none⟩ = some (.slice (some ⟨bb, oo, none⟩) pn pc) ∧ W.cell? ⟨bb, oo + k * 2, none⟩ = some (.int .i64 y) ∧ W.cell? ⟨bb, oo + j * 2, none⟩ = some (.int .i64 z)) (by kernel_rfl) (⟨y5, r0, r1⟩) (fun hHeld => ?_)
                  refine wpAnyH_take (i := 0) (oi := { dst := some 104, op := Op.move (Operand.tmp 4), type := 3, pos := "ref.go:56", after := #[], guard := none }) (v := ?_) rfl (by kernel_rfl) (by kernel_rfl) (by kernel_rfl) (fun _ _ _ h => h) (Or.inl ⟨by rfl, ?_⟩) (by assumption) ?_
                  rotate_left
                  · (intro w hSw; (try dsimp only at hSw); go_simp); first | done | with_reducible rfl
                  simp only [Act.put, List.setIfInBounds_toArray, List.set_cons_zero, List.set_cons_succ]
                  refine wpAnyH_take (i := 1) (oi := { dst := some 105, op := Op.binOp BinOp.gtr 3 (Operand.tmp 104) (Operand.const (Value.int IntKind.i64 0)) 3, type := 4, pos := "ref.go:56", after := #[{ on := 0, ground := Ground.data }], guard := none }) (v := .bool true) rfl (by kernel_rfl) (by kernel_rfl) (by kernel_rfl) (fun _ _ _ h => h) (Or.inl ⟨by rfl, ?_⟩) (by assumption) ?_
                  skip
                  · (intro w hSw; (try dsimp only at hSw); go_simp; (try simp [HKN.out])); first | done | with_reducible rfl
                  simp only [Act.put, List.setIfInBounds_toArray, List.set_cons_zero, List.set_cons_succ]
                  refine wpAnyH_take (i := 2) (oi := { dst := some 106, op := Op.move (Operand.tmp 105), type := 4, pos := "ref.go:56", after := #[{ on := 1, ground := Ground.data }], guard := none }) (v := ?_) rfl (by kernel_rfl) (by kernel_rfl) (by kernel_rfl) (fun _ _ _ h => h) (Or.inl ⟨by rfl, ?_⟩) (by assumption) ?_
                  rotate_left
                  · (intro w hSw; (try dsimp only at hSw); go_simp); first | done | with_reducible rfl
                  simp only [Act.put, List.setIfInBounds_toArray, List.set_cons_zero, List.set_cons_succ]
                  refine wpAnyH_take (i := 3) (oi := { dst := some 107, op := Op.fieldAddr 24 (Operand.tmp 1) 5, type := 0, pos := "ref.go:56", after := #[{ on := 2, ground := Ground.guard }], guard := some (2, true) }) (v := ?_) rfl (by kernel_rfl) (by kernel_rfl) (by kernel_rfl) (fun _ _ _ h => h) (Or.inl ⟨by rfl, ?_⟩) (by assumption) ?_
                  rotate_left
                  · (intro w hSw; (try dsimp only at hSw); go_simp); first | done | with_reducible rfl
                  simp only [Act.put, List.setIfInBounds_toArray, List.set_cons_zero, List.set_cons_succ]
                  refine wpAnyH_take (i := 4) (oi := { dst := some 108, op := Op.load 22 (Operand.tmp 107), type := 22, pos := "ref.go:56", after := #[{ on := 3, ground := Ground.data }, { on := 2, ground := Ground.guard }], guard := some (2, true) }) (v := ?_) rfl (by kernel_rfl) (by kernel_rfl) (by kernel_rfl) (fun _ _ _ h => h) (Or.inl ⟨by rfl, ?_⟩) (by assumption) ?_
                  rotate_left
                  · (intro w hSw; (try dsimp only at hSw); go_simp); first | done | with_reducible rfl
                  simp only [Act.put, List.setIfInBounds_toArray, List.set_cons_zero, List.set_cons_succ]
                  refine wpAnyH_take (i := 5) (oi := { dst := some 109, op := Op.move (Operand.tmp 4), type := 3, pos := "ref.go:56", after := #[{ on := 2, ground := Ground.guard }], guard := some (2, true) }) (v := ?_) rfl (by kernel_rfl) (by kernel_rfl) (by kernel_rfl) (fun _ _ _ h => h) (Or.inl ⟨by rfl, ?_⟩) (by assumption) ?_
                  rotate_left
                  · (intro w hSw; (try dsimp only at hSw); go_simp); first | done | with_reducible rfl
                  simp only [Act.put, List.setIfInBounds_toArray, List.set_cons_zero, List.set_cons_succ]
                  refine wpAnyH_take (i := 6) (oi := { dst := some 110, op := Op.indexAddr 22 (Operand.tmp 108) (Operand.tmp 109), type := 0, pos := "ref.go:56", after := #[{ on := 4, ground := Ground.data }, { on := 5, ground := Ground.data }, { on := 2, ground := Ground.guard }], guard := some (2, true) }) (v := ?_) rfl (by kernel_rfl) (by kernel_rfl) (by kernel_rfl) (fun _ _ _ h => h) (Or.inl ⟨by rfl, ?_⟩) (by assumption) ?_
                  rotate_left
                  · (intro w hSw; (try dsimp only at hSw); go_simp); first | done | with_reducible rfl
                  simp only [Act.put, List.setIfInBounds_toArray, List.set_cons_zero, List.set_cons_succ]
                  refine wpAnyH_take (i := 7) (oi := { dst := some 111, op := Op.fieldAddr 46 (Operand.tmp 110) 0, type := 0, pos := "ref.go:56", after := #[{ on := 6, ground := Ground.data }, { on := 2, ground := Ground.guard }], guard := some (2, true) }) (v := ?_) rfl (by kernel_rfl) (by kernel_rfl) (by kernel_rfl) (fun _ _ _ h => h) (Or.inl ⟨by rfl, ?_⟩) (by assumption) ?_
                  rotate_left
                  · (intro w hSw; (try dsimp only at hSw); go_simp); first | done | with_reducible rfl
                  simp only [Act.put, List.setIfInBounds_toArray, List.set_cons_zero, List.set_cons_succ]
                  refine wpAnyH_take (i := 8) (oi := { dst := some 112, op := Op.load 3 (Operand.tmp 111), type := 3, pos := "ref.go:56", after := #[{ on := 7, ground := Ground.data }, { on := 2, ground := Ground.guard }], guard := some (2, true) }) (v := ?_) rfl (by kernel_rfl) (by kernel_rfl) (by kernel_rfl) (fun _ _ _ h => h) (Or.inl ⟨by rfl, ?_⟩) (by assumption) ?_
                  rotate_left
                  · (intro w hSw; (try dsimp only at hSw); go_simp); first | done | with_reducible rfl
                  simp only [Act.put, List.setIfInBounds_toArray, List.set_cons_zero, List.set_cons_succ]
                  refine wpAnyH_take (i := 9) (oi := { dst := some 113, op := Op.fieldAddr 24 (Operand.tmp 1) 5, type := 0, pos := "ref.go:56", after := #[{ on := 2, ground := Ground.guard }], guard := some (2, true) }) (v := ?_) rfl (by kernel_rfl) (by kernel_rfl) (by kernel_rfl) (fun _ _ _ h => h) (Or.inl ⟨by rfl, ?_⟩) (by assumption) ?_
                  rotate_left
                  · (intro w hSw; (try dsimp only at hSw); go_simp); first | done | with_reducible rfl
                  simp only [Act.put, List.setIfInBounds_toArray, List.set_cons_zero, List.set_cons_succ]
                  refine wpAnyH_take (i := 10) (oi := { dst := some 114, op := Op.load 22 (Operand.tmp 113), type := 22, pos := "ref.go:56", after := #[{ on := 9, ground := Ground.data }, { on := 2, ground := Ground.guard }], guard := some (2, true) }) (v := ?_) rfl (by kernel_rfl) (by kernel_rfl) (by kernel_rfl) (fun _ _ _ h => h) (Or.inl ⟨by rfl, ?_⟩) (by assumption) ?_
                  rotate_left
                  · (intro w hSw; (try dsimp only at hSw); go_simp); first | done | with_reducible rfl
                  simp only [Act.put, List.setIfInBounds_toArray, List.set_cons_zero, List.set_cons_succ]
                  refine wpAnyH_take (i := 11) (oi := { dst := some 115, op := Op.move (Operand.tmp 4), type := 3, pos := "ref.go:56", after := #[{ on := 2, ground := Ground.guard }], guard := some (2, true) }) (v := ?_) rfl (by kernel_rfl) (by kernel_rfl) (by kernel_rfl) (fun _ _ _ h => h) (Or.inl ⟨by rfl, ?_⟩) (by assumption) ?_
                  rotate_left
                  · (intro w hSw; (try dsimp only at hSw); go_simp); first | done | with_reducible rfl
                  simp only [Act.put, List.setIfInBounds_toArray, List.set_cons_zero, List.set_cons_succ]
                  refine wpAnyH_take (i := 12) (oi := { dst := some 116, op := Op.binOp BinOp.sub 3 (Operand.tmp 115) (Operand.const (Value.int IntKind.i64 1)) 3, type := 3, pos := "ref.go:56", after := #[{ on := 11, ground := Ground.data }, { on := 2, ground := Ground.guard }], guard := some (2, true) }) (v := ?_) rfl (by kernel_rfl) (by kernel_rfl) (by kernel_rfl) (fun _ _ _ h => h) (Or.inl ⟨by rfl, ?_⟩) (by assumption) ?_
                  rotate_left
                  · (intro w hSw; (try dsimp only at hSw); go_simp); first | done | with_reducible rfl
                  simp only [Act.put, List.setIfInBounds_toArray, List.set_cons_zero, List.set_cons_succ]
                  (try rw [HWJ.out])
                  refine wpAnyH_take (i := 13) (oi := { dst := some 117, op := Op.indexAddr 22 (Operand.tmp 114) (Operand.tmp 116), type := 0, pos := "ref.go:56", after := #[{ on := 10, ground := Ground.data }, { on := 12, ground := Ground.data }, { on := 2, ground := Ground.guard }], guard := some (2, true) }) (v := ?_) rfl (by kernel_rfl) (by kernel_rfl) (by kernel_rfl) (fun _ _ _ h => h) (Or.inl ⟨by rfl, ?_⟩) (by assumption) ?_
                  rotate_left
                  · (intro w hSw; (try dsimp only at hSw); go_simp); first | done | with_reducible rfl
                  simp only [Act.put, List.setIfInBounds_toArray, List.set_cons_zero, List.set_cons_succ]
                  refine wpAnyH_take (i := 14) (oi := { dst := some 118, op := Op.fieldAddr 46 (Operand.tmp 117) 0, type := 0, pos := "ref.go:56", after := #[{ on := 13, ground := Ground.data }, { on := 2, ground := Ground.guard }], guard := some (2, true) }) (v := ?_) rfl (by kernel_rfl) (by kernel_rfl) (by kernel_rfl) (fun _ _ _ h => h) (Or.inl ⟨by rfl, ?_⟩) (by assumption) ?_
                  rotate_left
                  · (intro w hSw; (try dsimp only at hSw); go_simp); first | done | with_reducible rfl
                  simp only [Act.put, List.setIfInBounds_toArray, List.set_cons_zero, List.set_cons_succ]
                  refine wpAnyH_take (i := 15) (oi := { dst := some 119, op := Op.load 3 (Operand.tmp 118), type := 3, pos := "ref.go:56", after := #[{ on := 14, ground := Ground.data }, { on := 2, ground := Ground.guard }], guard := some (2, true) }) (v := ?_) rfl (by kernel_rfl) (by kernel_rfl) (by kernel_rfl) (fun _ _ _ h => h) (Or.inl ⟨by rfl, ?_⟩) (by assumption) ?_
                  rotate_left
                  · (intro w hSw; (try dsimp only at hSw); go_simp); first | done | with_reducible rfl
                  simp only [Act.put, List.setIfInBounds_toArray, List.set_cons_zero, List.set_cons_succ]
                  refine wpAnyH_take (i := 16) (oi := { dst := some 120, op := Op.binOp BinOp.leq 3 (Operand.tmp 112) (Operand.tmp 119) 3, type := 4, pos := "ref.go:56", after := #[{ on := 8, ground := Ground.data }, { on := 15, ground := Ground.data }, { on := 2, ground := Ground.guard }], guard := some (2, true) }) (v := ?_) rfl (by kernel_rfl) (by kernel_rfl) (by kernel_rfl) (fun _ _ _ h => h) (Or.inl ⟨by rfl, ?_⟩) (by assumption) ?_
                  rotate_left
                  · (intro w hSw; (try dsimp only at hSw); go_simp); first | done | with_reducible rfl
                  simp only [Act.put, List.setIfInBounds_toArray, List.set_cons_zero, List.set_cons_succ]
                  refine wpAnyH_take (i := 17) (oi := { dst := some 121, op := Op.pick (Operand.tmp 106) (Operand.tmp 120) (Operand.const (Value.bool false)), type := 4, pos := "ref.go:56", after := #[{ on := 2, ground := Ground.data }, { on := 16, ground := Ground.data }], guard := none }) (v := ?_) rfl (by kernel_rfl) (by kernel_rfl) (by kernel_rfl) (fun _ _ _ h => h) (Or.inl ⟨by rfl, ?_⟩) (by assumption) ?_
                  rotate_left
                  · (intro w hSw; (try dsimp only at hSw); go_simp); first | done | with_reducible rfl
                  simp only [Act.put, List.setIfInBounds_toArray, List.set_cons_zero, List.set_cons_succ]
                  refine wpAnyH_done (by kernel_rfl) ?_ _
                  clear hHeld
                  have HBn := hide (HB2.out.trans ((below_drew1 wr).mono (by have := HB2.out.size; omega)))
                  go_wp2_with fail
                  go_ret
                  exact ⟨ret_int HZ.out.symm, by first | exact HBn.out | (rw [hg]; exact HBn.out)⟩
                · have HEn : Hid (rise (-1) X = rise (prv X (k + 1)) (X.drop (k + 1)) ∧ -1 ≤ prv X (k + 1)) := by
                    refine ⟨?_, by rw [HPV.out]; omega⟩
                    rw [HPV.out, HR.out, decide_eq_true (by rw [HP.out]; omega), Bool.true_and]
                  clear HR HV
                  go_wp2_with fail
                  have hk2 : (0 : Int) < (k : Int) := HK0.out
                  have hkd : decide ((0 : Int) < (k : Int)) = true := decide_eq_true hk2
                  refine wp_region_held_drew (S := fun W => W.cell? ⟨g, 5, none⟩ = some (.slice (some ⟨bb, oo, none⟩) pn pc) ∧ W.cell? ⟨bb, oo + k * 2, none⟩ = some (.int .i64 y) ∧ W.cell? ⟨bb, oo + j * 2, none⟩ = some (.int .i64 z)) (by kernel_rfl) (⟨y5, r0, r1⟩) (fun hHeld => ?_)
                  refine wpAnyH_take (i := 0) (oi := { dst := some 104, op := Op.move (Operand.tmp 4), type := 3, pos := "ref.go:56", after := #[], guard := none }) (v := ?_) rfl (by kernel_rfl) (by kernel_rfl) (by kernel_rfl) (fun _ _ _ h => h) (Or.inl ⟨by rfl, ?_⟩) (by assumption) ?_
                  rotate_left
                  · (intro w hSw; (try dsimp only at hSw); go_simp); first | done | with_reducible rfl
                  simp only [Act.put, List.setIfInBounds_toArray, List.set_cons_zero, List.set_cons_succ]
                  refine wpAnyH_take (i := 1) (oi := { dst := some 105, op := Op.binOp BinOp.gtr 3 (Operand.tmp 104) (Operand.const (Value.int IntKind.i64 0)) 3, type := 4, pos := "ref.go:56", after := #[{ on := 0, ground := Ground.data }], guard := none }) (v := .bool true) rfl (by kernel_rfl) (by kernel_rfl) (by kernel_rfl) (fun _ _ _ h => h) (Or.inl ⟨by rfl, ?_⟩) (by assumption) ?_
                  skip
                  · (intro w hSw; (try dsimp only at hSw); go_simp; (try simp [HKN.out])); first | done | with_reducible rfl
                  simp only [Act.put, List.setIfInBounds_toArray, List.set_cons_zero, List.set_cons_succ]
                  refine wpAnyH_take (i := 2) (oi := { dst := some 106, op := Op.move (Operand.tmp 105), type := 4, pos := "ref.go:56", after := #[{ on := 1, ground := Ground.data }], guard := none }) (v := ?_) rfl (by kernel_rfl) (by kernel_rfl) (by kernel_rfl) (fun _ _ _ h => h) (Or.inl ⟨by rfl, ?_⟩) (by assumption) ?_
                  rotate_left
                  · (intro w hSw; (try dsimp only at hSw); go_simp); first | done | with_reducible rfl
                  simp only [Act.put, List.setIfInBounds_toArray, List.set_cons_zero, List.set_cons_succ]
                  refine wpAnyH_take (i := 3) (oi := { dst := some 107, op := Op.fieldAddr 24 (Operand.tmp 1) 5, type := 0, pos := "ref.go:56", after := #[{ on := 2, ground := Ground.guard }], guard := some (2, true) }) (v := ?_) rfl (by kernel_rfl) (by kernel_rfl) (by kernel_rfl) (fun _ _ _ h => h) (Or.inl ⟨by rfl, ?_⟩) (by assumption) ?_
                  rotate_left
                  · (intro w hSw; (try dsimp only at hSw); go_simp); first | done | with_reducible rfl
                  simp only [Act.put, List.setIfInBounds_toArray, List.set_cons_zero, List.set_cons_succ]
                  refine wpAnyH_take (i := 4) (oi := { dst := some 108, op := Op.load 22 (Operand.tmp 107), type := 22, pos := "ref.go:56", after := #[{ on := 3, ground := Ground.data }, { on := 2, ground := Ground.guard }], guard := some (2, true) }) (v := ?_) rfl (by kernel_rfl) (by kernel_rfl) (by kernel_rfl) (fun _ _ _ h => h) (Or.inl ⟨by rfl, ?_⟩) (by assumption) ?_
                  rotate_left
                  · (intro w hSw; (try dsimp only at hSw); go_simp); first | done | with_reducible rfl
                  simp only [Act.put, List.setIfInBounds_toArray, List.set_cons_zero, List.set_cons_succ]
                  refine wpAnyH_take (i := 5) (oi := { dst := some 109, op := Op.move (Operand.tmp 4), type := 3, pos := "ref.go:56", after := #[{ on := 2, ground := Ground.guard }], guard := some (2, true) }) (v := ?_) rfl (by kernel_rfl) (by kernel_rfl) (by kernel_rfl) (fun _ _ _ h => h) (Or.inl ⟨by rfl, ?_⟩) (by assumption) ?_
                  rotate_left
                  · (intro w hSw; (try dsimp only at hSw); go_simp); first | done | with_reducible rfl
                  simp only [Act.put, List.setIfInBounds_toArray, List.set_cons_zero, List.set_cons_succ]
                  refine wpAnyH_take (i := 6) (oi := { dst := some 110, op := Op.indexAddr 22 (Operand.tmp 108) (Operand.tmp 109), type := 0, pos := "ref.go:56", after := #[{ on := 4, ground := Ground.data }, { on := 5, ground := Ground.data }, { on := 2, ground := Ground.guard }], guard := some (2, true) }) (v := ?_) rfl (by kernel_rfl) (by kernel_rfl) (by kernel_rfl) (fun _ _ _ h => h) (Or.inl ⟨by rfl, ?_⟩) (by assumption) ?_
                  rotate_left
                  · (intro w hSw; (try dsimp only at hSw); go_simp); first | done | with_reducible rfl
                  simp only [Act.put, List.setIfInBounds_toArray, List.set_cons_zero, List.set_cons_succ]
                  refine wpAnyH_take (i := 7) (oi := { dst := some 111, op := Op.fieldAddr 46 (Operand.tmp 110) 0, type := 0, pos := "ref.go:56", after := #[{ on := 6, ground := Ground.data }, { on := 2, ground := Ground.guard }], guard := some (2, true) }) (v := ?_) rfl (by kernel_rfl) (by kernel_rfl) (by kernel_rfl) (fun _ _ _ h => h) (Or.inl ⟨by rfl, ?_⟩) (by assumption) ?_
                  rotate_left
                  · (intro w hSw; (try dsimp only at hSw); go_simp); first | done | with_reducible rfl
                  simp only [Act.put, List.setIfInBounds_toArray, List.set_cons_zero, List.set_cons_succ]
                  refine wpAnyH_take (i := 8) (oi := { dst := some 112, op := Op.load 3 (Operand.tmp 111), type := 3, pos := "ref.go:56", after := #[{ on := 7, ground := Ground.data }, { on := 2, ground := Ground.guard }], guard := some (2, true) }) (v := ?_) rfl (by kernel_rfl) (by kernel_rfl) (by kernel_rfl) (fun _ _ _ h => h) (Or.inl ⟨by rfl, ?_⟩) (by assumption) ?_
                  rotate_left
                  · (intro w hSw; (try dsimp only at hSw); go_simp); first | done | with_reducible rfl
                  simp only [Act.put, List.setIfInBounds_toArray, List.set_cons_zero, List.set_cons_succ]
                  refine wpAnyH_take (i := 9) (oi := { dst := some 113, op := Op.fieldAddr 24 (Operand.tmp 1) 5, type := 0, pos := "ref.go:56", after := #[{ on := 2, ground := Ground.guard }], guard := some (2, true) }) (v := ?_) rfl (by kernel_rfl) (by kernel_rfl) (by kernel_rfl) (fun _ _ _ h => h) (Or.inl ⟨by rfl, ?_⟩) (by assumption) ?_
                  rotate_left
                  · (intro w hSw; (try dsimp only at hSw); go_simp); first | done | with_reducible rfl
                  simp only [Act.put, List.setIfInBounds_toArray, List.set_cons_zero, List.set_cons_succ]
                  refine wpAnyH_take (i := 10) (oi := { dst := some 114, op := Op.load 22 (Operand.tmp 113), type := 22, pos := "ref.go:56", after := #[{ on := 9, ground := Ground.data }, { on := 2, ground := Ground.guard }], guard := some (2, true) }) (v := ?_) rfl (by kernel_rfl) (by kernel_rfl) (by kernel_rfl) (fun _ _ _ h => h) (Or.inl ⟨by rfl, ?_⟩) (by assumption) ?_
                  rotate_left
                  · (intro w hSw; (try dsimp only at hSw); go_simp); first | done | with_reducible rfl
                  simp only [Act.put, List.setIfInBounds_toArray, List.set_cons_zero, List.set_cons_succ]
                  refine wpAnyH_take (i := 11) (oi := { dst := some 115, op := Op.move (Operand.tmp 4), type := 3, pos := "ref.go:56", after := #[{ on := 2, ground := Ground.guard }], guard := some (2, true) }) (v := ?_) rfl (by kernel_rfl) (by kernel_rfl) (by kernel_rfl) (fun _ _ _ h => h) (Or.inl ⟨by rfl, ?_⟩) (by assumption) ?_
                  rotate_left
                  · (intro w hSw; (try dsimp only at hSw); go_simp); first | done | with_reducible rfl
                  simp only [Act.put, List.setIfInBounds_toArray, List.set_cons_zero, List.set_cons_succ]
                  refine wpAnyH_take (i := 12) (oi := { dst := some 116, op := Op.binOp BinOp.sub 3 (Operand.tmp 115) (Operand.const (Value.int IntKind.i64 1)) 3, type := 3, pos := "ref.go:56", after := #[{ on := 11, ground := Ground.data }, { on := 2, ground := Ground.guard }], guard := some (2, true) }) (v := ?_) rfl (by kernel_rfl) (by kernel_rfl) (by kernel_rfl) (fun _ _ _ h => h) (Or.inl ⟨by rfl, ?_⟩) (by assumption) ?_
                  rotate_left
                  · (intro w hSw; (try dsimp only at hSw); go_simp); first | done | with_reducible rfl
                  simp only [Act.put, List.setIfInBounds_toArray, List.set_cons_zero, List.set_cons_succ]
                  (try rw [HWJ.out])
                  refine wpAnyH_take (i := 13) (oi := { dst := some 117, op := Op.indexAddr 22 (Operand.tmp 114) (Operand.tmp 116), type := 0, pos := "ref.go:56", after := #[{ on := 10, ground := Ground.data }, { on := 12, ground := Ground.data }, { on := 2, ground := Ground.guard }], guard := some (2, true) }) (v := ?_) rfl (by kernel_rfl) (by kernel_rfl) (by kernel_rfl) (fun _ _ _ h => h) (Or.inl ⟨by rfl, ?_⟩) (by assumption) ?_
                  rotate_left
                  · (intro w hSw; (try dsimp only at hSw); go_simp); first | done | with_reducible rfl
                  simp only [Act.put, List.setIfInBounds_toArray, List.set_cons_zero, List.set_cons_succ]
                  refine wpAnyH_take (i := 14) (oi := { dst := some 118, op := Op.fieldAddr 46 (Operand.tmp 117) 0, type := 0, pos := "ref.go:56", after := #[{ on := 13, ground := Ground.data }, { on := 2, ground := Ground.guard }], guard := some (2, true) }) (v := ?_) rfl (by kernel_rfl) (by kernel_rfl) (by kernel_rfl) (fun _ _ _ h => h) (Or.inl ⟨by rfl, ?_⟩) (by assumption) ?_
                  rotate_left
                  · (intro w hSw; (try dsimp only at hSw); go_simp); first | done | with_reducible rfl
                  simp only [Act.put, List.setIfInBounds_toArray, List.set_cons_zero, List.set_cons_succ]
                  refine wpAnyH_take (i := 15) (oi := { dst := some 119, op := Op.load 3 (Operand.tmp 118), type := 3, pos := "ref.go:56", after := #[{ on := 14, ground := Ground.data }, { on := 2, ground := Ground.guard }], guard := some (2, true) }) (v := ?_) rfl (by kernel_rfl) (by kernel_rfl) (by kernel_rfl) (fun _ _ _ h => h) (Or.inl ⟨by rfl, ?_⟩) (by assumption) ?_
                  rotate_left
                  · (intro w hSw; (try dsimp only at hSw); go_simp); first | done | with_reducible rfl
                  simp only [Act.put, List.setIfInBounds_toArray, List.set_cons_zero, List.set_cons_succ]
                  refine wpAnyH_take (i := 16) (oi := { dst := some 120, op := Op.binOp BinOp.leq 3 (Operand.tmp 112) (Operand.tmp 119) 3, type := 4, pos := "ref.go:56", after := #[{ on := 8, ground := Ground.data }, { on := 15, ground := Ground.data }, { on := 2, ground := Ground.guard }], guard := some (2, true) }) (v := ?_) rfl (by kernel_rfl) (by kernel_rfl) (by kernel_rfl) (fun _ _ _ h => h) (Or.inl ⟨by rfl, ?_⟩) (by assumption) ?_
                  rotate_left
                  · (intro w hSw; (try dsimp only at hSw); go_simp); first | done | with_reducible rfl
                  simp only [Act.put, List.setIfInBounds_toArray, List.set_cons_zero, List.set_cons_succ]
                  refine wpAnyH_take (i := 17) (oi := { dst := some 121, op := Op.pick (Operand.tmp 106) (Operand.tmp 120) (Operand.const (Value.bool false)), type := 4, pos := "ref.go:56", after := #[{ on := 2, ground := Ground.data }, { on := 16, ground := Ground.data }], guard := none }) (v := ?_) rfl (by kernel_rfl) (by kernel_rfl) (by kernel_rfl) (fun _ _ _ h => h) (Or.inl ⟨by rfl, ?_⟩) (by assumption) ?_
                  rotate_left
                  · (intro w hSw; (try dsimp only at hSw); go_simp); first | done | with_reducible rfl
                  simp only [Act.put, List.setIfInBounds_toArray, List.set_cons_zero, List.set_cons_succ]
                  refine wpAnyH_done (by kernel_rfl) ?_ _
                  clear hHeld
                  have HBn := hide (HBk.out.trans ((below_drew1 wr).mono HBk.out.size))
                  go_wp2_with fail
                  go_roundw
                  case rel => exact ⟨k + 1, HLT.out, by rw [HK1.out], HEn, HBn⟩
                  case measure => rw [HK1.out]; have := HLT.out; simp [intOf]; omega
        · have HZ : Hid (ckE ⟨a, b, c, d, e, po, pn, pc⟩ X = 0) := by
            show _ = _
            rw [HV.out, HE.out.1, List.drop_eq_nil_of_le (by have := HN.out; omega)]; rfl
          have HB2 := hide (HB.out.trans (HBk.out.mono (by have := HB.out.size; omega)))
          go_wp2_with fail
          go_ret
          exact ⟨ret_int HZ.out.symm, by first | exact HB2.out | (rw [hg]; exact HB2.out)⟩
end Go.Proofs.Ytpnlfljndkfplaa
