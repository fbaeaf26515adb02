/- The reference's Match: its contract. -/
import Derived.Test.YtnlklhjmhienkaaGreatDoorMPr
import Derived.Lib.QuietBelow
import Derived.Deep.RegionHeld
namespace Go.Proofs.YtnlklhjmhienkaaGreatDoor.M
open Go.RowKit
attribute [local go_sem ↓] mkB_eq

/-- does R hold somewhere ahead of j? -/
def anyR (R : Nat → Bool) (j : Nat) : Bool := (List.range j).any R
theorem anyR_succ (R : Nat → Bool) (j : Nat) : anyR R (j + 1) = (anyR R j || R j) := by unfold anyR; rw [List.range_succ, List.any_append]; simp
theorem starF_any (R : Nat → Bool) (n j : Nat) (h : j ≤ n) : starF R n j = anyR R (j + 1) := by
  induction j with
  | zero => rw [anyR_succ]; rfl
  | succ j ih => rw [starF_succ, if_pos (by omega), ih (by omega), anyR_succ R (j + 1)]
/-- behind j places of the new row -/
def upJ (P : Nat → Bool) (j : Nat) : Nat → Bool := fun t => if t < j then P t else false
theorem upJ_set (P : Nat → Bool) (j : Nat) (v : Bool) (hv : P j = v) (i : Nat) : (if i = j then v else upJ P j i) = upJ P (j + 1) i := by
  unfold upJ
  by_cases h : i = j
  · subst h; rw [if_pos rfl, if_pos (by omega), hv]
  · rw [if_neg h]
    by_cases h2 : i < j
    · rw [if_pos h2, if_pos (by omega)]
    · rw [if_neg h2, if_neg (by omega)]
theorem upJ_skip (P : Nat → Bool) (j : Nat) (hv : P j = false) (i : Nat) : upJ P j i = upJ P (j + 1) i := by
  unfold upJ
  by_cases h2 : i < j
  · rw [if_pos h2, if_pos (by omega)]
  · rw [if_neg h2]
    by_cases h : i = j
    · subst h; rw [if_pos (by omega), hv]
    · rw [if_neg (by omega)]
theorem rrun_nil (l : List UInt8) : rrun [] l = fun j => j == 0 := rfl
/-- why a byte may stand in a pattern -/
theorem pb_cases (c : UInt8) (h : pb c = true) :
    (lt c = true ∧ dig c = dig c ∧ mk c = mk c) ∨ (lt c = false ∧ dig c = true ∧ mk c = mk c) ∨ (lt c = false ∧ dig c = false ∧ mk c = true) ∨
    (lt c = false ∧ dig c = false ∧ mk c = false ∧ ((c.toNat : Int) != 42) = false) ∨
    (lt c = false ∧ dig c = false ∧ mk c = false ∧ ((c.toNat : Int) != 42) = true ∧ ((c.toNat : Int) != 63) = false) ∨
    (lt c = false ∧ dig c = false ∧ mk c = false ∧ ((c.toNat : Int) != 42) = true ∧ ((c.toNat : Int) != 63) = true ∧ ((c.toNat : Int) != 35) = false) ∨
    (lt c = false ∧ dig c = false ∧ mk c = false ∧ ((c.toNat : Int) != 42) = true ∧ ((c.toNat : Int) != 63) = true ∧ ((c.toNat : Int) != 35) = true ∧ ((c.toNat : Int) != 64) = false) := by
  cases hl : lt c with
  | true => exact Or.inl ⟨rfl, rfl, rfl⟩
  | false =>
    cases hd : dig c with
    | true => exact Or.inr (Or.inl ⟨rfl, rfl, rfl⟩)
    | false =>
      cases hm : mk c with
      | true => exact Or.inr (Or.inr (Or.inl ⟨rfl, rfl, rfl⟩))
      | false =>
        unfold pb at h
        rw [hl, hd, hm] at h
        by_cases h1 : c = 42
        · subst h1; exact Or.inr (Or.inr (Or.inr (Or.inl ⟨rfl, rfl, rfl, rfl⟩)))
        · by_cases h2 : c = 63
          · subst h2; exact Or.inr (Or.inr (Or.inr (Or.inr (Or.inl ⟨rfl, rfl, rfl, rfl, rfl⟩))))
          · by_cases h3 : c = 35
            · subst h3; exact Or.inr (Or.inr (Or.inr (Or.inr (Or.inr (Or.inl ⟨rfl, rfl, rfl, rfl, rfl, rfl⟩)))))
            · by_cases h4 : c = 64
              · subst h4; exact Or.inr (Or.inr (Or.inr (Or.inr (Or.inr (Or.inr ⟨rfl, rfl, rfl, rfl, rfl, rfl, rfl⟩)))))
              · rw [if_neg (by simp [h1, h2, h3, h4])] at h; cases h
theorem ne_bool' {b : UInt8} {c : UInt8} {n : Int} (hn : (c.toNat : Int) = n) (h : ¬ b = c) : ((b.toNat : Int) != n) = true := by
  rw [bne, ne_bool hn h]; rfl
theorem pb_none (c : UInt8) (h : pb c = false) : lt c = false ∧ dig c = false ∧ mk c = false ∧ ((c.toNat : Int) != 42) = true ∧ ((c.toNat : Int) != 63) = true ∧ ((c.toNat : Int) != 35) = true ∧ ((c.toNat : Int) != 64) = true := by
  unfold pb at h
  split at h
  · cases h
  · rename_i h0
    simp only [Bool.or_eq_false_iff] at h
    simp only [not_or] at h0
    exact ⟨h.1.1, h.1.2, h.2, ne_bool' rfl h0.1, ne_bool' rfl h0.2.1, ne_bool' rfl h0.2.2.1, ne_bool' rfl h0.2.2.2⟩
/-- what the two rows hold while the new one is filled -/
structure MS (w W : World) (g h m : Nat) (R P : Nat → Bool) : Prop where
  old : BR W g (m + 1) R
  new : BR W h (m + 1) P
  ne : g ≠ h
  hh : w.heap.size ≤ h
  below : Below w.heap.size w W
theorem MS.set {w W : World} {g h m : Nat} {R P Q : Nat → Bool} (S : MS w W g h m R P) (j : Nat) (v : Bool) (hQ : ∀ i, (if i = j then v else P i) = Q i) : MS w (W.setCell ⟨h, j, none⟩ (.bool v)) g h m R Q :=
  ⟨S.old.other _ _ S.ne, (S.new.set j v).congr (fun i _ => hQ i), S.ne, S.hh, below_setC S.below S.hh⟩
theorem MS.on {w W W' : World} {g h m : Nat} {R P : Nat → Bool} (S : MS w W g h m R P) (hb : Below W.heap.size W W') : MS w W' g h m R P :=
  ⟨S.old.below hb, S.new.below hb, S.ne, S.hh, S.below.trans (hb.mono S.below.size)⟩
theorem MS.skip {w W : World} {g h m : Nat} {R P Q : Nat → Bool} (S : MS w W g h m R P) (hQ : ∀ i, P i = Q i) : MS w W g h m R Q :=
  ⟨S.old, S.new.congr (fun i _ => hQ i), S.ne, S.hh, S.below⟩
theorem refFits_below (b c : UInt8) (w : World) : Calls Tryz.prog 65 #[.int .u8 (b.toNat : Int), .int .u8 (c.toNat : Int)] w fun e w' => e = .returned (.bool (fit b c)) ∧ Below w.heap.size w w' := (refFits_any b c w).mono (by rintro e w' ⟨rfl, rfl⟩; exact ⟨rfl, Below.refl _ _⟩)
theorem run_mkB1 (w : World) (n : Nat) (hn : n ≤ 24) : (mkB (.int .i64 ((n : Int) + 1)) (.int .i64 ((n : Int) + 1))).run Tryz.prog w = .ok (.slice (some ⟨w.heap.size, 0, none⟩) (n + 1) (n + 1)) (w.alloc (.cells (bvs (fun _ => false) (n + 1)) 4)) := by
  have := run_mkB w (n + 1) (by omega)
  rwa [show ((n + 1 : Nat) : Int) = (n : Int) + 1 by omega] at this
set_option maxRecDepth 100000 in
set_option maxHeartbeats 4000000 in
theorem refMatch_good (p s : ByteArray) (w : World) (hp : p.size ≤ 48) (hall : p.data.toList.all pb = true) (hg : good s.data.toList = true) :
    Calls Tryz.prog 35 #[.string p, .string s] w fun e w' => e = .returned (.tuple #[.bool (rrun p.data.toList s.data.toList s.size), .int .i64 0]) ∧ Below w.heap.size w w' := by
  have HP := hide hall
  have HG := hide hg
  have hs : s.size ≤ 24 := by
    have := (good_iff _).1 hg
    rw [len_at] at this; exact this.2.1
  have HM : Hid (s.size ≤ maxLen) := by show _ ≤ _; unfold maxLen; omega
  have hp' : ¬ (48 : Int) < p.size := by omega
  clear hall hg
  go_enter Tryz.func35, Tryz.ntmps35
  go_wp2
  go_loop [6] (fun i => ∃ k : Nat, k ≤ p.size ∧ i = .int .i64 k) (fun i => p.size - (intOf i).toNat)
  case atStart => exact ⟨0, Nat.zero_le _, rfl⟩
  case round =>
    obtain ⟨k, hk, rfl⟩ := hrel
    by_cases hlt : k < p.size
    · have HB : Hid (pb p[k] = true) := by show _ = _; exact (List.all_eq_true.1 HP.out) p[k] (by show p.data[k] ∈ _; simp)
      rcases pb_cases p[k] HB.out with ⟨h1, h2, h3⟩ | ⟨h1, h2, h3⟩ | ⟨h1, h2, h3⟩ | ⟨h1, h2, h3, h4⟩ | ⟨h1, h2, h3, h4, h5⟩ | ⟨h1, h2, h3, h4, h5, h6⟩ | ⟨h1, h2, h3, h4, h5, h6, h7⟩
      · have HL := hide h1
        have HD := hide h2
        have HK0 := hide h3
        clear h1 h2 h3
        go_wp2_with (first | (go_at_call 63; refine (refLetter_any p[k] _).mono ?_; rintro e wx ⟨rfl, hwx⟩; subst wx; rw [HL.out]) | (go_at_call 37; refine (refDigit_any p[k] _).mono ?_; rintro e wx ⟨rfl, hwx⟩; subst wx; rw [HD.out]) | (go_at_call 64; refine (refMark_any p[k] _).mono ?_; rintro e wx ⟨rfl, hwx⟩; subst wx; rw [HK0.out]))
        go_round
        case rel => exact ⟨k + 1, by omega, by go_num⟩
        case measure => simp [intOf]; omega
      · have HL := hide h1
        have HD := hide h2
        have HK0 := hide h3
        clear h1 h2 h3
        go_wp2_with (first | (go_at_call 63; refine (refLetter_any p[k] _).mono ?_; rintro e wx ⟨rfl, hwx⟩; subst wx; rw [HL.out]) | (go_at_call 37; refine (refDigit_any p[k] _).mono ?_; rintro e wx ⟨rfl, hwx⟩; subst wx; rw [HD.out]) | (go_at_call 64; refine (refMark_any p[k] _).mono ?_; rintro e wx ⟨rfl, hwx⟩; subst wx; rw [HK0.out]))
        go_round
        case rel => exact ⟨k + 1, by omega, by go_num⟩
        case measure => simp [intOf]; omega
      · have HL := hide h1
        have HD := hide h2
        have HK0 := hide h3
        clear h1 h2 h3
        go_wp2_with (first | (go_at_call 63; refine (refLetter_any p[k] _).mono ?_; rintro e wx ⟨rfl, hwx⟩; subst wx; rw [HL.out]) | (go_at_call 37; refine (refDigit_any p[k] _).mono ?_; rintro e wx ⟨rfl, hwx⟩; subst wx; rw [HD.out]) | (go_at_call 64; refine (refMark_any p[k] _).mono ?_; rintro e wx ⟨rfl, hwx⟩; subst wx; rw [HK0.out]))
        go_round
        case rel => exact ⟨k + 1, by omega, by go_num⟩
        case measure => simp [intOf]; omega
      · have HL := hide h1
        have HD := hide h2
        have HK0 := hide h3
        clear h1 h2 h3
        go_wp2_with (first | (go_at_call 63; refine (refLetter_any p[k] _).mono ?_; rintro e wx ⟨rfl, hwx⟩; subst wx; rw [HL.out]) | (go_at_call 37; refine (refDigit_any p[k] _).mono ?_; rintro e wx ⟨rfl, hwx⟩; subst wx; rw [HD.out]) | (go_at_call 64; refine (refMark_any p[k] _).mono ?_; rintro e wx ⟨rfl, hwx⟩; subst wx; rw [HK0.out]))
        go_round
        case rel => exact ⟨k + 1, by omega, by go_num⟩
        case measure => simp [intOf]; omega
      · have HL := hide h1
        have HD := hide h2
        have HK0 := hide h3
        clear h1 h2 h3
        go_wp2_with (first | (go_at_call 63; refine (refLetter_any p[k] _).mono ?_; rintro e wx ⟨rfl, hwx⟩; subst wx; rw [HL.out]) | (go_at_call 37; refine (refDigit_any p[k] _).mono ?_; rintro e wx ⟨rfl, hwx⟩; subst wx; rw [HD.out]) | (go_at_call 64; refine (refMark_any p[k] _).mono ?_; rintro e wx ⟨rfl, hwx⟩; subst wx; rw [HK0.out]))
        go_round
        case rel => exact ⟨k + 1, by omega, by go_num⟩
        case measure => simp [intOf]; omega
      · have HL := hide h1
        have HD := hide h2
        have HK0 := hide h3
        clear h1 h2 h3
        go_wp2_with (first | (go_at_call 63; refine (refLetter_any p[k] _).mono ?_; rintro e wx ⟨rfl, hwx⟩; subst wx; rw [HL.out]) | (go_at_call 37; refine (refDigit_any p[k] _).mono ?_; rintro e wx ⟨rfl, hwx⟩; subst wx; rw [HD.out]) | (go_at_call 64; refine (refMark_any p[k] _).mono ?_; rintro e wx ⟨rfl, hwx⟩; subst wx; rw [HK0.out]))
        go_round
        case rel => exact ⟨k + 1, by omega, by go_num⟩
        case measure => simp [intOf]; omega
      · have HL := hide h1
        have HD := hide h2
        have HK0 := hide h3
        clear h1 h2 h3
        go_wp2_with (first | (go_at_call 63; refine (refLetter_any p[k] _).mono ?_; rintro e wx ⟨rfl, hwx⟩; subst wx; rw [HL.out]) | (go_at_call 37; refine (refDigit_any p[k] _).mono ?_; rintro e wx ⟨rfl, hwx⟩; subst wx; rw [HD.out]) | (go_at_call 64; refine (refMark_any p[k] _).mono ?_; rintro e wx ⟨rfl, hwx⟩; subst wx; rw [HK0.out]))
        go_round
        case rel => exact ⟨k + 1, by omega, by go_num⟩
        case measure => simp [intOf]; omega
    · have m0 := run_mkB1 w s.size hs
      have B0 := made_BR w (s.size + 1)
      obtain ⟨w0, Hw0⟩ : ∃ w0, Hid (w.alloc (.cells (bvs (fun _ => false) (s.size + 1)) 4) = w0) := ⟨_, rfl⟩
      rw [Hw0.out] at m0 B0
      have b0 : Below w.heap.size w w0 := by rw [← Hw0.out]; exact (Below.refl _ _).alloc (Nat.le_refl _) _
      have c0 := B0.cell 0 (by omega)
      have f0 := B0.frozen 0
      have N0 := hide ((B0.set 0 true).congr (S := fun j => j == 0) (fun j _ => by by_cases h : j = 0 <;> simp [h]))
      have HB0 := hide (below_setC (v := .bool true) b0 (a := ⟨w.heap.size, 0, none⟩) (Nat.le_refl _))
      clear B0 b0
      go_wp2_with (go_at_call 24; refine (refGood_any s _ HM.out).mono ?_; rintro e wg ⟨rfl, hwg⟩; subst wg; rw [HG.out])
      go_loopw [8, 9] (fun v i wr => ∃ (k g : Nat), k ≤ p.size ∧ v = .slice (some ⟨g, 0, none⟩) (s.size + 1) (s.size + 1) ∧ i = .int .i64 k ∧ Hid (BR wr g (s.size + 1) (rrun (p.data.toList.take k) s.data.toList)) ∧ Hid (Below w.heap.size w wr)) (fun _ i _ => p.size - (intOf i).toNat)
      case atStart => exact ⟨0, _, Nat.zero_le _, rfl, rfl, N0, HB0⟩
      case round =>
        obtain ⟨i, g, hi, rfl, rfl, HR, HW⟩ := hrel
        obtain ⟨R, HRe⟩ : ∃ R, Hid (rrun (p.data.toList.take i) s.data.toList = R) := ⟨_, rfl⟩
        rw [HRe.out] at HR
        by_cases hil : i < p.size
        · have m1 := run_mkB1 wr s.size hs
          have N1 := made_BR wr (s.size + 1)
          obtain ⟨w1, Hw1⟩ : ∃ w1, Hid (wr.alloc (.cells (bvs (fun _ => false) (s.size + 1)) 4) = w1) := ⟨_, rfl⟩
          rw [Hw1.out] at m1 N1
          have b1 : Below wr.heap.size wr w1 := by rw [← Hw1.out]; exact (Below.refl _ _).alloc (Nat.le_refl _) _
          obtain ⟨b, Hb⟩ : ∃ b, Hid (p[i] = b) := ⟨p[i], rfl⟩
          have HQ : Hid (rrun (p.data.toList.take (i + 1)) s.data.toList = rstep b s.data.toList R) := by show _ = _; rw [take_snocB p i hil, rrun_snoc, HRe.out, Hb.out]
          have M0 : Hid (MS w w1 g wr.heap.size s.size R (upJ (rstep b s.data.toList R) 0)) := ⟨HR.out.below b1, N1.congr (fun j _ => by unfold upJ; simp), by have := HR.out.lt; omega, HW.out.size, HW.out.trans (b1.mono HW.out.size)⟩
          obtain ⟨h, Hh⟩ : ∃ h, Hid (wr.heap.size = h) := ⟨_, rfl⟩
          rw [Hh.out] at m1 M0
          clear N1 b1
          go_wp2_with fail
          go_loopw [11, 12] (fun v t wi => ∃ j : Nat, j ≤ s.size + 1 ∧ v = .bool (anyR R j) ∧ t = .int .i64 j ∧ Hid (MS w wi g h s.size R (upJ (rstep b s.data.toList R) j))) (fun _ t _ => s.size + 1 - (intOf t).toNat)
          case atStart => exact ⟨0, Nat.zero_le _, rfl, rfl, M0⟩
          case round =>
            obtain ⟨j, hj, rfl, rfl, HMs⟩ := hrel
            clear m1 M0
            obtain ⟨x, Hx⟩ : ∃ x, Hid (anyR R j = x) := ⟨_, rfl⟩
            rw [Hx.out]
            by_cases hjl : j ≤ s.size
            · have cR := HMs.out.old.cell j (by omega)
              have cN := HMs.out.new.cell j (by omega)
              have fN := HMs.out.new.frozen j
              obtain ⟨y, Hy⟩ : ∃ y, Hid (R j = y) := ⟨_, rfl⟩
              rw [Hy.out] at cR
              have HA : Hid (anyR R (j + 1) = (x || y)) := by show _ = _; rw [anyR_succ, Hx.out, Hy.out]
              have hjI : (j : Int) ≤ s.size := by omega
              by_cases h42 : b = 42
              · have e42 : ((p[i].toNat : Int) == 42) = true := by rw [Hb.out, h42]; rfl
                have HS : Hid (rstep b s.data.toList R j = (x || y)) := by show _ = _; rw [h42, rstep_star, len_at, starF_any R s.size j hjl, HA.out]
                clear h42
                cases x with
                | true =>
                  go_wp2_with fail
                  go_roundw
                  case rel => exact ⟨j + 1, by omega, by rw [HA.out]; rfl, by go_num, HMs.out.set j true (upJ_set _ j true (by rw [HS.out]; rfl))⟩
                  case measure => first | (simp [intOf]; done) | (simp [intOf]; omega)
                | false =>
                  go_wp2_with fail
                  go_roundw
                  case rel => exact ⟨j + 1, by omega, by rw [HA.out]; rfl, by go_num, HMs.out.set j y (upJ_set _ j y (by rw [HS.out]; rfl))⟩
                  case measure => first | (simp [intOf]; done) | (simp [intOf]; omega)
              · have e42 : ((p[i].toNat : Int) == 42) = false := ne_bool (n := 42) rfl (by rw [Hb.out]; exact h42)
                by_cases hj0 : j = 0
                · subst hj0
                  have HS : Hid (rstep b s.data.toList R 0 = false) := by show _ = _; exact rstep_plain0 b h42 _ _
                  clear h42
                  cases x with
                  | true =>
                    go_wp2_with fail
                    refine wp_region_quiet_below (by kernel_rfl) (by kernel_rfl) ?_
                    repeat (with_reducible (refine wpQuiet_step ?_); intro K hK; go_simp; (try rw [if_neg (by unfold undef; simp)]); first | (with_reducible (refine hK _ ?_); clear hK K) | (apply Exists.intro; refine ⟨fun _ => ?_, hK _ ?_⟩; (fail); clear hK K))
                    with_reducible (refine wpQuiet_nil ?_)
                    intro _ hw'
                    obtain ⟨⟨dq, osq⟩, hw''⟩ := hw'
                    subst hw''
                    have M1 := hide (HMs.out.on (below_regrown wr dq osq))
                    obtain ⟨wq, Hwq⟩ : ∃ wq, Hid (Sort.grow (redrawn wr dq) osq = wq) := ⟨_, rfl⟩
                    rw [Hwq.out] at M1 ⊢
                    have cN1 := M1.out.new.cell 0 (by omega)
                    have fN1 := M1.out.new.frozen 0
                    go_wp2_with fail
                    go_roundw
                    case rel => exact ⟨0 + 1, by omega, by rw [HA.out]; rfl, by go_num, M1.out.skip (upJ_skip _ 0 HS.out)⟩
                    case measure => first | (simp [intOf]; done) | (simp [intOf]; omega)
                  | false =>
                    go_wp2_with fail
                    refine wp_region_quiet_below (by kernel_rfl) (by kernel_rfl) ?_
                    repeat (with_reducible (refine wpQuiet_step ?_); intro K hK; go_simp; (try rw [if_neg (by unfold undef; simp)]); first | (with_reducible (refine hK _ ?_); clear hK K) | (apply Exists.intro; refine ⟨fun _ => ?_, hK _ ?_⟩; (fail); clear hK K))
                    with_reducible (refine wpQuiet_nil ?_)
                    intro _ hw'
                    obtain ⟨⟨dq, osq⟩, hw''⟩ := hw'
                    subst hw''
                    have M1 := hide (HMs.out.on (below_regrown wr dq osq))
                    obtain ⟨wq, Hwq⟩ : ∃ wq, Hid (Sort.grow (redrawn wr dq) osq = wq) := ⟨_, rfl⟩
                    rw [Hwq.out] at M1 ⊢
                    have cN1 := M1.out.new.cell 0 (by omega)
                    have fN1 := M1.out.new.frozen 0
                    go_wp2_with fail
                    go_roundw
                    case rel => exact ⟨0 + 1, by omega, by rw [HA.out]; rfl, by go_num, M1.out.skip (upJ_skip _ 0 HS.out)⟩
                    case measure => first | (simp [intOf]; done) | (simp [intOf]; omega)
                · obtain ⟨t, ht⟩ : ∃ t, j - 1 = t := ⟨_, rfl⟩
                  have htj : j = t + 1 := by omega
                  have htl : t < s.size := by omega
                  have hk2 : 0 < j := by omega
                  have hwt : IntKind.i64.wrap ((j : Int) - 1) = (t : Int) := by rw [IntKind.wrap_i64]; omega
                  have htnI : (t : Int) < (s.size : Int) + 1 := by omega
                  have htI : (t : Int) < (s.size : Int) := by omega
                  have gz := cell_regrown (HMs.out.old.cell t (by omega))
                  obtain ⟨z, Hz⟩ : ∃ z, Hid (R t = z) := ⟨_, rfl⟩
                  rw [Hz.out] at gz
                  obtain ⟨f, Hf⟩ : ∃ f, Hid (fit p[i] s[t] = f) := ⟨fit p[i] s[t], rfl⟩
                  have HS : Hid (rstep b s.data.toList R j = (z && f)) := by
                    show _ = _
                    rw [htj, rstep_plain b h42, len_at, if_pos htl, Hz.out, getD_at s t htl, ← Hb.out, Hf.out]
                  have cF : ∀ d os, Calls Tryz.prog 65 #[.int .u8 (p[i].toNat : Int), .int .u8 (s[t].toNat : Int)] (Sort.grow (redrawn wr d) os) fun e w'' => e = .returned (.bool f) ∧ ∃ p : Regrown, w'' = Sort.grow (redrawn wr p.d) p.os := fun d os => by
                    have := refFits_below p[i] s[t] (Sort.grow (redrawn wr d) os)
                    rw [Hf.out] at this
                    exact Calls.regrown_of this
                  clear h42 hj0 ht
                  have HTJ := hide htj
                  clear htj
                  cases x with
                  | true =>
                    cases z with
                    | false =>
                      go_wp2_with fail
                      refine wp_region_quiet_below (by kernel_rfl) (by kernel_rfl) ?_
                      repeat (with_reducible (refine wpQuiet_step ?_); intro K hK; go_simp; (try rw [if_neg (by unfold undef; simp)]); first | (with_reducible (refine hK _ ?_); clear hK K) | (apply Exists.intro; refine ⟨fun _ => ?_, hK _ ?_⟩; (fail); clear hK K))
                      with_reducible (refine wpQuiet_nil ?_)
                      intro _ hw'
                      obtain ⟨⟨dq, osq⟩, hw''⟩ := hw'
                      subst hw''
                      have M1 := hide (HMs.out.on (below_regrown wr dq osq))
                      obtain ⟨wq, Hwq⟩ : ∃ wq, Hid (Sort.grow (redrawn wr dq) osq = wq) := ⟨_, rfl⟩
                      rw [Hwq.out] at M1 ⊢
                      have cN1 := M1.out.new.cell j (by omega)
                      have fN1 := M1.out.new.frozen j
                      go_wp2_with fail
                      go_roundw
                      case rel => exact ⟨j + 1, by omega, by rw [HA.out]; rfl, by go_num, M1.out.skip (upJ_skip _ j (by rw [HS.out]; rfl))⟩
                      case measure => first | (simp [intOf]; done) | (simp [intOf]; omega)
                    | true =>
                      cases f with
                      | false =>
                        go_wp2_with fail
                        refine wp_region_quiet_below (by kernel_rfl) (by kernel_rfl) ?_
                        repeat (with_reducible (refine wpQuiet_step ?_); intro K hK; go_simp; (try rw [if_neg (by unfold undef; simp)]); first | (with_reducible (refine hK _ ?_); clear hK K) | (apply Exists.intro; refine ⟨fun _ => ?_, hK _ ?_⟩; (go_at_call 65; exact cF _ _); clear hK K))
                        with_reducible (refine wpQuiet_nil ?_)
                        intro _ hw'
                        obtain ⟨⟨dq, osq⟩, hw''⟩ := hw'
                        subst hw''
                        have M1 := hide (HMs.out.on (below_regrown wr dq osq))
                        obtain ⟨wq, Hwq⟩ : ∃ wq, Hid (Sort.grow (redrawn wr dq) osq = wq) := ⟨_, rfl⟩
                        rw [Hwq.out] at M1 ⊢
                        have cN1 := M1.out.new.cell j (by omega)
                        have fN1 := M1.out.new.frozen j
                        go_wp2_with fail
                        go_roundw
                        case rel => exact ⟨j + 1, by omega, by rw [HA.out]; rfl, by go_num, M1.out.skip (upJ_skip _ j (by rw [HS.out]; rfl))⟩
                        case measure => first | (simp [intOf]; done) | (simp [intOf]; omega)
                      | true =>
                        go_wp2_with fail
                        refine wp_region_quiet_below (by kernel_rfl) (by kernel_rfl) ?_
                        repeat (with_reducible (refine wpQuiet_step ?_); intro K hK; go_simp; (try rw [if_neg (by unfold undef; simp)]); first | (with_reducible (refine hK _ ?_); clear hK K) | (apply Exists.intro; refine ⟨fun _ => ?_, hK _ ?_⟩; (go_at_call 65; exact cF _ _); clear hK K))
                        with_reducible (refine wpQuiet_nil ?_)
                        intro _ hw'
                        obtain ⟨⟨dq, osq⟩, hw''⟩ := hw'
                        subst hw''
                        have M1 := hide (HMs.out.on (below_regrown wr dq osq))
                        obtain ⟨wq, Hwq⟩ : ∃ wq, Hid (Sort.grow (redrawn wr dq) osq = wq) := ⟨_, rfl⟩
                        rw [Hwq.out] at M1 ⊢
                        have cN1 := M1.out.new.cell j (by omega)
                        have fN1 := M1.out.new.frozen j
                        go_wp2_with fail
                        go_roundw
                        case rel => exact ⟨j + 1, by omega, by rw [HA.out]; rfl, by go_num, M1.out.set j true (upJ_set _ j true (by rw [HS.out]; rfl))⟩
                        case measure => first | (simp [intOf]; done) | (simp [intOf]; omega)
                  | false =>
                    cases z with
                    | false =>
                      go_wp2_with fail
                      refine wp_region_quiet_below (by kernel_rfl) (by kernel_rfl) ?_
                      repeat (with_reducible (refine wpQuiet_step ?_); intro K hK; go_simp; (try rw [if_neg (by unfold undef; simp)]); first | (with_reducible (refine hK _ ?_); clear hK K) | (apply Exists.intro; refine ⟨fun _ => ?_, hK _ ?_⟩; (fail); clear hK K))
                      with_reducible (refine wpQuiet_nil ?_)
                      intro _ hw'
                      obtain ⟨⟨dq, osq⟩, hw''⟩ := hw'
                      subst hw''
                      have M1 := hide (HMs.out.on (below_regrown wr dq osq))
                      obtain ⟨wq, Hwq⟩ : ∃ wq, Hid (Sort.grow (redrawn wr dq) osq = wq) := ⟨_, rfl⟩
                      rw [Hwq.out] at M1 ⊢
                      have cN1 := M1.out.new.cell j (by omega)
                      have fN1 := M1.out.new.frozen j
                      go_wp2_with fail
                      go_roundw
                      case rel => exact ⟨j + 1, by omega, by rw [HA.out]; rfl, by go_num, M1.out.skip (upJ_skip _ j (by rw [HS.out]; rfl))⟩
                      case measure => first | (simp [intOf]; done) | (simp [intOf]; omega)
                    | true =>
                      cases f with
                      | false =>
                        go_wp2_with fail
                        refine wp_region_quiet_below (by kernel_rfl) (by kernel_rfl) ?_
                        repeat (with_reducible (refine wpQuiet_step ?_); intro K hK; go_simp; (try rw [if_neg (by unfold undef; simp)]); first | (with_reducible (refine hK _ ?_); clear hK K) | (apply Exists.intro; refine ⟨fun _ => ?_, hK _ ?_⟩; (go_at_call 65; exact cF _ _); clear hK K))
                        with_reducible (refine wpQuiet_nil ?_)
                        intro _ hw'
                        obtain ⟨⟨dq, osq⟩, hw''⟩ := hw'
                        subst hw''
                        have M1 := hide (HMs.out.on (below_regrown wr dq osq))
                        obtain ⟨wq, Hwq⟩ : ∃ wq, Hid (Sort.grow (redrawn wr dq) osq = wq) := ⟨_, rfl⟩
                        rw [Hwq.out] at M1 ⊢
                        have cN1 := M1.out.new.cell j (by omega)
                        have fN1 := M1.out.new.frozen j
                        go_wp2_with fail
                        go_roundw
                        case rel => exact ⟨j + 1, by omega, by rw [HA.out]; rfl, by go_num, M1.out.skip (upJ_skip _ j (by rw [HS.out]; rfl))⟩
                        case measure => first | (simp [intOf]; done) | (simp [intOf]; omega)
                      | true =>
                        go_wp2_with fail
                        refine wp_region_quiet_below (by kernel_rfl) (by kernel_rfl) ?_
                        repeat (with_reducible (refine wpQuiet_step ?_); intro K hK; go_simp; (try rw [if_neg (by unfold undef; simp)]); first | (with_reducible (refine hK _ ?_); clear hK K) | (apply Exists.intro; refine ⟨fun _ => ?_, hK _ ?_⟩; (go_at_call 65; exact cF _ _); clear hK K))
                        with_reducible (refine wpQuiet_nil ?_)
                        intro _ hw'
                        obtain ⟨⟨dq, osq⟩, hw''⟩ := hw'
                        subst hw''
                        have M1 := hide (HMs.out.on (below_regrown wr dq osq))
                        obtain ⟨wq, Hwq⟩ : ∃ wq, Hid (Sort.grow (redrawn wr dq) osq = wq) := ⟨_, rfl⟩
                        rw [Hwq.out] at M1 ⊢
                        have cN1 := M1.out.new.cell j (by omega)
                        have fN1 := M1.out.new.frozen j
                        go_wp2_with fail
                        go_roundw
                        case rel => exact ⟨j + 1, by omega, by rw [HA.out]; rfl, by go_num, M1.out.set j true (upJ_set _ j true (by rw [HS.out]; rfl))⟩
                        case measure => first | (simp [intOf]; done) | (simp [intOf]; omega)
            · obtain rfl : j = s.size + 1 := by omega
              have HN : Hid (BR wr h (s.size + 1) (rstep b s.data.toList R)) := HMs.out.new.congr (fun t ht => by unfold upJ; rw [if_pos ht])
              go_wp2_with fail
              go_roundw
              case rel => exact ⟨i + 1, h, by omega, rfl, by go_num, by rw [HQ.out]; exact HN, HMs.out.below⟩
              case measure => first | (simp [intOf]; done) | (simp [intOf]; omega)
        · obtain rfl : i = p.size := by omega
          have eT : p.data.toList.take p.size = p.data.toList := List.take_of_length_le (by rw [len_at]; exact Nat.le_refl _)
          rw [eT] at HRe
          have cE := HR.out.cell s.size (by omega)
          rw [← HRe.out] at cE
          obtain ⟨q, Hq⟩ : ∃ q, Hid (rrun p.data.toList s.data.toList s.size = q) := ⟨_, rfl⟩
          rw [Hq.out] at cE
          clear eT
          go_wp2_with fail
          go_ret2
          exact ⟨by rw [Hq.out]; rfl, HW.out⟩
set_option maxRecDepth 100000 in
set_option maxHeartbeats 4000000 in
theorem refMatch_any (p s : ByteArray) (w : World) (hp : p.size ≤ maxLen) (hs : s.size ≤ maxLen) :
    Calls Tryz.prog 35 #[.string p, .string s] w fun e w' => e = .returned (.tuple #[.bool (maB p s), .int .i64 (maE p s)]) ∧ Below w.heap.size w w' := by
  have HB0 : Hid (Below w.heap.size w w) := Below.refl _ _
  have HSs := hide hs
  unfold maxLen at hp
  clear hs
  by_cases h48 : 48 < p.size
  · have HE : Hid (maE p s = 21) := by show _ = _; unfold maE; rw [if_pos h48]
    have HM := hide (maB_no HE.out (by decide))
    have h48' : (48 : Int) < p.size := by omega
    go_enter Tryz.func35, Tryz.ntmps35
    go_wp2
    go_ret2
    exact ⟨ret_mb HM.out.symm HE.out.symm, HB0.out⟩
  have h48' : ¬ (48 : Int) < p.size := by omega
  by_cases hall : p.data.toList.all pb = true
  · by_cases hg : good s.data.toList = true
    · have hE : maE p s = 0 := by unfold maE; rw [if_neg h48, if_pos hall, if_pos hg]
      have hM : maB p s = rrun p.data.toList s.data.toList s.size := by unfold maB; rw [if_pos hE]
      rw [hE, hM]
      exact refMatch_good p s w (by omega) hall hg
    · have HE : Hid (maE p s = 5) := by show _ = _; unfold maE; rw [if_neg h48, if_pos hall, if_neg hg]
      have HM := hide (maB_no HE.out (by decide))
      have HG : Hid (good s.data.toList = false) := by show _ = _; simpa using hg
      have HP := hide hall
      clear hall hg
      go_enter Tryz.func35, Tryz.ntmps35
      go_wp2
      go_loop [6] (fun i => ∃ k : Nat, k ≤ p.size ∧ i = .int .i64 k) (fun i => p.size - (intOf i).toNat)
      case atStart => exact ⟨0, Nat.zero_le _, rfl⟩
      case round =>
        obtain ⟨k, hk, rfl⟩ := hrel
        by_cases hlt : k < p.size
        · have HB : Hid (pb p[k] = true) := by show _ = _; exact (List.all_eq_true.1 HP.out) p[k] (by show p.data[k] ∈ _; simp)
          rcases pb_cases p[k] HB.out with ⟨h1, h2, h3⟩ | ⟨h1, h2, h3⟩ | ⟨h1, h2, h3⟩ | ⟨h1, h2, h3, h4⟩ | ⟨h1, h2, h3, h4, h5⟩ | ⟨h1, h2, h3, h4, h5, h6⟩ | ⟨h1, h2, h3, h4, h5, h6, h7⟩
          · have HL := hide h1
            have HD := hide h2
            have HK0 := hide h3
            clear h1 h2 h3
            go_wp2_with (first | (go_at_call 63; refine (refLetter_any p[k] _).mono ?_; rintro e wx ⟨rfl, hwx⟩; subst wx; rw [HL.out]) | (go_at_call 37; refine (refDigit_any p[k] _).mono ?_; rintro e wx ⟨rfl, hwx⟩; subst wx; rw [HD.out]) | (go_at_call 64; refine (refMark_any p[k] _).mono ?_; rintro e wx ⟨rfl, hwx⟩; subst wx; rw [HK0.out]))
            go_round
            case rel => exact ⟨k + 1, by omega, by go_num⟩
            case measure => simp [intOf]; omega
          · have HL := hide h1
            have HD := hide h2
            have HK0 := hide h3
            clear h1 h2 h3
            go_wp2_with (first | (go_at_call 63; refine (refLetter_any p[k] _).mono ?_; rintro e wx ⟨rfl, hwx⟩; subst wx; rw [HL.out]) | (go_at_call 37; refine (refDigit_any p[k] _).mono ?_; rintro e wx ⟨rfl, hwx⟩; subst wx; rw [HD.out]) | (go_at_call 64; refine (refMark_any p[k] _).mono ?_; rintro e wx ⟨rfl, hwx⟩; subst wx; rw [HK0.out]))
            go_round
            case rel => exact ⟨k + 1, by omega, by go_num⟩
            case measure => simp [intOf]; omega
          · have HL := hide h1
            have HD := hide h2
            have HK0 := hide h3
            clear h1 h2 h3
            go_wp2_with (first | (go_at_call 63; refine (refLetter_any p[k] _).mono ?_; rintro e wx ⟨rfl, hwx⟩; subst wx; rw [HL.out]) | (go_at_call 37; refine (refDigit_any p[k] _).mono ?_; rintro e wx ⟨rfl, hwx⟩; subst wx; rw [HD.out]) | (go_at_call 64; refine (refMark_any p[k] _).mono ?_; rintro e wx ⟨rfl, hwx⟩; subst wx; rw [HK0.out]))
            go_round
            case rel => exact ⟨k + 1, by omega, by go_num⟩
            case measure => simp [intOf]; omega
          · have HL := hide h1
            have HD := hide h2
            have HK0 := hide h3
            clear h1 h2 h3
            go_wp2_with (first | (go_at_call 63; refine (refLetter_any p[k] _).mono ?_; rintro e wx ⟨rfl, hwx⟩; subst wx; rw [HL.out]) | (go_at_call 37; refine (refDigit_any p[k] _).mono ?_; rintro e wx ⟨rfl, hwx⟩; subst wx; rw [HD.out]) | (go_at_call 64; refine (refMark_any p[k] _).mono ?_; rintro e wx ⟨rfl, hwx⟩; subst wx; rw [HK0.out]))
            go_round
            case rel => exact ⟨k + 1, by omega, by go_num⟩
            case measure => simp [intOf]; omega
          · have HL := hide h1
            have HD := hide h2
            have HK0 := hide h3
            clear h1 h2 h3
            go_wp2_with (first | (go_at_call 63; refine (refLetter_any p[k] _).mono ?_; rintro e wx ⟨rfl, hwx⟩; subst wx; rw [HL.out]) | (go_at_call 37; refine (refDigit_any p[k] _).mono ?_; rintro e wx ⟨rfl, hwx⟩; subst wx; rw [HD.out]) | (go_at_call 64; refine (refMark_any p[k] _).mono ?_; rintro e wx ⟨rfl, hwx⟩; subst wx; rw [HK0.out]))
            go_round
            case rel => exact ⟨k + 1, by omega, by go_num⟩
            case measure => simp [intOf]; omega
          · have HL := hide h1
            have HD := hide h2
            have HK0 := hide h3
            clear h1 h2 h3
            go_wp2_with (first | (go_at_call 63; refine (refLetter_any p[k] _).mono ?_; rintro e wx ⟨rfl, hwx⟩; subst wx; rw [HL.out]) | (go_at_call 37; refine (refDigit_any p[k] _).mono ?_; rintro e wx ⟨rfl, hwx⟩; subst wx; rw [HD.out]) | (go_at_call 64; refine (refMark_any p[k] _).mono ?_; rintro e wx ⟨rfl, hwx⟩; subst wx; rw [HK0.out]))
            go_round
            case rel => exact ⟨k + 1, by omega, by go_num⟩
            case measure => simp [intOf]; omega
          · have HL := hide h1
            have HD := hide h2
            have HK0 := hide h3
            clear h1 h2 h3
            go_wp2_with (first | (go_at_call 63; refine (refLetter_any p[k] _).mono ?_; rintro e wx ⟨rfl, hwx⟩; subst wx; rw [HL.out]) | (go_at_call 37; refine (refDigit_any p[k] _).mono ?_; rintro e wx ⟨rfl, hwx⟩; subst wx; rw [HD.out]) | (go_at_call 64; refine (refMark_any p[k] _).mono ?_; rintro e wx ⟨rfl, hwx⟩; subst wx; rw [HK0.out]))
            go_round
            case rel => exact ⟨k + 1, by omega, by go_num⟩
            case measure => simp [intOf]; omega
        · go_wp2_with (go_at_call 24; refine (refGood_any s _ HSs.out).mono ?_; rintro e wx ⟨rfl, hwx⟩; subst wx; rw [HG.out])
          go_ret2
          exact ⟨ret_mb HM.out.symm HE.out.symm, HB0.out⟩
  · have HE : Hid (maE p s = 22) := by show _ = _; unfold maE; rw [if_neg h48, if_neg hall]
    have HM := hide (maB_no HE.out (by decide))
    have HA := hide hall
    clear hall
    go_enter Tryz.func35, Tryz.ntmps35
    go_wp2
    go_loop [6] (fun i => ∃ k : Nat, k ≤ p.size ∧ i = .int .i64 k ∧ Hid ((p.data.toList.take k).all pb = true)) (fun i => p.size - (intOf i).toNat)
    case atStart => exact ⟨0, Nat.zero_le _, rfl, rfl⟩
    case round =>
      obtain ⟨k, hk, rfl, HK⟩ := hrel
      by_cases hlt : k < p.size
      · obtain ⟨q, Hq⟩ : ∃ q, Hid (pb p[k] = q) := ⟨pb p[k], rfl⟩
        cases q with
        | true =>
          have HB := Hq
          have HT : Hid ((p.data.toList.take (k + 1)).all pb = true) := by
            show _ = _
            rw [take_snocB p k hlt, List.all_append, HK.out]
            simp only [List.all_cons, List.all_nil, Bool.and_true, Bool.true_and]
            exact Hq.out
          rcases pb_cases p[k] HB.out with ⟨h1, h2, h3⟩ | ⟨h1, h2, h3⟩ | ⟨h1, h2, h3⟩ | ⟨h1, h2, h3, h4⟩ | ⟨h1, h2, h3, h4, h5⟩ | ⟨h1, h2, h3, h4, h5, h6⟩ | ⟨h1, h2, h3, h4, h5, h6, h7⟩
          · have HL := hide h1
            have HD := hide h2
            have HK0 := hide h3
            clear h1 h2 h3
            go_wp2_with (first | (go_at_call 63; refine (refLetter_any p[k] _).mono ?_; rintro e wx ⟨rfl, hwx⟩; subst wx; rw [HL.out]) | (go_at_call 37; refine (refDigit_any p[k] _).mono ?_; rintro e wx ⟨rfl, hwx⟩; subst wx; rw [HD.out]) | (go_at_call 64; refine (refMark_any p[k] _).mono ?_; rintro e wx ⟨rfl, hwx⟩; subst wx; rw [HK0.out]))
            go_round
            case rel => exact ⟨k + 1, by omega, by go_num, HT⟩
            case measure => simp [intOf]; omega
          · have HL := hide h1
            have HD := hide h2
            have HK0 := hide h3
            clear h1 h2 h3
            go_wp2_with (first | (go_at_call 63; refine (refLetter_any p[k] _).mono ?_; rintro e wx ⟨rfl, hwx⟩; subst wx; rw [HL.out]) | (go_at_call 37; refine (refDigit_any p[k] _).mono ?_; rintro e wx ⟨rfl, hwx⟩; subst wx; rw [HD.out]) | (go_at_call 64; refine (refMark_any p[k] _).mono ?_; rintro e wx ⟨rfl, hwx⟩; subst wx; rw [HK0.out]))
            go_round
            case rel => exact ⟨k + 1, by omega, by go_num, HT⟩
            case measure => simp [intOf]; omega
          · have HL := hide h1
            have HD := hide h2
            have HK0 := hide h3
            clear h1 h2 h3
            go_wp2_with (first | (go_at_call 63; refine (refLetter_any p[k] _).mono ?_; rintro e wx ⟨rfl, hwx⟩; subst wx; rw [HL.out]) | (go_at_call 37; refine (refDigit_any p[k] _).mono ?_; rintro e wx ⟨rfl, hwx⟩; subst wx; rw [HD.out]) | (go_at_call 64; refine (refMark_any p[k] _).mono ?_; rintro e wx ⟨rfl, hwx⟩; subst wx; rw [HK0.out]))
            go_round
            case rel => exact ⟨k + 1, by omega, by go_num, HT⟩
            case measure => simp [intOf]; omega
          · have HL := hide h1
            have HD := hide h2
            have HK0 := hide h3
            clear h1 h2 h3
            go_wp2_with (first | (go_at_call 63; refine (refLetter_any p[k] _).mono ?_; rintro e wx ⟨rfl, hwx⟩; subst wx; rw [HL.out]) | (go_at_call 37; refine (refDigit_any p[k] _).mono ?_; rintro e wx ⟨rfl, hwx⟩; subst wx; rw [HD.out]) | (go_at_call 64; refine (refMark_any p[k] _).mono ?_; rintro e wx ⟨rfl, hwx⟩; subst wx; rw [HK0.out]))
            go_round
            case rel => exact ⟨k + 1, by omega, by go_num, HT⟩
            case measure => simp [intOf]; omega
          · have HL := hide h1
            have HD := hide h2
            have HK0 := hide h3
            clear h1 h2 h3
            go_wp2_with (first | (go_at_call 63; refine (refLetter_any p[k] _).mono ?_; rintro e wx ⟨rfl, hwx⟩; subst wx; rw [HL.out]) | (go_at_call 37; refine (refDigit_any p[k] _).mono ?_; rintro e wx ⟨rfl, hwx⟩; subst wx; rw [HD.out]) | (go_at_call 64; refine (refMark_any p[k] _).mono ?_; rintro e wx ⟨rfl, hwx⟩; subst wx; rw [HK0.out]))
            go_round
            case rel => exact ⟨k + 1, by omega, by go_num, HT⟩
            case measure => simp [intOf]; omega
          · have HL := hide h1
            have HD := hide h2
            have HK0 := hide h3
            clear h1 h2 h3
            go_wp2_with (first | (go_at_call 63; refine (refLetter_any p[k] _).mono ?_; rintro e wx ⟨rfl, hwx⟩; subst wx; rw [HL.out]) | (go_at_call 37; refine (refDigit_any p[k] _).mono ?_; rintro e wx ⟨rfl, hwx⟩; subst wx; rw [HD.out]) | (go_at_call 64; refine (refMark_any p[k] _).mono ?_; rintro e wx ⟨rfl, hwx⟩; subst wx; rw [HK0.out]))
            go_round
            case rel => exact ⟨k + 1, by omega, by go_num, HT⟩
            case measure => simp [intOf]; omega
          · have HL := hide h1
            have HD := hide h2
            have HK0 := hide h3
            clear h1 h2 h3
            go_wp2_with (first | (go_at_call 63; refine (refLetter_any p[k] _).mono ?_; rintro e wx ⟨rfl, hwx⟩; subst wx; rw [HL.out]) | (go_at_call 37; refine (refDigit_any p[k] _).mono ?_; rintro e wx ⟨rfl, hwx⟩; subst wx; rw [HD.out]) | (go_at_call 64; refine (refMark_any p[k] _).mono ?_; rintro e wx ⟨rfl, hwx⟩; subst wx; rw [HK0.out]))
            go_round
            case rel => exact ⟨k + 1, by omega, by go_num, HT⟩
            case measure => simp [intOf]; omega
        | false =>
          obtain ⟨h1, h2, h3, h4, h5, h6, h7⟩ := pb_none p[k] Hq.out
          have HL := hide h1
          have HD := hide h2
          have HK0 := hide h3
          clear h1 h2 h3
          go_wp2_with (first | (go_at_call 63; refine (refLetter_any p[k] _).mono ?_; rintro e wx ⟨rfl, hwx⟩; subst wx; rw [HL.out]) | (go_at_call 37; refine (refDigit_any p[k] _).mono ?_; rintro e wx ⟨rfl, hwx⟩; subst wx; rw [HD.out]) | (go_at_call 64; refine (refMark_any p[k] _).mono ?_; rintro e wx ⟨rfl, hwx⟩; subst wx; rw [HK0.out]))
          go_ret2
          exact ⟨ret_mb HM.out.symm HE.out.symm, HB0.out⟩
      · exact absurd (show p.data.toList.all pb = true by
          have e : p.data.toList.take k = p.data.toList := List.take_of_length_le (by rw [len_at]; omega)
          have := HK.out; rw [e] at this; exact this) HA.out
end Go.Proofs.YtnlklhjmhienkaaGreatDoor.M
