/- The reference's numberOf. -/
import Derived.Test.YtpnnlfhknnnfhaaGreatDoorKPa
import Derived.Test.YtpnnlfhknnnfhaaGreatDoorJPd
namespace Go.Proofs.YtpnnlfhknnnfhaaGreatDoor
open Go.RowKit T Y
variable {w w' w2 : World} {g : Nat}

/-- what digits say -/
def dval (d : List UInt8) : Nat := d.foldl (fun a c => 10 * a + (c.toNat - 48)) 0
def dgs (d : List UInt8) : Prop := ∀ c ∈ d, 48 ≤ c.toNat ∧ c.toNat ≤ 57
theorem dval_snoc (d : List UInt8) (c : UInt8) : dval (d ++ [c]) = 10 * dval d + (c.toNat - 48) := by
  unfold dval
  rw [List.foldl_append]
  rfl
theorem dval_take (d : List UInt8) (i : Nat) (h : i < d.length) : dval (d.take (i + 1)) = 10 * dval (d.take i) + ((d.getD i 0).toNat - 48) := by
  rw [List.take_succ_eq_append_getElem h, dval_snoc]
  simp [List.getD, h]
theorem dval_mono (d : List UInt8) : ∀ (k i : Nat), dval (d.take i) ≤ dval (d.take (i + k))
  | 0, i => Nat.le_refl _
  | k + 1, i => by
    refine Nat.le_trans (dval_mono d k i) ?_
    rw [show i + (k + 1) = (i + k) + 1 by omega]
    by_cases h : i + k < d.length
    · rw [dval_take d _ h]; omega
    · rw [List.take_of_length_le (by omega : d.length ≤ i + k), List.take_of_length_le (by omega : d.length ≤ i + k + 1)]
      exact Nat.le_refl _
theorem dval_le (d : List UInt8) (i : Nat) : dval (d.take i) ≤ dval d := by
  have := dval_mono d d.length i
  rwa [List.take_of_length_le (by omega : d.length ≤ i + d.length)] at this
theorem dec_dval : ∀ (m : Nat) (d : List UInt8), d.length = m → d ≠ [] → dgs d → (d.head? = some 48 → d.length = 1) → Lib.decDigits (dval d) = d
  | 0, d, hm, h0, _, _ => absurd (List.length_eq_zero_iff.1 hm) h0
  | m + 1, d, hm, h0, hd, hz => by
    obtain ⟨e, c, rfl⟩ : ∃ e c, d = e ++ [c] := ⟨d.dropLast, d.getLast h0, (List.dropLast_concat_getLast h0).symm⟩
    have hc := hd c (by simp)
    have hk : UInt8.ofNat (48 + (c.toNat - 48)) = c := by
      rw [show 48 + (c.toNat - 48) = c.toNat by omega]
      simp
    by_cases he : e = []
    · subst he
      have : dval ([] ++ [c]) = c.toNat - 48 := by rw [dval_snoc]; simp [dval]
      rw [this, Lib.decDigits, dif_pos (by omega), hk]
      rfl
    · have hl : e.length = m := by simp at hm; exact hm
      have hh : (e ++ [c]).head? = e.head? := by
        cases e with
        | nil => exact absurd rfl he
        | cons x y => rfl
      have hlen : (e ++ [c]).length ≠ 1 := by
        have := List.length_pos_iff.2 he
        simp; omega
      have hz2 : e.head? ≠ some 48 := fun h => hlen (hz (hh.trans h))
      have ih := dec_dval m e hl he (fun x hx => hd x (by simp [hx])) (fun h => absurd h hz2)
      have hv : dval e ≠ 0 := by
        intro h
        rw [h] at ih
        have h48 : Lib.decDigits 0 = [48] := by rw [Lib.decDigits]; rfl
        rw [h48] at ih
        rw [← ih] at hz2
        exact hz2 rfl
      rw [dval_snoc, Lib.decDigits, dif_neg (by omega), show (10 * dval e + (c.toNat - 48)) / 10 = dval e by omega, show (10 * dval e + (c.toNat - 48)) % 10 = c.toNat - 48 by omega, ih, hk]
theorem dval_dec : ∀ (u : Nat), dval (Lib.decDigits u) = u := by
  intro u
  induction u using Nat.strongRecOn with
  | _ u ih =>
    by_cases h : u < 10
    · rw [Lib.decDigits, dif_pos h]
      have := dval_snoc [] (UInt8.ofNat (48 + u))
      rw [List.nil_append] at this
      rw [this, dig_nat u h]
      simp [dval]
    · rw [Lib.decDigits, dif_neg h, dval_snoc, ih _ (by omega), dig_nat _ (by omega)]
      omega
theorem dec_head : ∀ (u : Nat), (Lib.decDigits u).head? = some 48 → u = 0 := by
  intro u
  induction u using Nat.strongRecOn with
  | _ u ih =>
    intro hh
    by_cases h : u < 10
    · rw [Lib.decDigits, dif_pos h] at hh
      have e := congrArg UInt8.toNat (Option.some.inj hh)
      rw [dig_nat u h] at e
      simp at e
      exact e
    · rw [Lib.decDigits, dif_neg h] at hh
      have hne := dec_ne (u / 10)
      have := ih (u / 10) (by omega) (by
        cases hq : Lib.decDigits (u / 10) with
        | nil => exact absurd hq hne
        | cons x y => rw [hq] at hh; exact hh)
      omega
theorem dec_len : ∀ (k u : Nat), u < 10 ^ (k + 1) → (Lib.decDigits u).length ≤ k + 1
  | 0, u, h => by rw [Lib.decDigits, dif_pos (by omega)]; simp
  | k + 1, u, h => by
    by_cases h1 : u < 10
    · rw [Lib.decDigits, dif_pos h1]; simp
    · rw [Lib.decDigits, dif_neg h1]
      have := dec_len k (u / 10) (by rw [Nat.pow_succ] at h; omega)
      simp
      omega
/-- the word's digits -/
def ndig (w : List UInt8) : List UInt8 := if w.head? = some 45 then w.drop 1 else w
/-- a number word as the reference reads it -/
def NOk (neg : Prop) (d : List UInt8) : Prop := d ≠ [] ∧ d.length ≤ 19 ∧ (d.head? = some 48 → ¬ neg ∧ d.length = 1) ∧ dgs d ∧ dval d ≤ 9223372036854775808 ∧ (¬ neg → dval d ≠ 9223372036854775808)
theorem numOf_iff (w : List UInt8) (n : Int) : numOf w = some n ↔ num n = w ∧ -9223372036854775808 ≤ n ∧ n ≤ 9223372036854775807 := by
  constructor
  · intro h
    obtain ⟨h1, h2⟩ := numOf_eq h
    refine ⟨h1, ?_⟩
    rw [← h1] at h2
    unfold num Lib.itoa at h2
    by_cases hn : n < 0
    · rw [if_pos hn, Lib.atoiAll_minus] at h2
      unfold Lib.signed at h2
      repeat' split at h2
      all_goals first | (cases h2; done) | (simp at h2; omega) | skip
    · rw [if_neg hn] at h2
      obtain ⟨c, r, e⟩ : ∃ c r, Lib.decDigits n.toNat = c :: r := by
        cases h : Lib.decDigits n.toNat with
        | nil => exact absurd h (dec_ne _)
        | cons c r => exact ⟨c, r, rfl⟩
      have hc := dec_digits n.toNat c (by rw [e]; simp)
      rw [e, Lib.atoiAll_plain c r (by omega) (by omega)] at h2
      unfold Lib.signless at h2
      repeat' split at h2
      all_goals first | (cases h2; done) | (simp at h2; omega) | skip
  · rintro ⟨rfl, h0, h1⟩
    exact numOf_num n h0 h1
theorem numOf_neg {w : List UInt8} (hw : w.head? = some 45) (h : NOk True (ndig w)) : numOf w = some (-(dval (ndig w) : Int)) := by
  rw [numOf_iff]
  obtain ⟨h0, h1, h2, h3, h4, _⟩ := h
  have hd : ndig w = w.drop 1 := by unfold ndig; rw [if_pos hw]
  have hwe : w = 45 :: ndig w := by
    rw [hd]
    cases w with
    | nil => cases hw
    | cons x y => have := Option.some.inj hw; subst this; rfl
  have hdec := dec_dval _ (ndig w) rfl h0 h3 (fun h => (h2 h).2)
  have hv : dval (ndig w) ≠ 0 := by
    intro h
    rw [h] at hdec
    have h48 : Lib.decDigits 0 = [48] := by rw [Lib.decDigits]; rfl
    rw [h48] at hdec
    exact (h2 (by rw [← hdec]; rfl)).1 trivial
  refine ⟨?_, by omega, by omega⟩
  unfold num Lib.itoa
  rw [if_pos (by omega), Int.natAbs_neg, Int.natAbs_natCast, hdec]
  exact hwe.symm
theorem numOf_pos {w : List UInt8} (hw : w.head? ≠ some 45) (h : NOk False (ndig w)) : numOf w = some (dval (ndig w) : Int) := by
  rw [numOf_iff]
  obtain ⟨h0, h1, h2, h3, h4, h5⟩ := h
  have hd : ndig w = w := by unfold ndig; rw [if_neg hw]
  have hdec := dec_dval _ (ndig w) rfl h0 h3 (fun h => (h2 h).2)
  have := h5 (fun h => h)
  refine ⟨?_, by omega, by omega⟩
  unfold num Lib.itoa
  rw [if_neg (by omega), Int.toNat_natCast, hdec, hd]
theorem numOf_no {w : List UInt8} (h : ¬ NOk (w.head? = some 45) (ndig w)) : numOf w = none := by
  cases hq : numOf w with
  | none => rfl
  | some n =>
    exfalso
    obtain ⟨h1, h2, h3⟩ := (numOf_iff w n).1 hq
    apply h
    subst h1
    unfold num Lib.itoa
    by_cases hn : n < 0
    · rw [if_pos hn]
      have e : ndig (45 :: Lib.decDigits n.natAbs) = Lib.decDigits n.natAbs := by unfold ndig; exact if_pos rfl
      rw [e]
      refine ⟨dec_ne _, dec_len 18 _ (by omega), fun h => ?_, fun c hc => dec_digits _ c hc, by rw [dval_dec]; omega, fun h => absurd rfl h⟩
      have := dec_head _ h
      omega
    · rw [if_neg hn]
      have hh : (Lib.decDigits n.toNat).head? ≠ some 45 := by
        intro h
        have := dec_digits n.toNat 45 (by
          cases hq : Lib.decDigits n.toNat with
          | nil => rw [hq] at h; cases h
          | cons x y => rw [hq] at h; have := Option.some.inj h; subst this; simp)
        have e : (45 : UInt8).toNat = 45 := rfl
        omega
      have e : ndig (Lib.decDigits n.toNat) = Lib.decDigits n.toNat := by unfold ndig; rw [if_neg hh]
      rw [e]
      refine ⟨dec_ne _, dec_len 18 _ (by omega), fun h => ⟨hh, ?_⟩, fun c hc => dec_digits _ c hc, by rw [dval_dec]; omega, fun _ => by rw [dval_dec]; omega⟩
      have h0 := dec_head _ h
      rw [h0, Lib.decDigits]
      rfl
theorem nb_q (k : Nat) (hk : k ≤ 9) : -922337203685477580 ≤ Int.tdiv (-9223372036854775808 + (k : Int)) 10 ∧ Int.tdiv (-9223372036854775808 + (k : Int)) 10 ≤ 0 := by
  have e : Int.tdiv (-9223372036854775808 + (k : Int)) 10 = -(((9223372036854775808 - k) / 10 : Nat) : Int) := by
    rw [show (-9223372036854775808 + (k : Int)) = -((9223372036854775808 - k : Nat) : Int) by omega, Int.neg_tdiv]
    congr 1
  rw [e]
  omega
theorem nb_quo (v k : Nat) (hk : k ≤ 9) (_ : v ≤ 9223372036854775808) : (-(v : Int) < Int.tdiv (-9223372036854775808 + (k : Int)) 10) ↔ 9223372036854775808 < 10 * v + k := by
  have e : Int.tdiv (-9223372036854775808 + (k : Int)) 10 = -(((9223372036854775808 - k) / 10 : Nat) : Int) := by
    rw [show (-9223372036854775808 + (k : Int)) = -((9223372036854775808 - k : Nat) : Int) by omega, Int.neg_tdiv]
    congr 1
  rw [e]
  omega
theorem NOk_no1 {P : Prop} {d : List UInt8} (h : d = []) : ¬ NOk P d := fun hh => hh.1 h
theorem NOk_no2 {P : Prop} {d : List UInt8} (h : 19 < d.length) : ¬ NOk P d := fun hh => by have := hh.2.1; omega
theorem NOk_no3 {P : Prop} {d : List UInt8} {c : UInt8} {i : Nat} (hi : i < d.length) (hc : d.getD i 0 = c) (h : c.toNat < 48 ∨ 57 < c.toNat) : ¬ NOk P d := fun hh => by
  have := hh.2.2.2.1 c (by rw [← hc]; simp [List.getD, hi])
  omega
theorem NOk_no4 {P : Prop} {d : List UInt8} {i : Nat} (h : 9223372036854775808 < dval (d.take i)) : ¬ NOk P d := fun hh => by
  have := hh.2.2.2.2.1
  have := dval_le d i
  omega
theorem dgs_step {d : List UInt8} {i : Nat} (h : dgs (d.take i)) (hi : i < d.length) (h2 : 48 ≤ (d.getD i 0).toNat ∧ (d.getD i 0).toNat ≤ 57) : dgs (d.take (i + 1)) := by
  intro c hc
  rw [List.take_succ_eq_append_getElem hi] at hc
  rcases List.mem_append.1 hc with hc | hc
  · exact h c hc
  · simp only [List.mem_singleton] at hc
    subst hc
    simpa [List.getD, hi] using h2
/-- numberOf's answer -/
def NuA (l : List UInt8) (e : Ending) : Prop := e = .returned (.tuple #[.int .i64 ((numOf l).getD 0), .bool (numOf l).isSome])
theorem NuA.no {l : List UInt8} (h : numOf l = none) : NuA l (.returned (.tuple #[.int .i64 0, .bool false])) := by unfold NuA; rw [h]; rfl
theorem NuA.yes {l : List UInt8} {n : Int} (h : numOf l = some n) : NuA l (.returned (.tuple #[.int .i64 n, .bool true])) := by unfold NuA; rw [h]; rfl
set_option maxRecDepth 100000 in
set_option maxHeartbeats 3200000 in
theorem rnum_neg (l d : List UInt8) (hld : l = 45 :: d) (hl : l.length ≤ 1000000000000) (w : World) : Calls Tryz.prog 25 #[.string (bs l)] w fun e w' => NuA l e ∧ w' = w := by
  have hnd : ndig l = d := by rw [hld]; unfold ndig; exact if_pos rfl
  have hneg : l.head? = some 45 := by rw [hld]; rfl
  have HNo : Hid (¬ NOk True d → numOf l = none) := fun h => numOf_no (by rw [hnd, hneg]; simpa using h)
  have HYes : Hid (NOk True d → numOf l = some (-(dval d : Int))) := fun h => by have := numOf_neg hneg (by rw [hnd]; exact h); rw [hnd] at this; exact this
  obtain ⟨s, hs⟩ : ∃ s, bs l = s := ⟨_, rfl⟩
  obtain ⟨sD, hsD⟩ : ∃ sD, bs d = sD := ⟨_, rfl⟩
  have hsz : s.size = d.length + 1 := by rw [← hs, bs_size, hld]; rfl
  have hx2 : s.extract 1 s.size = sD := by rw [← hs, bs_cut, bs_size, List.take_length, hld, ← hsD]; rfl
  have hsDz : sD.size = d.length := by rw [← hsD, bs_size]
  have hdl : d.length ≤ 1000000000000 := by rw [hld] at hl; simp at hl; omega
  have h0 : 0 < s.size := by omega
  have hb0 : s[0] = 45 := by
    have := bs_get l 0 (by rw [hs]; exact h0)
    subst hs
    rw [this, hld]
    rfl
  have HD : Hid (∀ i (h : i < sD.size), sD[i] = d.getD i 0) := by subst hsD; exact bs_get _
  have HZ := hide hsDz
  have hsb : sD.size ≤ 1000000000000 := by omega
  have hssb : s.size ≤ 1000000000001 := by omega
  rw [hs]
  clear hs hld hl hneg hnd hsD
  by_cases hd0 : d = []
  · have hs0 : sD.size = 0 := by rw [hsDz, hd0]; rfl
    have hs1 : s.size = 1 := by rw [hsz, hd0]; rfl
    have HE := hide (HNo.out (NOk_no1 hd0))
    clear hd0 hsz hsDz
    go_enter Tryz.func25, Tryz.ntmps25
    go_wp2_with fail
    go_ret2
    exact ⟨NuA.no HE.out, rfl⟩
  · have hd1 : 0 < sD.size := by rw [hsDz]; exact List.length_pos_iff.2 hd0
    have hd1n : ¬ sD.size = 0 := by omega
    by_cases h19 : 19 < sD.size
    · have h19I : (19 : Int) < sD.size := by omega
      have HE := hide (HNo.out (NOk_no2 (by omega)))
      clear hd0 hsz hsDz
      go_enter Tryz.func25, Tryz.ntmps25
      go_wp2_with fail
      go_ret2
      exact ⟨NuA.no HE.out, rfl⟩
    · have h19I : ¬ (19 : Int) < sD.size := by omega
      obtain ⟨y, hy⟩ : ∃ y, sD[0] = y := ⟨_, rfl⟩
      have hy2 : d.getD 0 0 = y := by rw [← hy, HD.out 0 hd1]
      have hyh : d.head? = some y := by
        cases d with
        | nil => exact absurd rfl hd0
        | cons a b => rw [← hy2]; rfl
      have Hd19 : Hid (d.length ≤ 19) := by show _ ≤ _; omega
      by_cases hz : y = 48
      · have hyE : ((y.toNat : Int) == 48) = true := by rw [hz]; rfl
        have HE := hide (HNo.out (fun hh => (hh.2.2.1 (by rw [hyh, hz])).1 trivial))
        clear hd0 hsz hsDz hz hyh hy2
        go_enter Tryz.func25, Tryz.ntmps25
        go_wp2_with fail
        go_ret2
        exact ⟨NuA.no HE.out, rfl⟩
      · have hyE : ((y.toNat : Int) == 48) = false := by
          rw [beq_eq_false_iff_ne]
          intro e
          exact hz (UInt8.toNat_inj.1 (by show y.toNat = 48; omega))
        have Hhd : Hid (d.head? = some 48 → ¬ True ∧ d.length = 1) := fun h => absurd (Option.some.inj (hyh.symm.trans h)) hz
        have Hne := hide hd0
        clear hd0 hsz hsDz hz hyh hy2
        go_enter Tryz.func25, Tryz.ntmps25
        go_wp2_with fail
        have HN0 : Hid (∀ i (h : i < sD.size), sD[i] = d.getD i 0) := HD
        go_loop [6, 7] (fun y z => ∃ i : Nat, i ≤ sD.size ∧ y = .int .i64 (-(dval (d.take i) : Int)) ∧ z = .int .i64 (i : Int) ∧ Hid (dgs (d.take i)) ∧ dval (d.take i) ≤ 9223372036854775808) (fun _ z => sD.size - (intOf z).toNat)
        case atStart => exact ⟨0, by omega, rfl, rfl, (fun c hc => by simp at hc), by simp [dval]⟩
        case round =>
          obtain ⟨i, hi, rfl, rfl, HG, hv⟩ := hrel
          by_cases hlt : i < sD.size
          · obtain ⟨x, hx⟩ : ∃ x, sD[i] = x := ⟨_, rfl⟩
            have hxd : d.getD i 0 = x := by rw [← hx, HD.out i hlt]
            have Hxd := hide hxd
            have hiI : (i : Int) < sD.size := by omega
            have hil : i < d.length := by have := HZ.out; omega
            by_cases h48 : x.toNat < 48
            · have h1 : (x.toNat : Int) < 48 := by omega
              have HE := hide (HNo.out (NOk_no3 hil hxd (Or.inl h48)))
              clear hxd Hxd hil
              go_wp2_with fail
              go_ret2
              exact ⟨NuA.no HE.out, rfl⟩
            · by_cases h57 : 57 < x.toNat
              · have h1 : ¬ (x.toNat : Int) < 48 := by omega
                have h2 : (57 : Int) < (x.toNat : Int) := by omega
                have HE := hide (HNo.out (NOk_no3 hil hxd (Or.inr h57)))
                clear hxd Hxd hil h48 h57
                go_wp2_with fail
                go_ret2
                exact ⟨NuA.no HE.out, rfl⟩
              · obtain ⟨k, hk⟩ : ∃ k, x.toNat = 48 + k := ⟨x.toNat - 48, by omega⟩
                have hk9 : k ≤ 9 := by omega
                have h1 : ¬ (x.toNat : Int) < 48 := by omega
                have h2 : ¬ (57 : Int) < (x.toNat : Int) := by omega
                obtain ⟨v, hvv⟩ : ∃ v, dval (d.take i) = v := ⟨_, rfl⟩
                have Hs : Hid (dval (d.take (i + 1)) = 10 * v + k) := by show _ = _; rw [dval_take d i hil, hvv, hxd, hk]; omega
                have HG2 : Hid (dgs (d.take (i + 1))) := dgs_step HG.out hil (by rw [hxd]; omega)
                rw [hvv] at hv
                have e1 : IntKind.u8.wrap ((x.toNat : Int) - 48) = (k : Int) := by rw [wrap8 _ (by omega) (by omega)]; omega
                have e2 : wrap64 (k : Int) = (k : Int) := by unfold wrap64; omega
                have e3 : wrap64 (-9223372036854775808 + (k : Int)) = -9223372036854775808 + (k : Int) := by unfold wrap64; omega
                rw [hvv]
                by_cases hov : 9223372036854775808 < 10 * v + k
                · have h3 : (-(v : Int) < Int.tdiv (-9223372036854775808 + (k : Int)) 10) := (nb_quo v k hk9 hv).2 hov
                  have HE := hide (HNo.out (NOk_no4 (i := i + 1) (by rw [Hs.out]; exact hov)))
                  obtain ⟨q, hq⟩ : ∃ q, Int.tdiv (-9223372036854775808 + (k : Int)) 10 = q := ⟨_, rfl⟩
                  have hqb : -922337203685477580 ≤ q ∧ q ≤ 0 := by rw [← hq]; exact nb_q k hk9
                  rw [hq] at h3
                  have e4 : wrap64 q = q := by unfold wrap64; omega
                  clear hxd Hxd hil h48 h57 hk hov hvv HG2 Hs HG
                  go_wp2_with fail
                  go_ret2
                  exact ⟨NuA.no HE.out, rfl⟩
                · have h3 : ¬ (-(v : Int) < Int.tdiv (-9223372036854775808 + (k : Int)) 10) := fun h => hov ((nb_quo v k hk9 hv).1 h)
                  obtain ⟨q, hq⟩ : ∃ q, Int.tdiv (-9223372036854775808 + (k : Int)) 10 = q := ⟨_, rfl⟩
                  have hqb : -922337203685477580 ≤ q ∧ q ≤ 0 := by rw [← hq]; exact nb_q k hk9
                  rw [hq] at h3
                  have e4 : wrap64 q = q := by unfold wrap64; omega
                  have e5 : wrap64 (10 * -(v : Int)) = 10 * -(v : Int) := by unfold wrap64; omega
                  have h6 : ¬ (10 * -(v : Int) < -9223372036854775808 + (k : Int)) := by omega
                  have e7 : wrap64 (10 * -(v : Int) - (k : Int)) = -((10 * v + k : Nat) : Int) := by unfold wrap64; omega
                  have hvn : 10 * v + k ≤ 9223372036854775808 := by omega
                  obtain ⟨v2, hv2⟩ : ∃ v2, 10 * v + k = v2 := ⟨_, rfl⟩
                  rw [hv2] at e7 Hs hvn
                  have Hv2 := hide hv2
                  clear hxd Hxd hil h48 h57 hk hov hvv HG hv2
                  go_wp2_with fail
                  go_round
                  case rel => exact ⟨i + 1, by omega, by rw [Hs.out]; congr 1; have := Hv2.out; omega, by go_num, HG2, by rw [Hs.out]; exact hvn⟩
                  case measure => simp [intOf]; omega
          · have hks : ¬ (i : Int) < sD.size := by omega
            have hdl : d.take i = d := List.take_of_length_le (by have := HZ.out; omega)
            rw [hdl] at HG hv
            rw [hdl]
            have HE := hide (HYes.out ⟨Hne.out, Hd19.out, Hhd.out, HG.out, hv, fun h => absurd trivial h⟩)
            go_wp2_with fail
            go_ret2
            exact ⟨NuA.yes HE.out, rfl⟩
set_option maxRecDepth 100000 in
set_option maxHeartbeats 3200000 in
theorem rnum_pos (l : List UInt8) (hneg : l.head? ≠ some 45) (hl : l.length ≤ 1000000000000) (w : World) : Calls Tryz.prog 25 #[.string (bs l)] w fun e w' => NuA l e ∧ w' = w := by
  obtain ⟨d, hd⟩ : ∃ d, l = d := ⟨_, rfl⟩
  have hnd : ndig l = d := by unfold ndig; rw [if_neg hneg, hd]
  have HNo : Hid (¬ NOk False d → numOf l = none) := fun h => numOf_no (by rw [hnd]; simpa [hneg] using h)
  have HYes : Hid (NOk False d → numOf l = some (dval d : Int)) := fun h => by have := numOf_pos hneg (by rw [hnd]; exact h); rw [hnd] at this; exact this
  obtain ⟨sD, hsD⟩ : ∃ sD, bs l = sD := ⟨_, rfl⟩
  have hsDz : sD.size = d.length := by rw [← hsD, bs_size, hd]
  have hdl : d.length ≤ 1000000000000 := by rw [← hd]; exact hl
  have HD : Hid (∀ i (h : i < sD.size), sD[i] = d.getD i 0) := by subst hsD; rw [← hd]; exact bs_get _
  have HZ := hide hsDz
  have hsb : sD.size ≤ 1000000000000 := by omega
  rw [hsD]
  rw [hd] at hneg
  clear hsD hl hnd hd
  by_cases hd0 : d = []
  · have hs0 : sD.size = 0 := by rw [hsDz, hd0]; rfl
    have HE := hide (HNo.out (NOk_no1 hd0))
    clear hd0 hsDz hneg
    go_enter Tryz.func25, Tryz.ntmps25
    go_wp2_with fail
    go_ret2
    exact ⟨NuA.no HE.out, rfl⟩
  · have hd1 : 0 < sD.size := by rw [hsDz]; exact List.length_pos_iff.2 hd0
    have hd1n : ¬ sD.size = 0 := by omega
    obtain ⟨y, hy⟩ : ∃ y, sD[0] = y := ⟨_, rfl⟩
    have hy2 : d.getD 0 0 = y := by rw [← hy, HD.out 0 hd1]
    have hyh : d.head? = some y := by
      cases d with
      | nil => exact absurd rfl hd0
      | cons a b => rw [← hy2]; rfl
    have hy45 : ((y.toNat : Int) == 45) = false := by
      rw [beq_eq_false_iff_ne]
      intro e
      exact hneg (by rw [hyh]; congr 1; exact UInt8.toNat_inj.1 (by show y.toNat = 45; omega))
    by_cases h19 : 19 < sD.size
    · have h19I : (19 : Int) < sD.size := by omega
      have HE := hide (HNo.out (NOk_no2 (by omega)))
      clear hd0 hsDz hneg hyh hy2
      go_enter Tryz.func25, Tryz.ntmps25
      go_wp2_with fail
      go_ret2
      exact ⟨NuA.no HE.out, rfl⟩
    · have h19I : ¬ (19 : Int) < sD.size := by omega
      have Hd19 : Hid (d.length ≤ 19) := by show _ ≤ _; omega
      by_cases hz : y = 48 ∧ 1 < sD.size
      · have hyE : ((y.toNat : Int) == 48) = true := by rw [hz.1]; rfl
        have h1I : (1 : Int) < sD.size := by omega
        have HE := hide (HNo.out (fun hh => by have := (hh.2.2.1 (by rw [hyh, hz.1])).2; omega))
        clear hd0 hsDz hz hyh hy2 hneg
        go_enter Tryz.func25, Tryz.ntmps25
        go_wp2_with fail
        go_ret2
        exact ⟨NuA.no HE.out, rfl⟩
      · have Hhd : Hid (d.head? = some 48 → ¬ False ∧ d.length = 1) := fun h => ⟨fun h => h, by
          have e : y = 48 := Option.some.inj (hyh.symm.trans h)
          have : ¬ 1 < sD.size := fun h1 => hz ⟨e, h1⟩
          omega⟩
        have Hne := hide hd0
        have HC : Hid (((y.toNat : Int) == 48) = false ∨ ((y.toNat : Int) == 48) = true ∧ ¬ (1 : Int) < sD.size) := by
          by_cases h48 : y = 48
          · exact Or.inr ⟨by rw [h48]; rfl, fun h1 => hz ⟨h48, by omega⟩⟩
          · refine Or.inl ?_
            rw [beq_eq_false_iff_ne]
            intro e
            exact h48 (UInt8.toNat_inj.1 (by show y.toNat = 48; omega))
        clear hd0 hsDz hz hyh hy2 hneg
        rcases HC.out with hyE | ⟨hyE, h1I⟩
        · clear HC
          go_enter Tryz.func25, Tryz.ntmps25
          go_wp2_with fail
          have HN0 : Hid (∀ i (h : i < sD.size), sD[i] = d.getD i 0) := HD
          go_loop [6, 7] (fun y z => ∃ i : Nat, i ≤ sD.size ∧ y = .int .i64 (-(dval (d.take i) : Int)) ∧ z = .int .i64 (i : Int) ∧ Hid (dgs (d.take i)) ∧ dval (d.take i) ≤ 9223372036854775808) (fun _ z => sD.size - (intOf z).toNat)
          case atStart => exact ⟨0, by omega, rfl, rfl, (fun c hc => by simp at hc), by simp [dval]⟩
          case round =>
            obtain ⟨i, hi, rfl, rfl, HG, hv⟩ := hrel
            by_cases hlt : i < sD.size
            · obtain ⟨x, hx⟩ : ∃ x, sD[i] = x := ⟨_, rfl⟩
              have hxd : d.getD i 0 = x := by rw [← hx, HD.out i hlt]
              have Hxd := hide hxd
              have hiI : (i : Int) < sD.size := by omega
              have hil : i < d.length := by have := HZ.out; omega
              by_cases h48 : x.toNat < 48
              · have h1 : (x.toNat : Int) < 48 := by omega
                have HE := hide (HNo.out (NOk_no3 hil hxd (Or.inl h48)))
                clear hxd Hxd hil
                go_wp2_with fail
                go_ret2
                exact ⟨NuA.no HE.out, rfl⟩
              · by_cases h57 : 57 < x.toNat
                · have h1 : ¬ (x.toNat : Int) < 48 := by omega
                  have h2 : (57 : Int) < (x.toNat : Int) := by omega
                  have HE := hide (HNo.out (NOk_no3 hil hxd (Or.inr h57)))
                  clear hxd Hxd hil h48 h57
                  go_wp2_with fail
                  go_ret2
                  exact ⟨NuA.no HE.out, rfl⟩
                · obtain ⟨k, hk⟩ : ∃ k, x.toNat = 48 + k := ⟨x.toNat - 48, by omega⟩
                  have hk9 : k ≤ 9 := by omega
                  have h1 : ¬ (x.toNat : Int) < 48 := by omega
                  have h2 : ¬ (57 : Int) < (x.toNat : Int) := by omega
                  obtain ⟨v, hvv⟩ : ∃ v, dval (d.take i) = v := ⟨_, rfl⟩
                  have Hs : Hid (dval (d.take (i + 1)) = 10 * v + k) := by show _ = _; rw [dval_take d i hil, hvv, hxd, hk]; omega
                  have HG2 : Hid (dgs (d.take (i + 1))) := dgs_step HG.out hil (by rw [hxd]; omega)
                  rw [hvv] at hv
                  have e1 : IntKind.u8.wrap ((x.toNat : Int) - 48) = (k : Int) := by rw [wrap8 _ (by omega) (by omega)]; omega
                  have e2 : wrap64 (k : Int) = (k : Int) := by unfold wrap64; omega
                  have e3 : wrap64 (-9223372036854775808 + (k : Int)) = -9223372036854775808 + (k : Int) := by unfold wrap64; omega
                  rw [hvv]
                  by_cases hov : 9223372036854775808 < 10 * v + k
                  · have h3 : (-(v : Int) < Int.tdiv (-9223372036854775808 + (k : Int)) 10) := (nb_quo v k hk9 hv).2 hov
                    have HE := hide (HNo.out (NOk_no4 (i := i + 1) (by rw [Hs.out]; exact hov)))
                    obtain ⟨q, hq⟩ : ∃ q, Int.tdiv (-9223372036854775808 + (k : Int)) 10 = q := ⟨_, rfl⟩
                    have hqb : -922337203685477580 ≤ q ∧ q ≤ 0 := by rw [← hq]; exact nb_q k hk9
                    rw [hq] at h3
                    have e4 : wrap64 q = q := by unfold wrap64; omega
                    clear hxd Hxd hil h48 h57 hk hov hvv HG2 Hs HG
                    go_wp2_with fail
                    go_ret2
                    exact ⟨NuA.no HE.out, rfl⟩
                  · have h3 : ¬ (-(v : Int) < Int.tdiv (-9223372036854775808 + (k : Int)) 10) := fun h => hov ((nb_quo v k hk9 hv).1 h)
                    obtain ⟨q, hq⟩ : ∃ q, Int.tdiv (-9223372036854775808 + (k : Int)) 10 = q := ⟨_, rfl⟩
                    have hqb : -922337203685477580 ≤ q ∧ q ≤ 0 := by rw [← hq]; exact nb_q k hk9
                    rw [hq] at h3
                    have e4 : wrap64 q = q := by unfold wrap64; omega
                    have e5 : wrap64 (10 * -(v : Int)) = 10 * -(v : Int) := by unfold wrap64; omega
                    have h6 : ¬ (10 * -(v : Int) < -9223372036854775808 + (k : Int)) := by omega
                    have e7 : wrap64 (10 * -(v : Int) - (k : Int)) = -((10 * v + k : Nat) : Int) := by unfold wrap64; omega
                    have hvn : 10 * v + k ≤ 9223372036854775808 := by omega
                    obtain ⟨v2, hv2⟩ : ∃ v2, 10 * v + k = v2 := ⟨_, rfl⟩
                    rw [hv2] at e7 Hs hvn
                    have Hv2 := hide hv2
                    clear hxd Hxd hil h48 h57 hk hov hvv HG hv2
                    go_wp2_with fail
                    go_round
                    case rel => exact ⟨i + 1, by omega, by rw [Hs.out]; congr 1; have := Hv2.out; omega, by go_num, HG2, by rw [Hs.out]; exact hvn⟩
                    case measure => simp [intOf]; omega
            · have hks : ¬ (i : Int) < sD.size := by omega
              have hdl : d.take i = d := List.take_of_length_le (by have := HZ.out; omega)
              rw [hdl] at HG hv
              rw [hdl]
              by_cases hmx : dval d = 9223372036854775808
              · have HE := hide (HNo.out (fun hh => hh.2.2.2.2.2 (fun h => h) hmx))
                rw [hmx]
                clear hmx hv
                go_wp2_with fail
                go_ret2
                exact ⟨NuA.no HE.out, rfl⟩
              · have HE := hide (HYes.out ⟨Hne.out, Hd19.out, Hhd.out, HG.out, hv, fun _ => hmx⟩)
                obtain ⟨v, hvv⟩ : ∃ v, dval d = v := ⟨_, rfl⟩
                rw [hvv] at hv hmx HE
                rw [hvv]
                have hb : (-(v : Int) == -9223372036854775808) = false := by rw [beq_eq_false_iff_ne]; omega
                have e9 : wrap64 (v : Int) = (v : Int) := by unfold wrap64; omega
                clear hvv hmx
                go_wp2_with fail
                go_ret2
                exact ⟨NuA.yes HE.out, rfl⟩
        · clear HC
          go_enter Tryz.func25, Tryz.ntmps25
          go_wp2_with fail
          have HN0 : Hid (∀ i (h : i < sD.size), sD[i] = d.getD i 0) := HD
          go_loop [6, 7] (fun y z => ∃ i : Nat, i ≤ sD.size ∧ y = .int .i64 (-(dval (d.take i) : Int)) ∧ z = .int .i64 (i : Int) ∧ Hid (dgs (d.take i)) ∧ dval (d.take i) ≤ 9223372036854775808) (fun _ z => sD.size - (intOf z).toNat)
          case atStart => exact ⟨0, by omega, rfl, rfl, (fun c hc => by simp at hc), by simp [dval]⟩
          case round =>
            obtain ⟨i, hi, rfl, rfl, HG, hv⟩ := hrel
            by_cases hlt : i < sD.size
            · obtain ⟨x, hx⟩ : ∃ x, sD[i] = x := ⟨_, rfl⟩
              have hxd : d.getD i 0 = x := by rw [← hx, HD.out i hlt]
              have Hxd := hide hxd
              have hiI : (i : Int) < sD.size := by omega
              have hil : i < d.length := by have := HZ.out; omega
              by_cases h48 : x.toNat < 48
              · have h1 : (x.toNat : Int) < 48 := by omega
                have HE := hide (HNo.out (NOk_no3 hil hxd (Or.inl h48)))
                clear hxd Hxd hil
                go_wp2_with fail
                go_ret2
                exact ⟨NuA.no HE.out, rfl⟩
              · by_cases h57 : 57 < x.toNat
                · have h1 : ¬ (x.toNat : Int) < 48 := by omega
                  have h2 : (57 : Int) < (x.toNat : Int) := by omega
                  have HE := hide (HNo.out (NOk_no3 hil hxd (Or.inr h57)))
                  clear hxd Hxd hil h48 h57
                  go_wp2_with fail
                  go_ret2
                  exact ⟨NuA.no HE.out, rfl⟩
                · obtain ⟨k, hk⟩ : ∃ k, x.toNat = 48 + k := ⟨x.toNat - 48, by omega⟩
                  have hk9 : k ≤ 9 := by omega
                  have h1 : ¬ (x.toNat : Int) < 48 := by omega
                  have h2 : ¬ (57 : Int) < (x.toNat : Int) := by omega
                  obtain ⟨v, hvv⟩ : ∃ v, dval (d.take i) = v := ⟨_, rfl⟩
                  have Hs : Hid (dval (d.take (i + 1)) = 10 * v + k) := by show _ = _; rw [dval_take d i hil, hvv, hxd, hk]; omega
                  have HG2 : Hid (dgs (d.take (i + 1))) := dgs_step HG.out hil (by rw [hxd]; omega)
                  rw [hvv] at hv
                  have e1 : IntKind.u8.wrap ((x.toNat : Int) - 48) = (k : Int) := by rw [wrap8 _ (by omega) (by omega)]; omega
                  have e2 : wrap64 (k : Int) = (k : Int) := by unfold wrap64; omega
                  have e3 : wrap64 (-9223372036854775808 + (k : Int)) = -9223372036854775808 + (k : Int) := by unfold wrap64; omega
                  rw [hvv]
                  by_cases hov : 9223372036854775808 < 10 * v + k
                  · have h3 : (-(v : Int) < Int.tdiv (-9223372036854775808 + (k : Int)) 10) := (nb_quo v k hk9 hv).2 hov
                    have HE := hide (HNo.out (NOk_no4 (i := i + 1) (by rw [Hs.out]; exact hov)))
                    obtain ⟨q, hq⟩ : ∃ q, Int.tdiv (-9223372036854775808 + (k : Int)) 10 = q := ⟨_, rfl⟩
                    have hqb : -922337203685477580 ≤ q ∧ q ≤ 0 := by rw [← hq]; exact nb_q k hk9
                    rw [hq] at h3
                    have e4 : wrap64 q = q := by unfold wrap64; omega
                    clear hxd Hxd hil h48 h57 hk hov hvv HG2 Hs HG
                    go_wp2_with fail
                    go_ret2
                    exact ⟨NuA.no HE.out, rfl⟩
                  · have h3 : ¬ (-(v : Int) < Int.tdiv (-9223372036854775808 + (k : Int)) 10) := fun h => hov ((nb_quo v k hk9 hv).1 h)
                    obtain ⟨q, hq⟩ : ∃ q, Int.tdiv (-9223372036854775808 + (k : Int)) 10 = q := ⟨_, rfl⟩
                    have hqb : -922337203685477580 ≤ q ∧ q ≤ 0 := by rw [← hq]; exact nb_q k hk9
                    rw [hq] at h3
                    have e4 : wrap64 q = q := by unfold wrap64; omega
                    have e5 : wrap64 (10 * -(v : Int)) = 10 * -(v : Int) := by unfold wrap64; omega
                    have h6 : ¬ (10 * -(v : Int) < -9223372036854775808 + (k : Int)) := by omega
                    have e7 : wrap64 (10 * -(v : Int) - (k : Int)) = -((10 * v + k : Nat) : Int) := by unfold wrap64; omega
                    have hvn : 10 * v + k ≤ 9223372036854775808 := by omega
                    obtain ⟨v2, hv2⟩ : ∃ v2, 10 * v + k = v2 := ⟨_, rfl⟩
                    rw [hv2] at e7 Hs hvn
                    have Hv2 := hide hv2
                    clear hxd Hxd hil h48 h57 hk hov hvv HG hv2
                    go_wp2_with fail
                    go_round
                    case rel => exact ⟨i + 1, by omega, by rw [Hs.out]; congr 1; have := Hv2.out; omega, by go_num, HG2, by rw [Hs.out]; exact hvn⟩
                    case measure => simp [intOf]; omega
            · have hks : ¬ (i : Int) < sD.size := by omega
              have hdl : d.take i = d := List.take_of_length_le (by have := HZ.out; omega)
              rw [hdl] at HG hv
              rw [hdl]
              by_cases hmx : dval d = 9223372036854775808
              · have HE := hide (HNo.out (fun hh => hh.2.2.2.2.2 (fun h => h) hmx))
                rw [hmx]
                clear hmx hv
                go_wp2_with fail
                go_ret2
                exact ⟨NuA.no HE.out, rfl⟩
              · have HE := hide (HYes.out ⟨Hne.out, Hd19.out, Hhd.out, HG.out, hv, fun _ => hmx⟩)
                obtain ⟨v, hvv⟩ : ∃ v, dval d = v := ⟨_, rfl⟩
                rw [hvv] at hv hmx HE
                rw [hvv]
                have hb : (-(v : Int) == -9223372036854775808) = false := by rw [beq_eq_false_iff_ne]; omega
                have e9 : wrap64 (v : Int) = (v : Int) := by unfold wrap64; omega
                clear hvv hmx
                go_wp2_with fail
                go_ret2
                exact ⟨NuA.yes HE.out, rfl⟩
theorem rnum_any (l : List UInt8) (hl : l.length ≤ 1000000000000) (w : World) : Calls Tryz.prog 25 #[.string (bs l)] w fun e w' => NuA l e ∧ w' = w := by
  by_cases h : l.head? = some 45
  · cases l with
    | nil => cases h
    | cons c d => have := Option.some.inj h; subst this; exact rnum_neg _ d rfl hl w
  · exact rnum_pos l h hl w
end Go.Proofs.YtpnnlfhknnnfhaaGreatDoor
