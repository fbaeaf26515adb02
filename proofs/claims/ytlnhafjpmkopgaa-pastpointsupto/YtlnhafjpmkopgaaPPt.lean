/- PastPoints: the law's walk. -/
import Derived.Test.YtlnhafjpmkopgaaPQ3
import Derived.Test.YtlnhafjpmkopgaaPFy
namespace Go.Proofs.Ytlnhafjpmkopgaa
open Go.RowKit
attribute [local go_sem ↓] ldP_eq stP_eq ldD_eq stD_eq ldC_eq
attribute [local go_sem] zero_PC cells_PV fold_PC PC_size fold_PC1 fold_PC2 fold_PC3 cells_CasV cells_RV RC_size zero_RC fold_RC

theorem dotsOf_dv (a b c : Pv) (dv : Value) (dno : Option Addr) (dn dc : Nat) (D : List Rn) (rp ms : Int) (hdv : dv = .slice dno dn dc) (w : World) (hA : PSrc w a) (hD : RSrc w dno dn dc D) (hn : dn ≤ 1048576) (hc : a.cn ≤ 1048576) :
    Calls Try.prog 12 #[CasV a b c dv rp ms] w fun e w' => GivesD w w' e := by
  subst hdv
  exact dotsOf_any a b c dno dn dc D rp ms w hA hD hn hc
theorem tB_not {P Q : Prop} (h : P ↔ ¬ Q) : tB P = !(tB Q) := by
  cases e : tB Q with
  | true => exact tB_no (fun g => h.1 g ((tB_iff Q).1 e))
  | false => exact tB_yes (h.2 (fun g => by have := tB_yes g; rw [e] at this; cases this))
theorem tB_dec {P Q : Prop} [Decidable Q] (h : P ↔ Q) : tB P = decide Q := Bool.eq_iff_iff.2 ((tB_iff P).trans (h.trans decide_eq_true_iff.symm))
theorem emptyF (p : Pv) (d : Rn) (w : World) (hS : PSrc w p) (hd : dotIn p.P d) : Calls Try.prog 16 #[PV p] w fun e w' => e = .returned (.bool false) ∧ Below w.heap.size w w' := by
  refine (pastEmpty_any p w hS).mono ?_
  rintro e w' ⟨b, rfl, h, hb⟩
  cases b with
  | false => exact ⟨rfl, hb⟩
  | true => exact absurd hd.2 (h.1 rfl _ (isR_lt hd.1) _)
theorem szP_pos {P : Pst} {z : Int} {d : Rn} (h : SzP (mP P) z) (hd : dotIn P d) : 1 ≤ z := by
  have hb := h.bd
  by_cases e : z = 0
  · obtain ⟨N, hN, hz⟩ := h
    have := (SizeP.zero (G := runsAt P) (z := z) ⟨N, fun r hr => hN r hr, hz⟩).1 e _ (isR_lt hd.1) d.hi
    exact absurd hd.2 this
  · omega
set_option maxRecDepth 100000 in
set_option maxHeartbeats 8000000 in
theorem points_any (a b c : Pv) (dv : Value) (dno : Option Addr) (dn dc : Nat) (D : List Rn) (rp ms : Int) (w : World) (hA : PSrc w a) (hB : PSrc w b) (hdv : dv = .slice dno dn dc) (hD : RSrc w dno dn dc D) (hn : dn ≤ 1048576) (hc : a.cn ≤ 1048576) (hW : wt [a, b, c] ≤ 4000000000000) :
    Calls Try.prog 3 #[CasV a b c dv rp ms] w fun e w' => e = .returned (.bool true) ∧ Below w.heap.size w w' := by
  have HA := hide hA
  have HB := hide hB
  have HD := hide hD
  have HW := hide hW
  have Hdv := hide hdv
  have HN := hide hn
  have HCN := hide hc
  clear hA hB hD hW hdv hn hc
  have HB0 := hide (below_new w (.cells (CasC a b c dv rp ms) 28))
  have HCB := hide (cbox_new w (CasC a b c dv rp ms))
  go_enter Try.func3, Try.ntmps3
  go_wp2_with fail
  refine (fixed_true _).mono ?_
  rintro e w1 ⟨rfl, b1⟩
  have HBWw1 := hide (HB0.out.trans (b1.mono HB0.out.size))
  replace HCB := hide (HCB.out.below b1)
  replace HA := hide (HA.out.below HBWw1.out)
  replace HB := hide (HB.out.below HBWw1.out)
  replace HD := hide (HD.out.below HBWw1.out)
  clear b1 HB0
  go_wp2_with fail
  refine wp_region_inv (by kernel_rfl) (fun l x W => ∃ v3x0 v3x1 v3x2 v3x3 v3x4 v3x5 v3x6 v3x7 v3x8 v3x9 v3x10 v3x11 v3x12 v3x13 v3x14 v3x15 v3x16 v3x17 v3x18 v3x19 v3x20 v3x21 v3x22, x = { tmps := #[CasV a b c dv rp ms, ptr w.heap.size, .bool false, v3x19, v3x20, v3x21, v3x22, undef, undef, undef, undef, undef, undef, undef, .bool true, .bool false, v3x0, v3x1, v3x2, v3x3, v3x4, v3x5, v3x6, v3x7, v3x8, v3x9, v3x10, v3x11, v3x12, v3x13, v3x14, v3x15, v3x16, v3x17, v3x18, undef, undef, undef, undef, undef, undef, undef, undef, undef, undef, undef, undef, undef, undef, undef, undef, undef, undef, undef, undef, undef, undef, undef, undef, undef, undef, undef, undef, undef, undef, undef, undef, undef, undef, undef, undef, undef, undef, undef, undef, undef, undef, undef, undef, undef, undef, undef, undef, undef, undef, undef, undef, undef, undef, undef, undef, undef, undef, undef, undef, undef, undef, undef, undef, undef, undef, undef, undef, undef, undef, undef, undef, undef, undef, undef, undef, undef, undef, undef, undef, undef, undef, undef, undef, undef, undef, undef, undef, undef, undef, undef, undef, undef, undef, undef, undef, undef, undef, undef, undef, undef, undef, undef, undef, undef, undef, undef, undef, undef, undef, undef, undef, undef, undef, undef, undef, undef, undef, undef, undef, undef, undef, undef, undef, undef, undef, undef, undef, undef, undef, undef, undef, undef], defers := [] } ∧ BI 27 23 w1 (Ph3 a b c w w1) [7] [(2, IsP (mP a.P)), (8, IsP (mOr (mP a.P) (mP b.P))), (13, IsP (mAnd (mP a.P) (mP b.P))), (18, IsP (mNot (mP a.P) (mP b.P)))] [(19, 23, 2), (20, 24, 8), (21, 25, 13), (22, 26, 18)] l W [v3x0, v3x1, v3x2, v3x3, v3x4, v3x5, v3x6, v3x7, v3x8, v3x9, v3x10, v3x11, v3x12, v3x13, v3x14, v3x15, v3x16, v3x17, v3x18, v3x19, v3x20, v3x21, v3x22, undef, undef, undef, undef] ∧ (l.getD 23 false = true → l.getD 18 false = true) ∧ (l.getD 18 false = true → l.getD 13 false = true) ∧ (l.getD 13 false = true → l.getD 8 false = true)) ⟨undef, undef, undef, undef, undef, undef, undef, undef, undef, undef, undef, undef, undef, undef, undef, undef, undef, undef, undef, undef, undef, undef, undef, rfl, BI.start _ _ _ _ _ _ _ _ rfl, ext_start _ _ _, ext_start _ _ _, ext_start _ _ _⟩ ?_ ?_ ?_
  · rintro l x W ⟨v3x0, v3x1, v3x2, v3x3, v3x4, v3x5, v3x6, v3x7, v3x8, v3x9, v3x10, v3x11, v3x12, v3x13, v3x14, v3x15, v3x16, v3x17, v3x18, v3x19, v3x20, v3x21, v3x22, rfl, T, XX⟩
    exact T.sz
  · exact st3 HCB HA HB HW
  · rintro l x W ⟨v3x0, v3x1, v3x2, v3x3, v3x4, v3x5, v3x6, v3x7, v3x8, v3x9, v3x10, v3x11, v3x12, v3x13, v3x14, v3x15, v3x16, v3x17, v3x18, v3x19, v3x20, v3x21, v3x22, rfl, T, -⟩ hnil
    have hall := fun i (hi : i < 27) => ready_done (by kernel_rfl) T.sz hnil i hi
    have HT := hide T
    clear T hnil
    have e0 : v3x0 = .pointer (some ⟨w.heap.size, 0, none⟩) := HT.out.h 0 (by decide) (hall 0 (by decide)) (fun hm => absurd hm (by decide))
    subst e0
    have e1 : v3x1 = PV a := HT.out.h 1 (by decide) (hall 1 (by decide)) (fun hm => absurd hm (by decide))
    subst e1
    obtain ⟨pn, e2, Spn, qpn, -⟩ := HT.out.r (2, IsP (mP a.P)) (by simp) (hall 2 (by decide))
    have f2 : v3x2 = PV pn := e2
    subst f2
    have HSpn := hide Spn
    have HQpn : Hid (IsP (mP a.P) pn.P) := qpn
    clear e2 Spn qpn
    have e3 : v3x3 = .pointer (some ⟨w.heap.size, 0, none⟩) := HT.out.h 3 (by decide) (hall 3 (by decide)) (fun hm => absurd hm (by decide))
    subst e3
    have e4 : v3x4 = PV a := HT.out.h 4 (by decide) (hall 4 (by decide)) (fun hm => absurd hm (by decide))
    subst e4
    have e5 : v3x5 = .pointer (some ⟨w.heap.size, 2, none⟩) := HT.out.h 5 (by decide) (hall 5 (by decide)) (fun hm => absurd hm (by decide))
    subst e5
    have e6 : v3x6 = PV b := HT.out.h 6 (by decide) (hall 6 (by decide)) (fun hm => absurd hm (by decide))
    subst e6
    obtain ⟨pj, e8, Spj, qpj, -⟩ := HT.out.r (8, IsP (mOr (mP a.P) (mP b.P))) (by simp) (hall 8 (by decide))
    have f8 : v3x8 = PV pj := e8
    subst f8
    have HSpj := hide Spj
    have HQpj : Hid (IsP (mOr (mP a.P) (mP b.P)) pj.P) := qpj
    clear e8 Spj qpj
    have e9 : v3x9 = .pointer (some ⟨w.heap.size, 0, none⟩) := HT.out.h 9 (by decide) (hall 9 (by decide)) (fun hm => absurd hm (by decide))
    subst e9
    have e10 : v3x10 = PV a := HT.out.h 10 (by decide) (hall 10 (by decide)) (fun hm => absurd hm (by decide))
    subst e10
    have e11 : v3x11 = .pointer (some ⟨w.heap.size, 2, none⟩) := HT.out.h 11 (by decide) (hall 11 (by decide)) (fun hm => absurd hm (by decide))
    subst e11
    have e12 : v3x12 = PV b := HT.out.h 12 (by decide) (hall 12 (by decide)) (fun hm => absurd hm (by decide))
    subst e12
    obtain ⟨pm, e13, Spm, qpm, -⟩ := HT.out.r (13, IsP (mAnd (mP a.P) (mP b.P))) (by simp) (hall 13 (by decide))
    have f13 : v3x13 = PV pm := e13
    subst f13
    have HSpm := hide Spm
    have HQpm : Hid (IsP (mAnd (mP a.P) (mP b.P)) pm.P) := qpm
    clear e13 Spm qpm
    have e14 : v3x14 = .pointer (some ⟨w.heap.size, 0, none⟩) := HT.out.h 14 (by decide) (hall 14 (by decide)) (fun hm => absurd hm (by decide))
    subst e14
    have e15 : v3x15 = PV a := HT.out.h 15 (by decide) (hall 15 (by decide)) (fun hm => absurd hm (by decide))
    subst e15
    have e16 : v3x16 = .pointer (some ⟨w.heap.size, 2, none⟩) := HT.out.h 16 (by decide) (hall 16 (by decide)) (fun hm => absurd hm (by decide))
    subst e16
    have e17 : v3x17 = PV b := HT.out.h 17 (by decide) (hall 17 (by decide)) (fun hm => absurd hm (by decide))
    subst e17
    obtain ⟨pd, e18, Spd, qpd, -⟩ := HT.out.r (18, IsP (mNot (mP a.P) (mP b.P))) (by simp) (hall 18 (by decide))
    have f18 : v3x18 = PV pd := e18
    subst f18
    have HSpd := hide Spd
    have HQpd : Hid (IsP (mNot (mP a.P) (mP b.P)) pd.P) := qpd
    clear e18 Spd qpd
    obtain ⟨gn, e19, -, -, -, k19⟩ := HT.out.a (19, 23, 2) (by simp) (hall 19 (by decide))
    have HXgn : Hid (PBox W gn pn) := k19 (hall 23 (by decide)) pn rfl
    have f19 : v3x19 = ptr gn := e19
    subst f19
    clear e19 k19
    obtain ⟨gj, e20, -, -, -, k20⟩ := HT.out.a (20, 24, 8) (by simp) (hall 20 (by decide))
    have HXgj : Hid (PBox W gj pj) := k20 (hall 24 (by decide)) pj rfl
    have f20 : v3x20 = ptr gj := e20
    subst f20
    clear e20 k20
    obtain ⟨gm, e21, -, -, -, k21⟩ := HT.out.a (21, 25, 13) (by simp) (hall 21 (by decide))
    have HXgm : Hid (PBox W gm pm) := k21 (hall 25 (by decide)) pm rfl
    have f21 : v3x21 = ptr gm := e21
    subst f21
    clear e21 k21
    obtain ⟨gd, e22, -, -, -, k22⟩ := HT.out.a (22, 26, 18) (by simp) (hall 22 (by decide))
    have HXgd : Hid (PBox W gd pd) := k22 (hall 26 (by decide)) pd rfl
    have f22 : v3x22 = ptr gd := e22
    subst f22
    clear e22 k22
    have by1 := HT.out.b
    rename World => y1
    clear hall HT l
    replace HCB := hide (HCB.out.below by1)
    replace HA := hide (HA.out.below by1)
    replace HB := hide (HB.out.below by1)
    replace HD := hide (HD.out.below by1)
    have HBWy1 := hide (HBWw1.out.trans (by1.mono HBWw1.out.size))
    clear by1
    have l1 := run_ldP HCB.out.pa
    go_wp2_with fail
    refine (pastHoles_any a _ HA.out).mono ?_
    rintro e z1 ⟨ph, rfl, HSph, _, bz1, qph⟩
    have HQph := hide qph
    clear l1 qph
    replace HCB := hide (HCB.out.below bz1)
    replace HA := hide (HA.out.below bz1)
    replace HB := hide (HB.out.below bz1)
    replace HD := hide (HD.out.below bz1)
    replace HSpn := hide (HSpn.out.below bz1)
    replace HSpj := hide (HSpj.out.below bz1)
    replace HSpm := hide (HSpm.out.below bz1)
    replace HSpd := hide (HSpd.out.below bz1)
    replace HXgn := hide (HXgn.out.below bz1)
    replace HXgj := hide (HXgj.out.below bz1)
    replace HXgm := hide (HXgm.out.below bz1)
    replace HXgd := hide (HXgd.out.below bz1)
    have HBWz1 := hide (HBWy1.out.trans (bz1.mono HBWy1.out.size))
    replace HSph := hide HSph
    obtain ⟨z2, hst, PB, bz2, _⟩ := madeP z1 ph z1.heap.size rfl
    clear bz1
    replace HCB := hide (HCB.out.below bz2)
    replace HA := hide (HA.out.below bz2)
    replace HB := hide (HB.out.below bz2)
    replace HD := hide (HD.out.below bz2)
    replace HSpn := hide (HSpn.out.below bz2)
    replace HSpj := hide (HSpj.out.below bz2)
    replace HSpm := hide (HSpm.out.below bz2)
    replace HSpd := hide (HSpd.out.below bz2)
    replace HXgn := hide (HXgn.out.below bz2)
    replace HXgj := hide (HXgj.out.below bz2)
    replace HXgm := hide (HXgm.out.below bz2)
    replace HXgd := hide (HXgd.out.below bz2)
    replace HSph := hide (HSph.out.below bz2)
    have HBWz2 := hide (HBWz1.out.trans (bz2.mono HBWz1.out.size))
    have HXgh := hide PB
    clear PB bz2
    have l1 := run_ldC rfl HCB.out
    go_wp2_with fail
    clear l1 hst
    refine (dotsOf_dv a b c dv dno dn dc D rp ms Hdv.out _ HA.out HD.out HN.out HCN.out).mono ?_
    rintro e z3 ⟨lo, ln, lc, E, rfl, HSE, bz3⟩
    replace HCB := hide (HCB.out.below bz3)
    replace HA := hide (HA.out.below bz3)
    replace HB := hide (HB.out.below bz3)
    replace HD := hide (HD.out.below bz3)
    replace HSpn := hide (HSpn.out.below bz3)
    replace HSpj := hide (HSpj.out.below bz3)
    replace HSpm := hide (HSpm.out.below bz3)
    replace HSpd := hide (HSpd.out.below bz3)
    replace HXgn := hide (HXgn.out.below bz3)
    replace HXgj := hide (HXgj.out.below bz3)
    replace HXgm := hide (HXgm.out.below bz3)
    replace HXgd := hide (HXgd.out.below bz3)
    replace HSph := hide (HSph.out.below bz3)
    replace HXgh := hide (HXgh.out.below bz3)
    have HBWz3 := hide (HBWz2.out.trans (bz3.mono HBWz2.out.size))
    replace HSE := hide HSE
    have hln := HSE.out.big
    clear bz3
    clear HD
    go_wp2_with fail
    go_loopw [9] (fun i wr => ∃ j : Nat, j ≤ ln ∧ i = .int .i64 j ∧ Hid (Below z3.heap.size z3 wr)) (fun i _ => ln - (intOf i).toNat)
    case atStart => exact ⟨0, Nat.zero_le _, rfl, Below.refl _ _⟩
    case round =>
      obtain ⟨j, hj, rfl, HCX⟩ := hrel
      rename World => w6
      replace HCB := hide (HCB.out.below HCX.out)
      replace HA := hide (HA.out.below HCX.out)
      replace HB := hide (HB.out.below HCX.out)
      replace HSpn := hide (HSpn.out.below HCX.out)
      replace HSpj := hide (HSpj.out.below HCX.out)
      replace HSpm := hide (HSpm.out.below HCX.out)
      replace HSpd := hide (HSpd.out.below HCX.out)
      replace HXgn := hide (HXgn.out.below HCX.out)
      replace HXgj := hide (HXgj.out.below HCX.out)
      replace HXgm := hide (HXgm.out.below HCX.out)
      replace HXgd := hide (HXgd.out.below HCX.out)
      replace HSph := hide (HSph.out.below HCX.out)
      replace HXgh := hide (HXgh.out.below HCX.out)
      replace HSE := hide (HSE.out.below HCX.out)
      have HBWw6 := hide (HBWz3.out.trans (HCX.out.mono HBWz3.out.size))
      by_cases hlt : j < ln
      · obtain ⟨ad, hlo, A0⟩ := HSE.out.at j hlt
        subst hlo
        obtain ⟨d, Hd⟩ : ∃ d, Hid (E.getD j rn0 = d) := ⟨_, rfl⟩
        rw [Hd.out] at A0
        have hld := run_ldD A0
        obtain ⟨w7, hst, XD, b7, z7⟩ := madeD w6 d w6.heap.size rfl
        clear A0 z7 Hd
        replace HCX := hide (HCX.out.trans (b7.mono HCX.out.size))
        replace HCB := hide (HCB.out.below b7)
        replace HA := hide (HA.out.below b7)
        replace HB := hide (HB.out.below b7)
        replace HSpn := hide (HSpn.out.below b7)
        replace HSpj := hide (HSpj.out.below b7)
        replace HSpm := hide (HSpm.out.below b7)
        replace HSpd := hide (HSpd.out.below b7)
        replace HXgn := hide (HXgn.out.below b7)
        replace HXgj := hide (HXgj.out.below b7)
        replace HXgm := hide (HXgm.out.below b7)
        replace HXgd := hide (HXgd.out.below b7)
        replace HSph := hide (HSph.out.below b7)
        replace HXgh := hide (HXgh.out.below b7)
        have HBWw7 := hide (HBWw6.out.trans (b7.mono HBWw6.out.size))
        have HXD := hide XD
        clear XD b7 HSE
        obtain ⟨k, Hk⟩ : ∃ k, Hid (LastOf a.P d.lo k) := last_ex _ _
        obtain ⟨xb, Hxb⟩ : ∃ x, Hid (tB (dotIn b.P d) = x) := ⟨_, rfl⟩
        obtain ⟨xa, Hxa⟩ : ∃ x, Hid (tB (dotIn a.P d) = x) := ⟨_, rfl⟩
        obtain ⟨zs, Hzs⟩ : ∃ z, Hid (SzP (mP a.P) z) := szP_ex _
        have HDI := hide (dotIn_iff a.P d)
        obtain ⟨rep, num⟩ := d
        dsimp only at Hk HDI
        cases xa with
        | true =>
          have HYD : Hid (dotIn a.P ⟨rep, num⟩) := (tB_iff _).1 Hxa.out
          have hreal : 0 ≤ rep ∧ rep ≤ 15 ∧ 1 ≤ num := by have h := HDI.out.1 HYD.out; omega
          obtain ⟨hr0, hr1, hr2⟩ := hreal
          have HVJ : Hid (tB (dotIn pj.P ⟨rep, num⟩) = true) := tB_yes ((dot_isP HQpj.out).2 ⟨HYD.out.1, Or.inl HYD.out.2⟩)
          have HVM : Hid (tB (dotIn pm.P ⟨rep, num⟩) = xb) := by show _ = _; rw [← Hxb.out]; exact tB_congr ((dot_isP HQpm.out).trans ⟨fun h => ⟨h.1, h.2.2⟩, fun h => ⟨h.1, HYD.out.2, h.2⟩⟩)
          have HVD : Hid (tB (dotIn pd.P ⟨rep, num⟩) = !xb) := by show _ = _; rw [← Hxb.out]; exact tB_not ((dot_isP HQpd.out).trans ⟨fun h g => h.2.2 g.2, fun h => ⟨HYD.out.1, HYD.out.2, fun g => h ⟨HYD.out.1, g⟩⟩⟩)
          have HVH : Hid (tB (dotIn ph.P ⟨rep, num⟩) = false) := tB_no (fun h => ((dot_holes HQph.out Hk.out).1 h).2.1 HYD.out)
          have HKN : Hid (num ≤ k) := Hk.out.le HYD.out
          have HZS : Hid (1 ≤ zs) := szP_pos Hzs.out HYD.out
          have cA : ∀ dd os, Calls Try.prog 13 #[PV a, RV ⟨rep, num⟩] (Sort.grow (redrawn w7 dd) os) (fun e w'' => e = .returned (.bool true) ∧ ∃ p : Regrown, w'' = Sort.grow (redrawn w7 p.d) p.os) := fun dd os => Calls.regrown_of (meantT a ⟨rep, num⟩ _ (HA.out.below (below_regrown w7 dd os)) true Hxa.out)
          have cB : ∀ dd os, Calls Try.prog 13 #[PV b, RV ⟨rep, num⟩] (Sort.grow (redrawn w7 dd) os) (fun e w'' => e = .returned (.bool xb) ∧ ∃ p : Regrown, w'' = Sort.grow (redrawn w7 p.d) p.os) := fun dd os => Calls.regrown_of (meantT b ⟨rep, num⟩ _ (HB.out.below (below_regrown w7 dd os)) xb Hxb.out)
          have r_a := ldP_re HCB.out.pa
          have r_b := ldP_re HCB.out.pb
          have r_d := ldD_re HXD.out.at
          go_wp2_with fail
          clear hst hld
          refine wp_region_quiet_below (by kernel_rfl) (by kernel_rfl) ?_
          repeat (with_reducible (refine wpQuiet_step ?_); intro K hK; go_simp; (try rw [if_neg (by unfold undef; simp)]); first | (with_reducible (refine hK _ ?_); clear hK K) | (apply Exists.intro; refine ⟨fun _ => ?_, hK _ ?_⟩; (first | (go_at_call_of 13 a; exact cA _ _) | (go_at_call_of 13 b; exact cB _ _)); clear hK K))
          with_reducible (refine wpQuiet_nil ?_)
          intro s1 hw'
          obtain ⟨⟨dq, osq⟩, hw''⟩ := hw'
          have bs1 : Below w7.heap.size w7 s1 := by rw [hw'']; exact below_regrown w7 dq osq
          clear hw'' dq osq cA cB r_a r_b r_d
          replace HCX := hide (HCX.out.trans (bs1.mono HCX.out.size))
          replace HCB := hide (HCB.out.below bs1)
          replace HA := hide (HA.out.below bs1)
          replace HB := hide (HB.out.below bs1)
          replace HSpn := hide (HSpn.out.below bs1)
          replace HSpj := hide (HSpj.out.below bs1)
          replace HSpm := hide (HSpm.out.below bs1)
          replace HSpd := hide (HSpd.out.below bs1)
          replace HXgn := hide (HXgn.out.below bs1)
          replace HXgj := hide (HXgj.out.below bs1)
          replace HXgm := hide (HXgm.out.below bs1)
          replace HXgd := hide (HXgd.out.below bs1)
          replace HSph := hide (HSph.out.below bs1)
          replace HXgh := hide (HXgh.out.below bs1)
          replace HXD := hide (HXD.out.below bs1)
          have HBWs1 := hide (HBWw7.out.trans (bs1.mono HBWw7.out.size))
          clear bs1
          have l_a := run_ldP HCB.out.pa
          have l_pn := run_ldP HXgn.out.at
          have l_pj := run_ldP HXgj.out.at
          have l_pm := run_ldP HXgm.out.at
          have l_pd := run_ldP HXgd.out.at
          have l_d := run_ldD HXD.out.at
          go_wp2_with fail
          refine (meantT pn ⟨rep, num⟩ _ HSpn.out true (by rw [tB_congr ((dot_isP HQpn.out).trans Iff.rfl)]; exact Hxa.out)).mono ?_
          rintro e t1 ⟨rfl, bt1⟩
          clear l_a l_pn l_pj l_pm l_pd l_d
          replace HCX := hide (HCX.out.trans (bt1.mono HCX.out.size))
          replace HCB := hide (HCB.out.below bt1)
          replace HA := hide (HA.out.below bt1)
          replace HB := hide (HB.out.below bt1)
          replace HSpn := hide (HSpn.out.below bt1)
          replace HSpj := hide (HSpj.out.below bt1)
          replace HSpm := hide (HSpm.out.below bt1)
          replace HSpd := hide (HSpd.out.below bt1)
          replace HXgn := hide (HXgn.out.below bt1)
          replace HXgj := hide (HXgj.out.below bt1)
          replace HXgm := hide (HXgm.out.below bt1)
          replace HXgd := hide (HXgd.out.below bt1)
          replace HSph := hide (HSph.out.below bt1)
          replace HXgh := hide (HXgh.out.below bt1)
          replace HXD := hide (HXD.out.below bt1)
          have HBWt1 := hide (HBWs1.out.trans (bt1.mono HBWs1.out.size))
          clear bt1
          have l_a := run_ldP HCB.out.pa
          have l_pn := run_ldP HXgn.out.at
          have l_pj := run_ldP HXgj.out.at
          have l_pm := run_ldP HXgm.out.at
          have l_pd := run_ldP HXgd.out.at
          have l_d := run_ldD HXD.out.at
          go_wp2_with fail
          refine (hasT a ⟨rep, num⟩ _ HA.out true Hxa.out).mono ?_
          rintro e t2 ⟨rfl, bt2⟩
          clear l_a l_pn l_pj l_pm l_pd l_d
          replace HCX := hide (HCX.out.trans (bt2.mono HCX.out.size))
          replace HCB := hide (HCB.out.below bt2)
          replace HA := hide (HA.out.below bt2)
          replace HB := hide (HB.out.below bt2)
          replace HSpn := hide (HSpn.out.below bt2)
          replace HSpj := hide (HSpj.out.below bt2)
          replace HSpm := hide (HSpm.out.below bt2)
          replace HSpd := hide (HSpd.out.below bt2)
          replace HXgn := hide (HXgn.out.below bt2)
          replace HXgj := hide (HXgj.out.below bt2)
          replace HXgm := hide (HXgm.out.below bt2)
          replace HXgd := hide (HXgd.out.below bt2)
          replace HSph := hide (HSph.out.below bt2)
          replace HXgh := hide (HXgh.out.below bt2)
          replace HXD := hide (HXD.out.below bt2)
          have HBWt2 := hide (HBWt1.out.trans (bt2.mono HBWt1.out.size))
          clear bt2
          have l_a := run_ldP HCB.out.pa
          have l_pn := run_ldP HXgn.out.at
          have l_pj := run_ldP HXgj.out.at
          have l_pm := run_ldP HXgm.out.at
          have l_pd := run_ldP HXgd.out.at
          have l_d := run_ldD HXD.out.at
          go_wp2_with fail
          refine (meantT pj ⟨rep, num⟩ _ HSpj.out true (HVJ.out)).mono ?_
          rintro e t3 ⟨rfl, bt3⟩
          clear l_a l_pn l_pj l_pm l_pd l_d
          replace HCX := hide (HCX.out.trans (bt3.mono HCX.out.size))
          replace HCB := hide (HCB.out.below bt3)
          replace HA := hide (HA.out.below bt3)
          replace HB := hide (HB.out.below bt3)
          replace HSpn := hide (HSpn.out.below bt3)
          replace HSpj := hide (HSpj.out.below bt3)
          replace HSpm := hide (HSpm.out.below bt3)
          replace HSpd := hide (HSpd.out.below bt3)
          replace HXgn := hide (HXgn.out.below bt3)
          replace HXgj := hide (HXgj.out.below bt3)
          replace HXgm := hide (HXgm.out.below bt3)
          replace HXgd := hide (HXgd.out.below bt3)
          replace HSph := hide (HSph.out.below bt3)
          replace HXgh := hide (HXgh.out.below bt3)
          replace HXD := hide (HXD.out.below bt3)
          have HBWt3 := hide (HBWt2.out.trans (bt3.mono HBWt2.out.size))
          clear bt3
          have l_a := run_ldP HCB.out.pa
          have l_pn := run_ldP HXgn.out.at
          have l_pj := run_ldP HXgj.out.at
          have l_pm := run_ldP HXgm.out.at
          have l_pd := run_ldP HXgd.out.at
          have l_d := run_ldD HXD.out.at
          go_wp2_with fail
          refine (meantT pm ⟨rep, num⟩ _ HSpm.out xb (HVM.out)).mono ?_
          rintro e t4 ⟨rfl, bt4⟩
          clear l_a l_pn l_pj l_pm l_pd l_d
          replace HCX := hide (HCX.out.trans (bt4.mono HCX.out.size))
          replace HCB := hide (HCB.out.below bt4)
          replace HA := hide (HA.out.below bt4)
          replace HB := hide (HB.out.below bt4)
          replace HSpn := hide (HSpn.out.below bt4)
          replace HSpj := hide (HSpj.out.below bt4)
          replace HSpm := hide (HSpm.out.below bt4)
          replace HSpd := hide (HSpd.out.below bt4)
          replace HXgn := hide (HXgn.out.below bt4)
          replace HXgj := hide (HXgj.out.below bt4)
          replace HXgm := hide (HXgm.out.below bt4)
          replace HXgd := hide (HXgd.out.below bt4)
          replace HSph := hide (HSph.out.below bt4)
          replace HXgh := hide (HXgh.out.below bt4)
          replace HXD := hide (HXD.out.below bt4)
          have HBWt4 := hide (HBWt3.out.trans (bt4.mono HBWt3.out.size))
          clear bt4
          have l_a := run_ldP HCB.out.pa
          have l_pn := run_ldP HXgn.out.at
          have l_pj := run_ldP HXgj.out.at
          have l_pm := run_ldP HXgm.out.at
          have l_pd := run_ldP HXgd.out.at
          have l_d := run_ldD HXD.out.at
          go_wp2_with fail
          refine (meantT pd ⟨rep, num⟩ _ HSpd.out (!xb) (HVD.out)).mono ?_
          rintro e t5 ⟨rfl, bt5⟩
          clear l_a l_pn l_pj l_pm l_pd l_d
          replace HCX := hide (HCX.out.trans (bt5.mono HCX.out.size))
          replace HCB := hide (HCB.out.below bt5)
          replace HA := hide (HA.out.below bt5)
          replace HB := hide (HB.out.below bt5)
          replace HSpn := hide (HSpn.out.below bt5)
          replace HSpj := hide (HSpj.out.below bt5)
          replace HSpm := hide (HSpm.out.below bt5)
          replace HSpd := hide (HSpd.out.below bt5)
          replace HXgn := hide (HXgn.out.below bt5)
          replace HXgj := hide (HXgj.out.below bt5)
          replace HXgm := hide (HXgm.out.below bt5)
          replace HXgd := hide (HXgd.out.below bt5)
          replace HSph := hide (HSph.out.below bt5)
          replace HXgh := hide (HXgh.out.below bt5)
          replace HXD := hide (HXD.out.below bt5)
          have HBWt5 := hide (HBWt4.out.trans (bt5.mono HBWt4.out.size))
          clear bt5
          have l_a := run_ldP HCB.out.pa
          have l_d := run_ldD HXD.out.at
          have k_0 := HXD.out.at.c0
          have k_1 : t5.cell? ⟨w6.heap.size, 1, none⟩ = some (.int .i64 num) := HXD.out.at.c1
          have r_a := ldP_re HCB.out.pa
          have r_d := ldD_re HXD.out.at
          have r_h := ldP_re HXgh.out.at
          have r_0 := cell_regrown k_0
          have r_1 := cell_regrown k_1
          have cH : ∀ dd os, Calls Try.prog 13 #[PV ph, RV ⟨rep, num⟩] (Sort.grow (redrawn t5 dd) os) (fun e w'' => e = .returned (.bool (false)) ∧ ∃ p : Regrown, w'' = Sort.grow (redrawn t5 p.d) p.os) := fun dd os => Calls.regrown_of (meantT ph ⟨rep, num⟩ _ (HSph.out.below (below_regrown t5 dd os)) (false) HVH.out)
          have cL : ∀ dd os, Calls Try.prog 15 #[PV a, .int .i64 rep] (Sort.grow (redrawn t5 dd) os) (fun e w'' => e = .returned (.int .i64 k) ∧ ∃ p : Regrown, w'' = Sort.grow (redrawn t5 p.d) p.os) := fun dd os => Calls.regrown_of (lastT a rep k _ (HA.out.below (below_regrown t5 dd os)) Hk.out)
          go_wp2_with fail
          refine wp_region_quiet_below (by kernel_rfl) (by kernel_rfl) ?_
          repeat (with_reducible (refine wpQuiet_step ?_); intro K hK; go_simp; (try rw [if_neg (by unfold undef; simp)]); first | (with_reducible (refine hK _ ?_); clear hK K) | (apply Exists.intro; refine ⟨fun _ => ?_, hK _ ?_⟩; (first | (go_at_call 13; exact cH _ _) | (go_at_call 15; exact cL _ _)); clear hK K))
          with_reducible (refine wpQuiet_nil ?_)
          intro s2 hw'
          obtain ⟨⟨dq, osq⟩, hw''⟩ := hw'
          have bs2 : Below t5.heap.size t5 s2 := by rw [hw'']; exact below_regrown t5 dq osq
          clear hw'' dq osq cH cL r_a r_d r_h r_0 r_1 l_a l_d k_0 k_1
          replace HCX := hide (HCX.out.trans (bs2.mono HCX.out.size))
          replace HCB := hide (HCB.out.below bs2)
          replace HA := hide (HA.out.below bs2)
          replace HB := hide (HB.out.below bs2)
          replace HSpn := hide (HSpn.out.below bs2)
          replace HSpj := hide (HSpj.out.below bs2)
          replace HSpm := hide (HSpm.out.below bs2)
          replace HSpd := hide (HSpd.out.below bs2)
          replace HXgn := hide (HXgn.out.below bs2)
          replace HXgj := hide (HXgj.out.below bs2)
          replace HXgm := hide (HXgm.out.below bs2)
          replace HXgd := hide (HXgd.out.below bs2)
          replace HSph := hide (HSph.out.below bs2)
          replace HXgh := hide (HXgh.out.below bs2)
          replace HXD := hide (HXD.out.below bs2)
          have HBWs2 := hide (HBWt5.out.trans (bs2.mono HBWt5.out.size))
          clear bs2
          have k_0 := HXD.out.at.c0
          have k_1 : s2.cell? ⟨w6.heap.size, 1, none⟩ = some (.int .i64 num) := HXD.out.at.c1
          have r_a := ldP_re HCB.out.pa
          have r_0 := cell_regrown k_0
          have r_1 := cell_regrown k_1
          have cE : ∀ dd os, Calls Try.prog 16 #[PV a] (Sort.grow (redrawn s2 dd) os) (fun e w'' => e = .returned (.bool false) ∧ ∃ p : Regrown, w'' = Sort.grow (redrawn s2 p.d) p.os) := fun dd os => Calls.regrown_of (emptyF a ⟨rep, num⟩ _ (HA.out.below (below_regrown s2 dd os)) HYD.out)
          have cS : ∀ dd os, Calls Try.prog 17 #[PV a] (Sort.grow (redrawn s2 dd) os) (fun e w'' => e = .returned (.int .i64 zs) ∧ ∃ p : Regrown, w'' = Sort.grow (redrawn s2 p.d) p.os) := fun dd os => Calls.regrown_of (sizeT a zs _ (HA.out.below (below_regrown s2 dd os)) Hzs.out)
          have cL : ∀ dd os, Calls Try.prog 15 #[PV a, .int .i64 rep] (Sort.grow (redrawn s2 dd) os) (fun e w'' => e = .returned (.int .i64 k) ∧ ∃ p : Regrown, w'' = Sort.grow (redrawn s2 p.d) p.os) := fun dd os => Calls.regrown_of (lastT a rep k _ (HA.out.below (below_regrown s2 dd os)) Hk.out)
          have hz1 : ¬ zs < 1 := by have := HZS.out; omega
          have hk1 : ¬ k < num := by have := HKN.out; omega
          go_wp2_with fail
          refine wp_region_quiet_below (by kernel_rfl) (by kernel_rfl) ?_
          repeat (with_reducible (refine wpQuiet_step ?_); intro K hK; go_simp; (try rw [if_neg (by unfold undef; simp)]); first | (with_reducible (refine hK _ ?_); clear hK K) | (apply Exists.intro; refine ⟨fun _ => ?_, hK _ ?_⟩; (first | (go_at_call 16; exact cE _ _) | (go_at_call 17; exact cS _ _) | (go_at_call 15; exact cL _ _)); clear hK K))
          with_reducible (refine wpQuiet_nil ?_)
          intro s3 hw'
          obtain ⟨⟨dq, osq⟩, hw''⟩ := hw'
          have bs3 : Below s2.heap.size s2 s3 := by rw [hw'']; exact below_regrown s2 dq osq
          clear hw'' dq osq cE cS cL r_a r_0 r_1 k_0 k_1
          replace HCX := hide (HCX.out.trans (bs3.mono HCX.out.size))
          replace HCB := hide (HCB.out.below bs3)
          replace HA := hide (HA.out.below bs3)
          replace HB := hide (HB.out.below bs3)
          replace HSpn := hide (HSpn.out.below bs3)
          replace HSpj := hide (HSpj.out.below bs3)
          replace HSpm := hide (HSpm.out.below bs3)
          replace HSpd := hide (HSpd.out.below bs3)
          replace HXgn := hide (HXgn.out.below bs3)
          replace HXgj := hide (HXgj.out.below bs3)
          replace HXgm := hide (HXgm.out.below bs3)
          replace HXgd := hide (HXgd.out.below bs3)
          replace HSph := hide (HSph.out.below bs3)
          replace HXgh := hide (HXgh.out.below bs3)
          replace HXD := hide (HXD.out.below bs3)
          have HBWs3 := hide (HBWs2.out.trans (bs3.mono HBWs2.out.size))
          clear bs3
          have l_a := run_ldP HCB.out.pa
          have l_b := run_ldP HCB.out.pb
          go_wp2_with fail
          refine (pastWithin_any a b _ HA.out HB.out).mono ?_
          rintro e s4 ⟨x, rfl, hx, bs4⟩
          have HX := hide hx
          clear hx l_a l_b
          replace HCX := hide (HCX.out.trans (bs4.mono HCX.out.size))
          replace HCB := hide (HCB.out.below bs4)
          replace HA := hide (HA.out.below bs4)
          replace HB := hide (HB.out.below bs4)
          replace HSpn := hide (HSpn.out.below bs4)
          replace HSpj := hide (HSpj.out.below bs4)
          replace HSpm := hide (HSpm.out.below bs4)
          replace HSpd := hide (HSpd.out.below bs4)
          replace HXgn := hide (HXgn.out.below bs4)
          replace HXgj := hide (HXgj.out.below bs4)
          replace HXgm := hide (HXgm.out.below bs4)
          replace HXgd := hide (HXgd.out.below bs4)
          replace HSph := hide (HSph.out.below bs4)
          replace HXgh := hide (HXgh.out.below bs4)
          replace HXD := hide (HXD.out.below bs4)
          have HBWs4 := hide (HBWs3.out.trans (bs4.mono HBWs3.out.size))
          clear bs4
          cases x with
          | false =>
            go_wp2_with fail
            go_roundw
            case rel => exact ⟨j + 1, by omega, by go_num, HCX.out⟩
            case measure => simp [intOf]; omega
          | true =>
            obtain rfl : xb = true := by rw [← Hxb.out]; exact tB_yes ⟨HYD.out.1, HX.out.1 rfl _ (isR_lt HYD.out.1) _ HYD.out.2⟩
            go_wp2_with fail
            go_roundw
            case rel => exact ⟨j + 1, by omega, by go_num, HCX.out⟩
            case measure => simp [intOf]; omega
        | false =>
          have HND : Hid (¬ dotIn a.P ⟨rep, num⟩) := fun h => by have := tB_yes h; rw [Hxa.out] at this; cases this
          have HVJ : Hid (tB (dotIn pj.P ⟨rep, num⟩) = xb) := by show _ = _; rw [← Hxb.out]; exact tB_congr ((dot_isP HQpj.out).trans ⟨fun h => ⟨h.1, h.2.resolve_left (fun g => HND.out ⟨h.1, g⟩)⟩, fun h => ⟨h.1, Or.inr h.2⟩⟩)
          have HVM : Hid (tB (dotIn pm.P ⟨rep, num⟩) = false) := tB_no (fun h => HND.out ⟨((dot_isP HQpm.out).1 h).1, ((dot_isP HQpm.out).1 h).2.1⟩)
          have HVD : Hid (tB (dotIn pd.P ⟨rep, num⟩) = false) := tB_no (fun h => HND.out ⟨((dot_isP HQpd.out).1 h).1, ((dot_isP HQpd.out).1 h).2.1⟩)
          by_cases q1 : rep < 0
          · have HVH : Hid (tB (dotIn ph.P ⟨rep, num⟩) = false) := tB_no (fun h => by have g := ((dot_holes HQph.out Hk.out).1 h).1; simp [V.isR] at g; omega)
            have cA : ∀ dd os, Calls Try.prog 13 #[PV a, RV ⟨rep, num⟩] (Sort.grow (redrawn w7 dd) os) (fun e w'' => e = .returned (.bool false) ∧ ∃ p : Regrown, w'' = Sort.grow (redrawn w7 p.d) p.os) := fun dd os => Calls.regrown_of (meantT a ⟨rep, num⟩ _ (HA.out.below (below_regrown w7 dd os)) false Hxa.out)
            have cB : ∀ dd os, Calls Try.prog 13 #[PV b, RV ⟨rep, num⟩] (Sort.grow (redrawn w7 dd) os) (fun e w'' => e = .returned (.bool xb) ∧ ∃ p : Regrown, w'' = Sort.grow (redrawn w7 p.d) p.os) := fun dd os => Calls.regrown_of (meantT b ⟨rep, num⟩ _ (HB.out.below (below_regrown w7 dd os)) xb Hxb.out)
            have r_a := ldP_re HCB.out.pa
            have r_b := ldP_re HCB.out.pb
            have r_d := ldD_re HXD.out.at
            go_wp2_with fail
            clear hst hld
            refine wp_region_quiet_below (by kernel_rfl) (by kernel_rfl) ?_
            repeat (with_reducible (refine wpQuiet_step ?_); intro K hK; go_simp; (try rw [if_neg (by unfold undef; simp)]); first | (with_reducible (refine hK _ ?_); clear hK K) | (apply Exists.intro; refine ⟨fun _ => ?_, hK _ ?_⟩; (first | (go_at_call_of 13 a; exact cA _ _) | (go_at_call_of 13 b; exact cB _ _)); clear hK K))
            with_reducible (refine wpQuiet_nil ?_)
            intro s1 hw'
            obtain ⟨⟨dq, osq⟩, hw''⟩ := hw'
            have bs1 : Below w7.heap.size w7 s1 := by rw [hw'']; exact below_regrown w7 dq osq
            clear hw'' dq osq cA cB r_a r_b r_d
            replace HCX := hide (HCX.out.trans (bs1.mono HCX.out.size))
            replace HCB := hide (HCB.out.below bs1)
            replace HA := hide (HA.out.below bs1)
            replace HB := hide (HB.out.below bs1)
            replace HSpn := hide (HSpn.out.below bs1)
            replace HSpj := hide (HSpj.out.below bs1)
            replace HSpm := hide (HSpm.out.below bs1)
            replace HSpd := hide (HSpd.out.below bs1)
            replace HXgn := hide (HXgn.out.below bs1)
            replace HXgj := hide (HXgj.out.below bs1)
            replace HXgm := hide (HXgm.out.below bs1)
            replace HXgd := hide (HXgd.out.below bs1)
            replace HSph := hide (HSph.out.below bs1)
            replace HXgh := hide (HXgh.out.below bs1)
            replace HXD := hide (HXD.out.below bs1)
            have HBWs1 := hide (HBWw7.out.trans (bs1.mono HBWw7.out.size))
            clear bs1
            have l_a := run_ldP HCB.out.pa
            have l_pn := run_ldP HXgn.out.at
            have l_pj := run_ldP HXgj.out.at
            have l_pm := run_ldP HXgm.out.at
            have l_pd := run_ldP HXgd.out.at
            have l_d := run_ldD HXD.out.at
            go_wp2_with fail
            refine (meantT pn ⟨rep, num⟩ _ HSpn.out false (by rw [tB_congr ((dot_isP HQpn.out).trans Iff.rfl)]; exact Hxa.out)).mono ?_
            rintro e t6 ⟨rfl, bt6⟩
            clear l_a l_pn l_pj l_pm l_pd l_d
            replace HCX := hide (HCX.out.trans (bt6.mono HCX.out.size))
            replace HCB := hide (HCB.out.below bt6)
            replace HA := hide (HA.out.below bt6)
            replace HB := hide (HB.out.below bt6)
            replace HSpn := hide (HSpn.out.below bt6)
            replace HSpj := hide (HSpj.out.below bt6)
            replace HSpm := hide (HSpm.out.below bt6)
            replace HSpd := hide (HSpd.out.below bt6)
            replace HXgn := hide (HXgn.out.below bt6)
            replace HXgj := hide (HXgj.out.below bt6)
            replace HXgm := hide (HXgm.out.below bt6)
            replace HXgd := hide (HXgd.out.below bt6)
            replace HSph := hide (HSph.out.below bt6)
            replace HXgh := hide (HXgh.out.below bt6)
            replace HXD := hide (HXD.out.below bt6)
            have HBWt6 := hide (HBWs1.out.trans (bt6.mono HBWs1.out.size))
            clear bt6
            have l_a := run_ldP HCB.out.pa
            have l_pn := run_ldP HXgn.out.at
            have l_pj := run_ldP HXgj.out.at
            have l_pm := run_ldP HXgm.out.at
            have l_pd := run_ldP HXgd.out.at
            have l_d := run_ldD HXD.out.at
            go_wp2_with fail
            refine (hasT a ⟨rep, num⟩ _ HA.out false Hxa.out).mono ?_
            rintro e t7 ⟨rfl, bt7⟩
            clear l_a l_pn l_pj l_pm l_pd l_d
            replace HCX := hide (HCX.out.trans (bt7.mono HCX.out.size))
            replace HCB := hide (HCB.out.below bt7)
            replace HA := hide (HA.out.below bt7)
            replace HB := hide (HB.out.below bt7)
            replace HSpn := hide (HSpn.out.below bt7)
            replace HSpj := hide (HSpj.out.below bt7)
            replace HSpm := hide (HSpm.out.below bt7)
            replace HSpd := hide (HSpd.out.below bt7)
            replace HXgn := hide (HXgn.out.below bt7)
            replace HXgj := hide (HXgj.out.below bt7)
            replace HXgm := hide (HXgm.out.below bt7)
            replace HXgd := hide (HXgd.out.below bt7)
            replace HSph := hide (HSph.out.below bt7)
            replace HXgh := hide (HXgh.out.below bt7)
            replace HXD := hide (HXD.out.below bt7)
            have HBWt7 := hide (HBWt6.out.trans (bt7.mono HBWt6.out.size))
            clear bt7
            have l_a := run_ldP HCB.out.pa
            have l_pn := run_ldP HXgn.out.at
            have l_pj := run_ldP HXgj.out.at
            have l_pm := run_ldP HXgm.out.at
            have l_pd := run_ldP HXgd.out.at
            have l_d := run_ldD HXD.out.at
            go_wp2_with fail
            refine (meantT pj ⟨rep, num⟩ _ HSpj.out xb (HVJ.out)).mono ?_
            rintro e t8 ⟨rfl, bt8⟩
            clear l_a l_pn l_pj l_pm l_pd l_d
            replace HCX := hide (HCX.out.trans (bt8.mono HCX.out.size))
            replace HCB := hide (HCB.out.below bt8)
            replace HA := hide (HA.out.below bt8)
            replace HB := hide (HB.out.below bt8)
            replace HSpn := hide (HSpn.out.below bt8)
            replace HSpj := hide (HSpj.out.below bt8)
            replace HSpm := hide (HSpm.out.below bt8)
            replace HSpd := hide (HSpd.out.below bt8)
            replace HXgn := hide (HXgn.out.below bt8)
            replace HXgj := hide (HXgj.out.below bt8)
            replace HXgm := hide (HXgm.out.below bt8)
            replace HXgd := hide (HXgd.out.below bt8)
            replace HSph := hide (HSph.out.below bt8)
            replace HXgh := hide (HXgh.out.below bt8)
            replace HXD := hide (HXD.out.below bt8)
            have HBWt8 := hide (HBWt7.out.trans (bt8.mono HBWt7.out.size))
            clear bt8
            have l_a := run_ldP HCB.out.pa
            have l_pn := run_ldP HXgn.out.at
            have l_pj := run_ldP HXgj.out.at
            have l_pm := run_ldP HXgm.out.at
            have l_pd := run_ldP HXgd.out.at
            have l_d := run_ldD HXD.out.at
            go_wp2_with fail
            refine (meantT pm ⟨rep, num⟩ _ HSpm.out false (HVM.out)).mono ?_
            rintro e t9 ⟨rfl, bt9⟩
            clear l_a l_pn l_pj l_pm l_pd l_d
            replace HCX := hide (HCX.out.trans (bt9.mono HCX.out.size))
            replace HCB := hide (HCB.out.below bt9)
            replace HA := hide (HA.out.below bt9)
            replace HB := hide (HB.out.below bt9)
            replace HSpn := hide (HSpn.out.below bt9)
            replace HSpj := hide (HSpj.out.below bt9)
            replace HSpm := hide (HSpm.out.below bt9)
            replace HSpd := hide (HSpd.out.below bt9)
            replace HXgn := hide (HXgn.out.below bt9)
            replace HXgj := hide (HXgj.out.below bt9)
            replace HXgm := hide (HXgm.out.below bt9)
            replace HXgd := hide (HXgd.out.below bt9)
            replace HSph := hide (HSph.out.below bt9)
            replace HXgh := hide (HXgh.out.below bt9)
            replace HXD := hide (HXD.out.below bt9)
            have HBWt9 := hide (HBWt8.out.trans (bt9.mono HBWt8.out.size))
            clear bt9
            have l_a := run_ldP HCB.out.pa
            have l_pn := run_ldP HXgn.out.at
            have l_pj := run_ldP HXgj.out.at
            have l_pm := run_ldP HXgm.out.at
            have l_pd := run_ldP HXgd.out.at
            have l_d := run_ldD HXD.out.at
            go_wp2_with fail
            refine (meantT pd ⟨rep, num⟩ _ HSpd.out false (HVD.out)).mono ?_
            rintro e t10 ⟨rfl, bt10⟩
            clear l_a l_pn l_pj l_pm l_pd l_d
            replace HCX := hide (HCX.out.trans (bt10.mono HCX.out.size))
            replace HCB := hide (HCB.out.below bt10)
            replace HA := hide (HA.out.below bt10)
            replace HB := hide (HB.out.below bt10)
            replace HSpn := hide (HSpn.out.below bt10)
            replace HSpj := hide (HSpj.out.below bt10)
            replace HSpm := hide (HSpm.out.below bt10)
            replace HSpd := hide (HSpd.out.below bt10)
            replace HXgn := hide (HXgn.out.below bt10)
            replace HXgj := hide (HXgj.out.below bt10)
            replace HXgm := hide (HXgm.out.below bt10)
            replace HXgd := hide (HXgd.out.below bt10)
            replace HSph := hide (HSph.out.below bt10)
            replace HXgh := hide (HXgh.out.below bt10)
            replace HXD := hide (HXD.out.below bt10)
            have HBWt10 := hide (HBWt9.out.trans (bt10.mono HBWt9.out.size))
            clear bt10
            have l_a := run_ldP HCB.out.pa
            have l_d := run_ldD HXD.out.at
            have k_0 := HXD.out.at.c0
            have k_1 : t10.cell? ⟨w6.heap.size, 1, none⟩ = some (.int .i64 num) := HXD.out.at.c1
            have r_a := ldP_re HCB.out.pa
            have r_d := ldD_re HXD.out.at
            have r_h := ldP_re HXgh.out.at
            have r_0 := cell_regrown k_0
            have r_1 := cell_regrown k_1
            have cH : ∀ dd os, Calls Try.prog 13 #[PV ph, RV ⟨rep, num⟩] (Sort.grow (redrawn t10 dd) os) (fun e w'' => e = .returned (.bool (false)) ∧ ∃ p : Regrown, w'' = Sort.grow (redrawn t10 p.d) p.os) := fun dd os => Calls.regrown_of (meantT ph ⟨rep, num⟩ _ (HSph.out.below (below_regrown t10 dd os)) (false) HVH.out)
            have cL : ∀ dd os, Calls Try.prog 15 #[PV a, .int .i64 rep] (Sort.grow (redrawn t10 dd) os) (fun e w'' => e = .returned (.int .i64 k) ∧ ∃ p : Regrown, w'' = Sort.grow (redrawn t10 p.d) p.os) := fun dd os => Calls.regrown_of (lastT a rep k _ (HA.out.below (below_regrown t10 dd os)) Hk.out)
            go_wp2_with fail
            refine wp_region_quiet_below (by kernel_rfl) (by kernel_rfl) ?_
            repeat (with_reducible (refine wpQuiet_step ?_); intro K hK; go_simp; (try rw [if_neg (by unfold undef; simp)]); first | (with_reducible (refine hK _ ?_); clear hK K) | (apply Exists.intro; refine ⟨fun _ => ?_, hK _ ?_⟩; (first | (go_at_call 13; exact cH _ _) | (go_at_call 15; exact cL _ _)); clear hK K))
            with_reducible (refine wpQuiet_nil ?_)
            intro s2 hw'
            obtain ⟨⟨dq, osq⟩, hw''⟩ := hw'
            have bs2 : Below t10.heap.size t10 s2 := by rw [hw'']; exact below_regrown t10 dq osq
            clear hw'' dq osq cH cL r_a r_d r_h r_0 r_1 l_a l_d k_0 k_1
            replace HCX := hide (HCX.out.trans (bs2.mono HCX.out.size))
            replace HCB := hide (HCB.out.below bs2)
            replace HA := hide (HA.out.below bs2)
            replace HB := hide (HB.out.below bs2)
            replace HSpn := hide (HSpn.out.below bs2)
            replace HSpj := hide (HSpj.out.below bs2)
            replace HSpm := hide (HSpm.out.below bs2)
            replace HSpd := hide (HSpd.out.below bs2)
            replace HXgn := hide (HXgn.out.below bs2)
            replace HXgj := hide (HXgj.out.below bs2)
            replace HXgm := hide (HXgm.out.below bs2)
            replace HXgd := hide (HXgd.out.below bs2)
            replace HSph := hide (HSph.out.below bs2)
            replace HXgh := hide (HXgh.out.below bs2)
            replace HXD := hide (HXD.out.below bs2)
            have HBWs2 := hide (HBWt10.out.trans (bs2.mono HBWt10.out.size))
            clear bs2
            have k_0 := HXD.out.at.c0
            have k_1 : s2.cell? ⟨w6.heap.size, 1, none⟩ = some (.int .i64 num) := HXD.out.at.c1
            have r_a := ldP_re HCB.out.pa
            have r_0 := cell_regrown k_0
            have r_1 := cell_regrown k_1
            go_wp2_with fail
            refine wp_region_quiet_below (by kernel_rfl) (by kernel_rfl) ?_
            repeat (with_reducible (refine wpQuiet_step ?_); intro K hK; go_simp; (try rw [if_neg (by unfold undef; simp)]); first | (with_reducible (refine hK _ ?_); clear hK K) | (apply Exists.intro; refine ⟨fun _ => ?_, hK _ ?_⟩; (fail); clear hK K))
            with_reducible (refine wpQuiet_nil ?_)
            intro s3 hw'
            obtain ⟨⟨dq, osq⟩, hw''⟩ := hw'
            have bs3 : Below s2.heap.size s2 s3 := by rw [hw'']; exact below_regrown s2 dq osq
            clear hw'' dq osq r_a r_0 r_1 k_0 k_1
            replace HCX := hide (HCX.out.trans (bs3.mono HCX.out.size))
            replace HCB := hide (HCB.out.below bs3)
            replace HA := hide (HA.out.below bs3)
            replace HB := hide (HB.out.below bs3)
            replace HSpn := hide (HSpn.out.below bs3)
            replace HSpj := hide (HSpj.out.below bs3)
            replace HSpm := hide (HSpm.out.below bs3)
            replace HSpd := hide (HSpd.out.below bs3)
            replace HXgn := hide (HXgn.out.below bs3)
            replace HXgj := hide (HXgj.out.below bs3)
            replace HXgm := hide (HXgm.out.below bs3)
            replace HXgd := hide (HXgd.out.below bs3)
            replace HSph := hide (HSph.out.below bs3)
            replace HXgh := hide (HXgh.out.below bs3)
            replace HXD := hide (HXD.out.below bs3)
            have HBWs3 := hide (HBWs2.out.trans (bs3.mono HBWs2.out.size))
            clear bs3
            have l_a := run_ldP HCB.out.pa
            have l_b := run_ldP HCB.out.pb
            go_wp2_with fail
            refine (pastWithin_any a b _ HA.out HB.out).mono ?_
            rintro e s4 ⟨x, rfl, hx, bs4⟩
            have HX := hide hx
            clear hx l_a l_b
            replace HCX := hide (HCX.out.trans (bs4.mono HCX.out.size))
            replace HCB := hide (HCB.out.below bs4)
            replace HA := hide (HA.out.below bs4)
            replace HB := hide (HB.out.below bs4)
            replace HSpn := hide (HSpn.out.below bs4)
            replace HSpj := hide (HSpj.out.below bs4)
            replace HSpm := hide (HSpm.out.below bs4)
            replace HSpd := hide (HSpd.out.below bs4)
            replace HXgn := hide (HXgn.out.below bs4)
            replace HXgj := hide (HXgj.out.below bs4)
            replace HXgm := hide (HXgm.out.below bs4)
            replace HXgd := hide (HXgd.out.below bs4)
            replace HSph := hide (HSph.out.below bs4)
            replace HXgh := hide (HXgh.out.below bs4)
            replace HXD := hide (HXD.out.below bs4)
            have HBWs4 := hide (HBWs3.out.trans (bs4.mono HBWs3.out.size))
            clear bs4
            cases x with
            | false =>
              go_wp2_with fail
              go_roundw
              case rel => exact ⟨j + 1, by omega, by go_num, HCX.out⟩
              case measure => simp [intOf]; omega
            | true =>
              go_wp2_with fail
              go_roundw
              case rel => exact ⟨j + 1, by omega, by go_num, HCX.out⟩
              case measure => simp [intOf]; omega
          by_cases q2 : 15 < rep
          · have HVH : Hid (tB (dotIn ph.P ⟨rep, num⟩) = false) := tB_no (fun h => by have g := ((dot_holes HQph.out Hk.out).1 h).1; simp [V.isR] at g; omega)
            have cA : ∀ dd os, Calls Try.prog 13 #[PV a, RV ⟨rep, num⟩] (Sort.grow (redrawn w7 dd) os) (fun e w'' => e = .returned (.bool false) ∧ ∃ p : Regrown, w'' = Sort.grow (redrawn w7 p.d) p.os) := fun dd os => Calls.regrown_of (meantT a ⟨rep, num⟩ _ (HA.out.below (below_regrown w7 dd os)) false Hxa.out)
            have cB : ∀ dd os, Calls Try.prog 13 #[PV b, RV ⟨rep, num⟩] (Sort.grow (redrawn w7 dd) os) (fun e w'' => e = .returned (.bool xb) ∧ ∃ p : Regrown, w'' = Sort.grow (redrawn w7 p.d) p.os) := fun dd os => Calls.regrown_of (meantT b ⟨rep, num⟩ _ (HB.out.below (below_regrown w7 dd os)) xb Hxb.out)
            have r_a := ldP_re HCB.out.pa
            have r_b := ldP_re HCB.out.pb
            have r_d := ldD_re HXD.out.at
            go_wp2_with fail
            clear hst hld
            refine wp_region_quiet_below (by kernel_rfl) (by kernel_rfl) ?_
            repeat (with_reducible (refine wpQuiet_step ?_); intro K hK; go_simp; (try rw [if_neg (by unfold undef; simp)]); first | (with_reducible (refine hK _ ?_); clear hK K) | (apply Exists.intro; refine ⟨fun _ => ?_, hK _ ?_⟩; (first | (go_at_call_of 13 a; exact cA _ _) | (go_at_call_of 13 b; exact cB _ _)); clear hK K))
            with_reducible (refine wpQuiet_nil ?_)
            intro s1 hw'
            obtain ⟨⟨dq, osq⟩, hw''⟩ := hw'
            have bs1 : Below w7.heap.size w7 s1 := by rw [hw'']; exact below_regrown w7 dq osq
            clear hw'' dq osq cA cB r_a r_b r_d
            replace HCX := hide (HCX.out.trans (bs1.mono HCX.out.size))
            replace HCB := hide (HCB.out.below bs1)
            replace HA := hide (HA.out.below bs1)
            replace HB := hide (HB.out.below bs1)
            replace HSpn := hide (HSpn.out.below bs1)
            replace HSpj := hide (HSpj.out.below bs1)
            replace HSpm := hide (HSpm.out.below bs1)
            replace HSpd := hide (HSpd.out.below bs1)
            replace HXgn := hide (HXgn.out.below bs1)
            replace HXgj := hide (HXgj.out.below bs1)
            replace HXgm := hide (HXgm.out.below bs1)
            replace HXgd := hide (HXgd.out.below bs1)
            replace HSph := hide (HSph.out.below bs1)
            replace HXgh := hide (HXgh.out.below bs1)
            replace HXD := hide (HXD.out.below bs1)
            have HBWs1 := hide (HBWw7.out.trans (bs1.mono HBWw7.out.size))
            clear bs1
            have l_a := run_ldP HCB.out.pa
            have l_pn := run_ldP HXgn.out.at
            have l_pj := run_ldP HXgj.out.at
            have l_pm := run_ldP HXgm.out.at
            have l_pd := run_ldP HXgd.out.at
            have l_d := run_ldD HXD.out.at
            go_wp2_with fail
            refine (meantT pn ⟨rep, num⟩ _ HSpn.out false (by rw [tB_congr ((dot_isP HQpn.out).trans Iff.rfl)]; exact Hxa.out)).mono ?_
            rintro e t11 ⟨rfl, bt11⟩
            clear l_a l_pn l_pj l_pm l_pd l_d
            replace HCX := hide (HCX.out.trans (bt11.mono HCX.out.size))
            replace HCB := hide (HCB.out.below bt11)
            replace HA := hide (HA.out.below bt11)
            replace HB := hide (HB.out.below bt11)
            replace HSpn := hide (HSpn.out.below bt11)
            replace HSpj := hide (HSpj.out.below bt11)
            replace HSpm := hide (HSpm.out.below bt11)
            replace HSpd := hide (HSpd.out.below bt11)
            replace HXgn := hide (HXgn.out.below bt11)
            replace HXgj := hide (HXgj.out.below bt11)
            replace HXgm := hide (HXgm.out.below bt11)
            replace HXgd := hide (HXgd.out.below bt11)
            replace HSph := hide (HSph.out.below bt11)
            replace HXgh := hide (HXgh.out.below bt11)
            replace HXD := hide (HXD.out.below bt11)
            have HBWt11 := hide (HBWs1.out.trans (bt11.mono HBWs1.out.size))
            clear bt11
            have l_a := run_ldP HCB.out.pa
            have l_pn := run_ldP HXgn.out.at
            have l_pj := run_ldP HXgj.out.at
            have l_pm := run_ldP HXgm.out.at
            have l_pd := run_ldP HXgd.out.at
            have l_d := run_ldD HXD.out.at
            go_wp2_with fail
            refine (hasT a ⟨rep, num⟩ _ HA.out false Hxa.out).mono ?_
            rintro e t12 ⟨rfl, bt12⟩
            clear l_a l_pn l_pj l_pm l_pd l_d
            replace HCX := hide (HCX.out.trans (bt12.mono HCX.out.size))
            replace HCB := hide (HCB.out.below bt12)
            replace HA := hide (HA.out.below bt12)
            replace HB := hide (HB.out.below bt12)
            replace HSpn := hide (HSpn.out.below bt12)
            replace HSpj := hide (HSpj.out.below bt12)
            replace HSpm := hide (HSpm.out.below bt12)
            replace HSpd := hide (HSpd.out.below bt12)
            replace HXgn := hide (HXgn.out.below bt12)
            replace HXgj := hide (HXgj.out.below bt12)
            replace HXgm := hide (HXgm.out.below bt12)
            replace HXgd := hide (HXgd.out.below bt12)
            replace HSph := hide (HSph.out.below bt12)
            replace HXgh := hide (HXgh.out.below bt12)
            replace HXD := hide (HXD.out.below bt12)
            have HBWt12 := hide (HBWt11.out.trans (bt12.mono HBWt11.out.size))
            clear bt12
            have l_a := run_ldP HCB.out.pa
            have l_pn := run_ldP HXgn.out.at
            have l_pj := run_ldP HXgj.out.at
            have l_pm := run_ldP HXgm.out.at
            have l_pd := run_ldP HXgd.out.at
            have l_d := run_ldD HXD.out.at
            go_wp2_with fail
            refine (meantT pj ⟨rep, num⟩ _ HSpj.out xb (HVJ.out)).mono ?_
            rintro e t13 ⟨rfl, bt13⟩
            clear l_a l_pn l_pj l_pm l_pd l_d
            replace HCX := hide (HCX.out.trans (bt13.mono HCX.out.size))
            replace HCB := hide (HCB.out.below bt13)
            replace HA := hide (HA.out.below bt13)
            replace HB := hide (HB.out.below bt13)
            replace HSpn := hide (HSpn.out.below bt13)
            replace HSpj := hide (HSpj.out.below bt13)
            replace HSpm := hide (HSpm.out.below bt13)
            replace HSpd := hide (HSpd.out.below bt13)
            replace HXgn := hide (HXgn.out.below bt13)
            replace HXgj := hide (HXgj.out.below bt13)
            replace HXgm := hide (HXgm.out.below bt13)
            replace HXgd := hide (HXgd.out.below bt13)
            replace HSph := hide (HSph.out.below bt13)
            replace HXgh := hide (HXgh.out.below bt13)
            replace HXD := hide (HXD.out.below bt13)
            have HBWt13 := hide (HBWt12.out.trans (bt13.mono HBWt12.out.size))
            clear bt13
            have l_a := run_ldP HCB.out.pa
            have l_pn := run_ldP HXgn.out.at
            have l_pj := run_ldP HXgj.out.at
            have l_pm := run_ldP HXgm.out.at
            have l_pd := run_ldP HXgd.out.at
            have l_d := run_ldD HXD.out.at
            go_wp2_with fail
            refine (meantT pm ⟨rep, num⟩ _ HSpm.out false (HVM.out)).mono ?_
            rintro e t14 ⟨rfl, bt14⟩
            clear l_a l_pn l_pj l_pm l_pd l_d
            replace HCX := hide (HCX.out.trans (bt14.mono HCX.out.size))
            replace HCB := hide (HCB.out.below bt14)
            replace HA := hide (HA.out.below bt14)
            replace HB := hide (HB.out.below bt14)
            replace HSpn := hide (HSpn.out.below bt14)
            replace HSpj := hide (HSpj.out.below bt14)
            replace HSpm := hide (HSpm.out.below bt14)
            replace HSpd := hide (HSpd.out.below bt14)
            replace HXgn := hide (HXgn.out.below bt14)
            replace HXgj := hide (HXgj.out.below bt14)
            replace HXgm := hide (HXgm.out.below bt14)
            replace HXgd := hide (HXgd.out.below bt14)
            replace HSph := hide (HSph.out.below bt14)
            replace HXgh := hide (HXgh.out.below bt14)
            replace HXD := hide (HXD.out.below bt14)
            have HBWt14 := hide (HBWt13.out.trans (bt14.mono HBWt13.out.size))
            clear bt14
            have l_a := run_ldP HCB.out.pa
            have l_pn := run_ldP HXgn.out.at
            have l_pj := run_ldP HXgj.out.at
            have l_pm := run_ldP HXgm.out.at
            have l_pd := run_ldP HXgd.out.at
            have l_d := run_ldD HXD.out.at
            go_wp2_with fail
            refine (meantT pd ⟨rep, num⟩ _ HSpd.out false (HVD.out)).mono ?_
            rintro e t15 ⟨rfl, bt15⟩
            clear l_a l_pn l_pj l_pm l_pd l_d
            replace HCX := hide (HCX.out.trans (bt15.mono HCX.out.size))
            replace HCB := hide (HCB.out.below bt15)
            replace HA := hide (HA.out.below bt15)
            replace HB := hide (HB.out.below bt15)
            replace HSpn := hide (HSpn.out.below bt15)
            replace HSpj := hide (HSpj.out.below bt15)
            replace HSpm := hide (HSpm.out.below bt15)
            replace HSpd := hide (HSpd.out.below bt15)
            replace HXgn := hide (HXgn.out.below bt15)
            replace HXgj := hide (HXgj.out.below bt15)
            replace HXgm := hide (HXgm.out.below bt15)
            replace HXgd := hide (HXgd.out.below bt15)
            replace HSph := hide (HSph.out.below bt15)
            replace HXgh := hide (HXgh.out.below bt15)
            replace HXD := hide (HXD.out.below bt15)
            have HBWt15 := hide (HBWt14.out.trans (bt15.mono HBWt14.out.size))
            clear bt15
            have l_a := run_ldP HCB.out.pa
            have l_d := run_ldD HXD.out.at
            have k_0 := HXD.out.at.c0
            have k_1 : t15.cell? ⟨w6.heap.size, 1, none⟩ = some (.int .i64 num) := HXD.out.at.c1
            have r_a := ldP_re HCB.out.pa
            have r_d := ldD_re HXD.out.at
            have r_h := ldP_re HXgh.out.at
            have r_0 := cell_regrown k_0
            have r_1 := cell_regrown k_1
            have cH : ∀ dd os, Calls Try.prog 13 #[PV ph, RV ⟨rep, num⟩] (Sort.grow (redrawn t15 dd) os) (fun e w'' => e = .returned (.bool (false)) ∧ ∃ p : Regrown, w'' = Sort.grow (redrawn t15 p.d) p.os) := fun dd os => Calls.regrown_of (meantT ph ⟨rep, num⟩ _ (HSph.out.below (below_regrown t15 dd os)) (false) HVH.out)
            have cL : ∀ dd os, Calls Try.prog 15 #[PV a, .int .i64 rep] (Sort.grow (redrawn t15 dd) os) (fun e w'' => e = .returned (.int .i64 k) ∧ ∃ p : Regrown, w'' = Sort.grow (redrawn t15 p.d) p.os) := fun dd os => Calls.regrown_of (lastT a rep k _ (HA.out.below (below_regrown t15 dd os)) Hk.out)
            go_wp2_with fail
            refine wp_region_quiet_below (by kernel_rfl) (by kernel_rfl) ?_
            repeat (with_reducible (refine wpQuiet_step ?_); intro K hK; go_simp; (try rw [if_neg (by unfold undef; simp)]); first | (with_reducible (refine hK _ ?_); clear hK K) | (apply Exists.intro; refine ⟨fun _ => ?_, hK _ ?_⟩; (first | (go_at_call 13; exact cH _ _) | (go_at_call 15; exact cL _ _)); clear hK K))
            with_reducible (refine wpQuiet_nil ?_)
            intro s2 hw'
            obtain ⟨⟨dq, osq⟩, hw''⟩ := hw'
            have bs2 : Below t15.heap.size t15 s2 := by rw [hw'']; exact below_regrown t15 dq osq
            clear hw'' dq osq cH cL r_a r_d r_h r_0 r_1 l_a l_d k_0 k_1
            replace HCX := hide (HCX.out.trans (bs2.mono HCX.out.size))
            replace HCB := hide (HCB.out.below bs2)
            replace HA := hide (HA.out.below bs2)
            replace HB := hide (HB.out.below bs2)
            replace HSpn := hide (HSpn.out.below bs2)
            replace HSpj := hide (HSpj.out.below bs2)
            replace HSpm := hide (HSpm.out.below bs2)
            replace HSpd := hide (HSpd.out.below bs2)
            replace HXgn := hide (HXgn.out.below bs2)
            replace HXgj := hide (HXgj.out.below bs2)
            replace HXgm := hide (HXgm.out.below bs2)
            replace HXgd := hide (HXgd.out.below bs2)
            replace HSph := hide (HSph.out.below bs2)
            replace HXgh := hide (HXgh.out.below bs2)
            replace HXD := hide (HXD.out.below bs2)
            have HBWs2 := hide (HBWt15.out.trans (bs2.mono HBWt15.out.size))
            clear bs2
            have k_0 := HXD.out.at.c0
            have k_1 : s2.cell? ⟨w6.heap.size, 1, none⟩ = some (.int .i64 num) := HXD.out.at.c1
            have r_a := ldP_re HCB.out.pa
            have r_0 := cell_regrown k_0
            have r_1 := cell_regrown k_1
            go_wp2_with fail
            refine wp_region_quiet_below (by kernel_rfl) (by kernel_rfl) ?_
            repeat (with_reducible (refine wpQuiet_step ?_); intro K hK; go_simp; (try rw [if_neg (by unfold undef; simp)]); first | (with_reducible (refine hK _ ?_); clear hK K) | (apply Exists.intro; refine ⟨fun _ => ?_, hK _ ?_⟩; (fail); clear hK K))
            with_reducible (refine wpQuiet_nil ?_)
            intro s3 hw'
            obtain ⟨⟨dq, osq⟩, hw''⟩ := hw'
            have bs3 : Below s2.heap.size s2 s3 := by rw [hw'']; exact below_regrown s2 dq osq
            clear hw'' dq osq r_a r_0 r_1 k_0 k_1
            replace HCX := hide (HCX.out.trans (bs3.mono HCX.out.size))
            replace HCB := hide (HCB.out.below bs3)
            replace HA := hide (HA.out.below bs3)
            replace HB := hide (HB.out.below bs3)
            replace HSpn := hide (HSpn.out.below bs3)
            replace HSpj := hide (HSpj.out.below bs3)
            replace HSpm := hide (HSpm.out.below bs3)
            replace HSpd := hide (HSpd.out.below bs3)
            replace HXgn := hide (HXgn.out.below bs3)
            replace HXgj := hide (HXgj.out.below bs3)
            replace HXgm := hide (HXgm.out.below bs3)
            replace HXgd := hide (HXgd.out.below bs3)
            replace HSph := hide (HSph.out.below bs3)
            replace HXgh := hide (HXgh.out.below bs3)
            replace HXD := hide (HXD.out.below bs3)
            have HBWs3 := hide (HBWs2.out.trans (bs3.mono HBWs2.out.size))
            clear bs3
            have l_a := run_ldP HCB.out.pa
            have l_b := run_ldP HCB.out.pb
            go_wp2_with fail
            refine (pastWithin_any a b _ HA.out HB.out).mono ?_
            rintro e s4 ⟨x, rfl, hx, bs4⟩
            have HX := hide hx
            clear hx l_a l_b
            replace HCX := hide (HCX.out.trans (bs4.mono HCX.out.size))
            replace HCB := hide (HCB.out.below bs4)
            replace HA := hide (HA.out.below bs4)
            replace HB := hide (HB.out.below bs4)
            replace HSpn := hide (HSpn.out.below bs4)
            replace HSpj := hide (HSpj.out.below bs4)
            replace HSpm := hide (HSpm.out.below bs4)
            replace HSpd := hide (HSpd.out.below bs4)
            replace HXgn := hide (HXgn.out.below bs4)
            replace HXgj := hide (HXgj.out.below bs4)
            replace HXgm := hide (HXgm.out.below bs4)
            replace HXgd := hide (HXgd.out.below bs4)
            replace HSph := hide (HSph.out.below bs4)
            replace HXgh := hide (HXgh.out.below bs4)
            replace HXD := hide (HXD.out.below bs4)
            have HBWs4 := hide (HBWs3.out.trans (bs4.mono HBWs3.out.size))
            clear bs4
            cases x with
            | false =>
              go_wp2_with fail
              go_roundw
              case rel => exact ⟨j + 1, by omega, by go_num, HCX.out⟩
              case measure => simp [intOf]; omega
            | true =>
              go_wp2_with fail
              go_roundw
              case rel => exact ⟨j + 1, by omega, by go_num, HCX.out⟩
              case measure => simp [intOf]; omega
          by_cases q3 : num < 1
          · have HVH : Hid (tB (dotIn ph.P ⟨rep, num⟩) = false) := tB_no (fun h => by have g := ((dot_holes HQph.out Hk.out).1 h).1; simp [V.isR] at g; omega)
            have q3n : decide (1 ≤ num) = false := decide_eq_false (by omega)
            have cA : ∀ dd os, Calls Try.prog 13 #[PV a, RV ⟨rep, num⟩] (Sort.grow (redrawn w7 dd) os) (fun e w'' => e = .returned (.bool false) ∧ ∃ p : Regrown, w'' = Sort.grow (redrawn w7 p.d) p.os) := fun dd os => Calls.regrown_of (meantT a ⟨rep, num⟩ _ (HA.out.below (below_regrown w7 dd os)) false Hxa.out)
            have cB : ∀ dd os, Calls Try.prog 13 #[PV b, RV ⟨rep, num⟩] (Sort.grow (redrawn w7 dd) os) (fun e w'' => e = .returned (.bool xb) ∧ ∃ p : Regrown, w'' = Sort.grow (redrawn w7 p.d) p.os) := fun dd os => Calls.regrown_of (meantT b ⟨rep, num⟩ _ (HB.out.below (below_regrown w7 dd os)) xb Hxb.out)
            have r_a := ldP_re HCB.out.pa
            have r_b := ldP_re HCB.out.pb
            have r_d := ldD_re HXD.out.at
            go_wp2_with fail
            clear hst hld
            refine wp_region_quiet_below (by kernel_rfl) (by kernel_rfl) ?_
            repeat (with_reducible (refine wpQuiet_step ?_); intro K hK; go_simp; (try rw [if_neg (by unfold undef; simp)]); first | (with_reducible (refine hK _ ?_); clear hK K) | (apply Exists.intro; refine ⟨fun _ => ?_, hK _ ?_⟩; (first | (go_at_call_of 13 a; exact cA _ _) | (go_at_call_of 13 b; exact cB _ _)); clear hK K))
            with_reducible (refine wpQuiet_nil ?_)
            intro s1 hw'
            obtain ⟨⟨dq, osq⟩, hw''⟩ := hw'
            have bs1 : Below w7.heap.size w7 s1 := by rw [hw'']; exact below_regrown w7 dq osq
            clear hw'' dq osq cA cB r_a r_b r_d
            replace HCX := hide (HCX.out.trans (bs1.mono HCX.out.size))
            replace HCB := hide (HCB.out.below bs1)
            replace HA := hide (HA.out.below bs1)
            replace HB := hide (HB.out.below bs1)
            replace HSpn := hide (HSpn.out.below bs1)
            replace HSpj := hide (HSpj.out.below bs1)
            replace HSpm := hide (HSpm.out.below bs1)
            replace HSpd := hide (HSpd.out.below bs1)
            replace HXgn := hide (HXgn.out.below bs1)
            replace HXgj := hide (HXgj.out.below bs1)
            replace HXgm := hide (HXgm.out.below bs1)
            replace HXgd := hide (HXgd.out.below bs1)
            replace HSph := hide (HSph.out.below bs1)
            replace HXgh := hide (HXgh.out.below bs1)
            replace HXD := hide (HXD.out.below bs1)
            have HBWs1 := hide (HBWw7.out.trans (bs1.mono HBWw7.out.size))
            clear bs1
            have l_a := run_ldP HCB.out.pa
            have l_pn := run_ldP HXgn.out.at
            have l_pj := run_ldP HXgj.out.at
            have l_pm := run_ldP HXgm.out.at
            have l_pd := run_ldP HXgd.out.at
            have l_d := run_ldD HXD.out.at
            go_wp2_with fail
            refine (meantT pn ⟨rep, num⟩ _ HSpn.out false (by rw [tB_congr ((dot_isP HQpn.out).trans Iff.rfl)]; exact Hxa.out)).mono ?_
            rintro e t16 ⟨rfl, bt16⟩
            clear l_a l_pn l_pj l_pm l_pd l_d
            replace HCX := hide (HCX.out.trans (bt16.mono HCX.out.size))
            replace HCB := hide (HCB.out.below bt16)
            replace HA := hide (HA.out.below bt16)
            replace HB := hide (HB.out.below bt16)
            replace HSpn := hide (HSpn.out.below bt16)
            replace HSpj := hide (HSpj.out.below bt16)
            replace HSpm := hide (HSpm.out.below bt16)
            replace HSpd := hide (HSpd.out.below bt16)
            replace HXgn := hide (HXgn.out.below bt16)
            replace HXgj := hide (HXgj.out.below bt16)
            replace HXgm := hide (HXgm.out.below bt16)
            replace HXgd := hide (HXgd.out.below bt16)
            replace HSph := hide (HSph.out.below bt16)
            replace HXgh := hide (HXgh.out.below bt16)
            replace HXD := hide (HXD.out.below bt16)
            have HBWt16 := hide (HBWs1.out.trans (bt16.mono HBWs1.out.size))
            clear bt16
            have l_a := run_ldP HCB.out.pa
            have l_pn := run_ldP HXgn.out.at
            have l_pj := run_ldP HXgj.out.at
            have l_pm := run_ldP HXgm.out.at
            have l_pd := run_ldP HXgd.out.at
            have l_d := run_ldD HXD.out.at
            go_wp2_with fail
            refine (hasT a ⟨rep, num⟩ _ HA.out false Hxa.out).mono ?_
            rintro e t17 ⟨rfl, bt17⟩
            clear l_a l_pn l_pj l_pm l_pd l_d
            replace HCX := hide (HCX.out.trans (bt17.mono HCX.out.size))
            replace HCB := hide (HCB.out.below bt17)
            replace HA := hide (HA.out.below bt17)
            replace HB := hide (HB.out.below bt17)
            replace HSpn := hide (HSpn.out.below bt17)
            replace HSpj := hide (HSpj.out.below bt17)
            replace HSpm := hide (HSpm.out.below bt17)
            replace HSpd := hide (HSpd.out.below bt17)
            replace HXgn := hide (HXgn.out.below bt17)
            replace HXgj := hide (HXgj.out.below bt17)
            replace HXgm := hide (HXgm.out.below bt17)
            replace HXgd := hide (HXgd.out.below bt17)
            replace HSph := hide (HSph.out.below bt17)
            replace HXgh := hide (HXgh.out.below bt17)
            replace HXD := hide (HXD.out.below bt17)
            have HBWt17 := hide (HBWt16.out.trans (bt17.mono HBWt16.out.size))
            clear bt17
            have l_a := run_ldP HCB.out.pa
            have l_pn := run_ldP HXgn.out.at
            have l_pj := run_ldP HXgj.out.at
            have l_pm := run_ldP HXgm.out.at
            have l_pd := run_ldP HXgd.out.at
            have l_d := run_ldD HXD.out.at
            go_wp2_with fail
            refine (meantT pj ⟨rep, num⟩ _ HSpj.out xb (HVJ.out)).mono ?_
            rintro e t18 ⟨rfl, bt18⟩
            clear l_a l_pn l_pj l_pm l_pd l_d
            replace HCX := hide (HCX.out.trans (bt18.mono HCX.out.size))
            replace HCB := hide (HCB.out.below bt18)
            replace HA := hide (HA.out.below bt18)
            replace HB := hide (HB.out.below bt18)
            replace HSpn := hide (HSpn.out.below bt18)
            replace HSpj := hide (HSpj.out.below bt18)
            replace HSpm := hide (HSpm.out.below bt18)
            replace HSpd := hide (HSpd.out.below bt18)
            replace HXgn := hide (HXgn.out.below bt18)
            replace HXgj := hide (HXgj.out.below bt18)
            replace HXgm := hide (HXgm.out.below bt18)
            replace HXgd := hide (HXgd.out.below bt18)
            replace HSph := hide (HSph.out.below bt18)
            replace HXgh := hide (HXgh.out.below bt18)
            replace HXD := hide (HXD.out.below bt18)
            have HBWt18 := hide (HBWt17.out.trans (bt18.mono HBWt17.out.size))
            clear bt18
            have l_a := run_ldP HCB.out.pa
            have l_pn := run_ldP HXgn.out.at
            have l_pj := run_ldP HXgj.out.at
            have l_pm := run_ldP HXgm.out.at
            have l_pd := run_ldP HXgd.out.at
            have l_d := run_ldD HXD.out.at
            go_wp2_with fail
            refine (meantT pm ⟨rep, num⟩ _ HSpm.out false (HVM.out)).mono ?_
            rintro e t19 ⟨rfl, bt19⟩
            clear l_a l_pn l_pj l_pm l_pd l_d
            replace HCX := hide (HCX.out.trans (bt19.mono HCX.out.size))
            replace HCB := hide (HCB.out.below bt19)
            replace HA := hide (HA.out.below bt19)
            replace HB := hide (HB.out.below bt19)
            replace HSpn := hide (HSpn.out.below bt19)
            replace HSpj := hide (HSpj.out.below bt19)
            replace HSpm := hide (HSpm.out.below bt19)
            replace HSpd := hide (HSpd.out.below bt19)
            replace HXgn := hide (HXgn.out.below bt19)
            replace HXgj := hide (HXgj.out.below bt19)
            replace HXgm := hide (HXgm.out.below bt19)
            replace HXgd := hide (HXgd.out.below bt19)
            replace HSph := hide (HSph.out.below bt19)
            replace HXgh := hide (HXgh.out.below bt19)
            replace HXD := hide (HXD.out.below bt19)
            have HBWt19 := hide (HBWt18.out.trans (bt19.mono HBWt18.out.size))
            clear bt19
            have l_a := run_ldP HCB.out.pa
            have l_pn := run_ldP HXgn.out.at
            have l_pj := run_ldP HXgj.out.at
            have l_pm := run_ldP HXgm.out.at
            have l_pd := run_ldP HXgd.out.at
            have l_d := run_ldD HXD.out.at
            go_wp2_with fail
            refine (meantT pd ⟨rep, num⟩ _ HSpd.out false (HVD.out)).mono ?_
            rintro e t20 ⟨rfl, bt20⟩
            clear l_a l_pn l_pj l_pm l_pd l_d
            replace HCX := hide (HCX.out.trans (bt20.mono HCX.out.size))
            replace HCB := hide (HCB.out.below bt20)
            replace HA := hide (HA.out.below bt20)
            replace HB := hide (HB.out.below bt20)
            replace HSpn := hide (HSpn.out.below bt20)
            replace HSpj := hide (HSpj.out.below bt20)
            replace HSpm := hide (HSpm.out.below bt20)
            replace HSpd := hide (HSpd.out.below bt20)
            replace HXgn := hide (HXgn.out.below bt20)
            replace HXgj := hide (HXgj.out.below bt20)
            replace HXgm := hide (HXgm.out.below bt20)
            replace HXgd := hide (HXgd.out.below bt20)
            replace HSph := hide (HSph.out.below bt20)
            replace HXgh := hide (HXgh.out.below bt20)
            replace HXD := hide (HXD.out.below bt20)
            have HBWt20 := hide (HBWt19.out.trans (bt20.mono HBWt19.out.size))
            clear bt20
            have l_a := run_ldP HCB.out.pa
            have l_d := run_ldD HXD.out.at
            have k_0 := HXD.out.at.c0
            have k_1 : t20.cell? ⟨w6.heap.size, 1, none⟩ = some (.int .i64 num) := HXD.out.at.c1
            have r_a := ldP_re HCB.out.pa
            have r_d := ldD_re HXD.out.at
            have r_h := ldP_re HXgh.out.at
            have r_0 := cell_regrown k_0
            have r_1 := cell_regrown k_1
            have cH : ∀ dd os, Calls Try.prog 13 #[PV ph, RV ⟨rep, num⟩] (Sort.grow (redrawn t20 dd) os) (fun e w'' => e = .returned (.bool (false)) ∧ ∃ p : Regrown, w'' = Sort.grow (redrawn t20 p.d) p.os) := fun dd os => Calls.regrown_of (meantT ph ⟨rep, num⟩ _ (HSph.out.below (below_regrown t20 dd os)) (false) HVH.out)
            have cL : ∀ dd os, Calls Try.prog 15 #[PV a, .int .i64 rep] (Sort.grow (redrawn t20 dd) os) (fun e w'' => e = .returned (.int .i64 k) ∧ ∃ p : Regrown, w'' = Sort.grow (redrawn t20 p.d) p.os) := fun dd os => Calls.regrown_of (lastT a rep k _ (HA.out.below (below_regrown t20 dd os)) Hk.out)
            go_wp2_with fail
            refine wp_region_quiet_below (by kernel_rfl) (by kernel_rfl) ?_
            repeat (with_reducible (refine wpQuiet_step ?_); intro K hK; go_simp; (try rw [if_neg (by unfold undef; simp)]); first | (with_reducible (refine hK _ ?_); clear hK K) | (apply Exists.intro; refine ⟨fun _ => ?_, hK _ ?_⟩; (first | (go_at_call 13; exact cH _ _) | (go_at_call 15; exact cL _ _)); clear hK K))
            with_reducible (refine wpQuiet_nil ?_)
            intro s2 hw'
            obtain ⟨⟨dq, osq⟩, hw''⟩ := hw'
            have bs2 : Below t20.heap.size t20 s2 := by rw [hw'']; exact below_regrown t20 dq osq
            clear hw'' dq osq cH cL r_a r_d r_h r_0 r_1 l_a l_d k_0 k_1
            replace HCX := hide (HCX.out.trans (bs2.mono HCX.out.size))
            replace HCB := hide (HCB.out.below bs2)
            replace HA := hide (HA.out.below bs2)
            replace HB := hide (HB.out.below bs2)
            replace HSpn := hide (HSpn.out.below bs2)
            replace HSpj := hide (HSpj.out.below bs2)
            replace HSpm := hide (HSpm.out.below bs2)
            replace HSpd := hide (HSpd.out.below bs2)
            replace HXgn := hide (HXgn.out.below bs2)
            replace HXgj := hide (HXgj.out.below bs2)
            replace HXgm := hide (HXgm.out.below bs2)
            replace HXgd := hide (HXgd.out.below bs2)
            replace HSph := hide (HSph.out.below bs2)
            replace HXgh := hide (HXgh.out.below bs2)
            replace HXD := hide (HXD.out.below bs2)
            have HBWs2 := hide (HBWt20.out.trans (bs2.mono HBWt20.out.size))
            clear bs2
            have k_0 := HXD.out.at.c0
            have k_1 : s2.cell? ⟨w6.heap.size, 1, none⟩ = some (.int .i64 num) := HXD.out.at.c1
            have r_a := ldP_re HCB.out.pa
            have r_0 := cell_regrown k_0
            have r_1 := cell_regrown k_1
            go_wp2_with fail
            refine wp_region_quiet_below (by kernel_rfl) (by kernel_rfl) ?_
            repeat (with_reducible (refine wpQuiet_step ?_); intro K hK; go_simp; (try rw [if_neg (by unfold undef; simp)]); first | (with_reducible (refine hK _ ?_); clear hK K) | (apply Exists.intro; refine ⟨fun _ => ?_, hK _ ?_⟩; (fail); clear hK K))
            with_reducible (refine wpQuiet_nil ?_)
            intro s3 hw'
            obtain ⟨⟨dq, osq⟩, hw''⟩ := hw'
            have bs3 : Below s2.heap.size s2 s3 := by rw [hw'']; exact below_regrown s2 dq osq
            clear hw'' dq osq r_a r_0 r_1 k_0 k_1
            replace HCX := hide (HCX.out.trans (bs3.mono HCX.out.size))
            replace HCB := hide (HCB.out.below bs3)
            replace HA := hide (HA.out.below bs3)
            replace HB := hide (HB.out.below bs3)
            replace HSpn := hide (HSpn.out.below bs3)
            replace HSpj := hide (HSpj.out.below bs3)
            replace HSpm := hide (HSpm.out.below bs3)
            replace HSpd := hide (HSpd.out.below bs3)
            replace HXgn := hide (HXgn.out.below bs3)
            replace HXgj := hide (HXgj.out.below bs3)
            replace HXgm := hide (HXgm.out.below bs3)
            replace HXgd := hide (HXgd.out.below bs3)
            replace HSph := hide (HSph.out.below bs3)
            replace HXgh := hide (HXgh.out.below bs3)
            replace HXD := hide (HXD.out.below bs3)
            have HBWs3 := hide (HBWs2.out.trans (bs3.mono HBWs2.out.size))
            clear bs3
            have l_a := run_ldP HCB.out.pa
            have l_b := run_ldP HCB.out.pb
            go_wp2_with fail
            refine (pastWithin_any a b _ HA.out HB.out).mono ?_
            rintro e s4 ⟨x, rfl, hx, bs4⟩
            have HX := hide hx
            clear hx l_a l_b
            replace HCX := hide (HCX.out.trans (bs4.mono HCX.out.size))
            replace HCB := hide (HCB.out.below bs4)
            replace HA := hide (HA.out.below bs4)
            replace HB := hide (HB.out.below bs4)
            replace HSpn := hide (HSpn.out.below bs4)
            replace HSpj := hide (HSpj.out.below bs4)
            replace HSpm := hide (HSpm.out.below bs4)
            replace HSpd := hide (HSpd.out.below bs4)
            replace HXgn := hide (HXgn.out.below bs4)
            replace HXgj := hide (HXgj.out.below bs4)
            replace HXgm := hide (HXgm.out.below bs4)
            replace HXgd := hide (HXgd.out.below bs4)
            replace HSph := hide (HSph.out.below bs4)
            replace HXgh := hide (HXgh.out.below bs4)
            replace HXD := hide (HXD.out.below bs4)
            have HBWs4 := hide (HBWs3.out.trans (bs4.mono HBWs3.out.size))
            clear bs4
            cases x with
            | false =>
              go_wp2_with fail
              go_roundw
              case rel => exact ⟨j + 1, by omega, by go_num, HCX.out⟩
              case measure => simp [intOf]; omega
            | true =>
              go_wp2_with fail
              go_roundw
              case rel => exact ⟨j + 1, by omega, by go_num, HCX.out⟩
              case measure => simp [intOf]; omega
          have hr0 : 0 ≤ rep := by omega
          have hr1 : rep ≤ 15 := by omega
          have hr2 : 1 ≤ num := by omega
          by_cases q5 : num < k
          · have HVH : Hid (tB (dotIn ph.P ⟨rep, num⟩) = true) := tB_yes ((dot_holes HQph.out Hk.out).2 ⟨⟨by simp [V.isR]; omega, by show 1 ≤ num; omega⟩, HND.out, q5⟩)
            have cA : ∀ dd os, Calls Try.prog 13 #[PV a, RV ⟨rep, num⟩] (Sort.grow (redrawn w7 dd) os) (fun e w'' => e = .returned (.bool false) ∧ ∃ p : Regrown, w'' = Sort.grow (redrawn w7 p.d) p.os) := fun dd os => Calls.regrown_of (meantT a ⟨rep, num⟩ _ (HA.out.below (below_regrown w7 dd os)) false Hxa.out)
            have cB : ∀ dd os, Calls Try.prog 13 #[PV b, RV ⟨rep, num⟩] (Sort.grow (redrawn w7 dd) os) (fun e w'' => e = .returned (.bool xb) ∧ ∃ p : Regrown, w'' = Sort.grow (redrawn w7 p.d) p.os) := fun dd os => Calls.regrown_of (meantT b ⟨rep, num⟩ _ (HB.out.below (below_regrown w7 dd os)) xb Hxb.out)
            have r_a := ldP_re HCB.out.pa
            have r_b := ldP_re HCB.out.pb
            have r_d := ldD_re HXD.out.at
            go_wp2_with fail
            clear hst hld
            refine wp_region_quiet_below (by kernel_rfl) (by kernel_rfl) ?_
            repeat (with_reducible (refine wpQuiet_step ?_); intro K hK; go_simp; (try rw [if_neg (by unfold undef; simp)]); first | (with_reducible (refine hK _ ?_); clear hK K) | (apply Exists.intro; refine ⟨fun _ => ?_, hK _ ?_⟩; (first | (go_at_call_of 13 a; exact cA _ _) | (go_at_call_of 13 b; exact cB _ _)); clear hK K))
            with_reducible (refine wpQuiet_nil ?_)
            intro s1 hw'
            obtain ⟨⟨dq, osq⟩, hw''⟩ := hw'
            have bs1 : Below w7.heap.size w7 s1 := by rw [hw'']; exact below_regrown w7 dq osq
            clear hw'' dq osq cA cB r_a r_b r_d
            replace HCX := hide (HCX.out.trans (bs1.mono HCX.out.size))
            replace HCB := hide (HCB.out.below bs1)
            replace HA := hide (HA.out.below bs1)
            replace HB := hide (HB.out.below bs1)
            replace HSpn := hide (HSpn.out.below bs1)
            replace HSpj := hide (HSpj.out.below bs1)
            replace HSpm := hide (HSpm.out.below bs1)
            replace HSpd := hide (HSpd.out.below bs1)
            replace HXgn := hide (HXgn.out.below bs1)
            replace HXgj := hide (HXgj.out.below bs1)
            replace HXgm := hide (HXgm.out.below bs1)
            replace HXgd := hide (HXgd.out.below bs1)
            replace HSph := hide (HSph.out.below bs1)
            replace HXgh := hide (HXgh.out.below bs1)
            replace HXD := hide (HXD.out.below bs1)
            have HBWs1 := hide (HBWw7.out.trans (bs1.mono HBWw7.out.size))
            clear bs1
            have l_a := run_ldP HCB.out.pa
            have l_pn := run_ldP HXgn.out.at
            have l_pj := run_ldP HXgj.out.at
            have l_pm := run_ldP HXgm.out.at
            have l_pd := run_ldP HXgd.out.at
            have l_d := run_ldD HXD.out.at
            go_wp2_with fail
            refine (meantT pn ⟨rep, num⟩ _ HSpn.out false (by rw [tB_congr ((dot_isP HQpn.out).trans Iff.rfl)]; exact Hxa.out)).mono ?_
            rintro e t21 ⟨rfl, bt21⟩
            clear l_a l_pn l_pj l_pm l_pd l_d
            replace HCX := hide (HCX.out.trans (bt21.mono HCX.out.size))
            replace HCB := hide (HCB.out.below bt21)
            replace HA := hide (HA.out.below bt21)
            replace HB := hide (HB.out.below bt21)
            replace HSpn := hide (HSpn.out.below bt21)
            replace HSpj := hide (HSpj.out.below bt21)
            replace HSpm := hide (HSpm.out.below bt21)
            replace HSpd := hide (HSpd.out.below bt21)
            replace HXgn := hide (HXgn.out.below bt21)
            replace HXgj := hide (HXgj.out.below bt21)
            replace HXgm := hide (HXgm.out.below bt21)
            replace HXgd := hide (HXgd.out.below bt21)
            replace HSph := hide (HSph.out.below bt21)
            replace HXgh := hide (HXgh.out.below bt21)
            replace HXD := hide (HXD.out.below bt21)
            have HBWt21 := hide (HBWs1.out.trans (bt21.mono HBWs1.out.size))
            clear bt21
            have l_a := run_ldP HCB.out.pa
            have l_pn := run_ldP HXgn.out.at
            have l_pj := run_ldP HXgj.out.at
            have l_pm := run_ldP HXgm.out.at
            have l_pd := run_ldP HXgd.out.at
            have l_d := run_ldD HXD.out.at
            go_wp2_with fail
            refine (hasT a ⟨rep, num⟩ _ HA.out false Hxa.out).mono ?_
            rintro e t22 ⟨rfl, bt22⟩
            clear l_a l_pn l_pj l_pm l_pd l_d
            replace HCX := hide (HCX.out.trans (bt22.mono HCX.out.size))
            replace HCB := hide (HCB.out.below bt22)
            replace HA := hide (HA.out.below bt22)
            replace HB := hide (HB.out.below bt22)
            replace HSpn := hide (HSpn.out.below bt22)
            replace HSpj := hide (HSpj.out.below bt22)
            replace HSpm := hide (HSpm.out.below bt22)
            replace HSpd := hide (HSpd.out.below bt22)
            replace HXgn := hide (HXgn.out.below bt22)
            replace HXgj := hide (HXgj.out.below bt22)
            replace HXgm := hide (HXgm.out.below bt22)
            replace HXgd := hide (HXgd.out.below bt22)
            replace HSph := hide (HSph.out.below bt22)
            replace HXgh := hide (HXgh.out.below bt22)
            replace HXD := hide (HXD.out.below bt22)
            have HBWt22 := hide (HBWt21.out.trans (bt22.mono HBWt21.out.size))
            clear bt22
            have l_a := run_ldP HCB.out.pa
            have l_pn := run_ldP HXgn.out.at
            have l_pj := run_ldP HXgj.out.at
            have l_pm := run_ldP HXgm.out.at
            have l_pd := run_ldP HXgd.out.at
            have l_d := run_ldD HXD.out.at
            go_wp2_with fail
            refine (meantT pj ⟨rep, num⟩ _ HSpj.out xb (HVJ.out)).mono ?_
            rintro e t23 ⟨rfl, bt23⟩
            clear l_a l_pn l_pj l_pm l_pd l_d
            replace HCX := hide (HCX.out.trans (bt23.mono HCX.out.size))
            replace HCB := hide (HCB.out.below bt23)
            replace HA := hide (HA.out.below bt23)
            replace HB := hide (HB.out.below bt23)
            replace HSpn := hide (HSpn.out.below bt23)
            replace HSpj := hide (HSpj.out.below bt23)
            replace HSpm := hide (HSpm.out.below bt23)
            replace HSpd := hide (HSpd.out.below bt23)
            replace HXgn := hide (HXgn.out.below bt23)
            replace HXgj := hide (HXgj.out.below bt23)
            replace HXgm := hide (HXgm.out.below bt23)
            replace HXgd := hide (HXgd.out.below bt23)
            replace HSph := hide (HSph.out.below bt23)
            replace HXgh := hide (HXgh.out.below bt23)
            replace HXD := hide (HXD.out.below bt23)
            have HBWt23 := hide (HBWt22.out.trans (bt23.mono HBWt22.out.size))
            clear bt23
            have l_a := run_ldP HCB.out.pa
            have l_pn := run_ldP HXgn.out.at
            have l_pj := run_ldP HXgj.out.at
            have l_pm := run_ldP HXgm.out.at
            have l_pd := run_ldP HXgd.out.at
            have l_d := run_ldD HXD.out.at
            go_wp2_with fail
            refine (meantT pm ⟨rep, num⟩ _ HSpm.out false (HVM.out)).mono ?_
            rintro e t24 ⟨rfl, bt24⟩
            clear l_a l_pn l_pj l_pm l_pd l_d
            replace HCX := hide (HCX.out.trans (bt24.mono HCX.out.size))
            replace HCB := hide (HCB.out.below bt24)
            replace HA := hide (HA.out.below bt24)
            replace HB := hide (HB.out.below bt24)
            replace HSpn := hide (HSpn.out.below bt24)
            replace HSpj := hide (HSpj.out.below bt24)
            replace HSpm := hide (HSpm.out.below bt24)
            replace HSpd := hide (HSpd.out.below bt24)
            replace HXgn := hide (HXgn.out.below bt24)
            replace HXgj := hide (HXgj.out.below bt24)
            replace HXgm := hide (HXgm.out.below bt24)
            replace HXgd := hide (HXgd.out.below bt24)
            replace HSph := hide (HSph.out.below bt24)
            replace HXgh := hide (HXgh.out.below bt24)
            replace HXD := hide (HXD.out.below bt24)
            have HBWt24 := hide (HBWt23.out.trans (bt24.mono HBWt23.out.size))
            clear bt24
            have l_a := run_ldP HCB.out.pa
            have l_pn := run_ldP HXgn.out.at
            have l_pj := run_ldP HXgj.out.at
            have l_pm := run_ldP HXgm.out.at
            have l_pd := run_ldP HXgd.out.at
            have l_d := run_ldD HXD.out.at
            go_wp2_with fail
            refine (meantT pd ⟨rep, num⟩ _ HSpd.out false (HVD.out)).mono ?_
            rintro e t25 ⟨rfl, bt25⟩
            clear l_a l_pn l_pj l_pm l_pd l_d
            replace HCX := hide (HCX.out.trans (bt25.mono HCX.out.size))
            replace HCB := hide (HCB.out.below bt25)
            replace HA := hide (HA.out.below bt25)
            replace HB := hide (HB.out.below bt25)
            replace HSpn := hide (HSpn.out.below bt25)
            replace HSpj := hide (HSpj.out.below bt25)
            replace HSpm := hide (HSpm.out.below bt25)
            replace HSpd := hide (HSpd.out.below bt25)
            replace HXgn := hide (HXgn.out.below bt25)
            replace HXgj := hide (HXgj.out.below bt25)
            replace HXgm := hide (HXgm.out.below bt25)
            replace HXgd := hide (HXgd.out.below bt25)
            replace HSph := hide (HSph.out.below bt25)
            replace HXgh := hide (HXgh.out.below bt25)
            replace HXD := hide (HXD.out.below bt25)
            have HBWt25 := hide (HBWt24.out.trans (bt25.mono HBWt24.out.size))
            clear bt25
            have l_a := run_ldP HCB.out.pa
            have l_d := run_ldD HXD.out.at
            have k_0 := HXD.out.at.c0
            have k_1 : t25.cell? ⟨w6.heap.size, 1, none⟩ = some (.int .i64 num) := HXD.out.at.c1
            have r_a := ldP_re HCB.out.pa
            have r_d := ldD_re HXD.out.at
            have r_h := ldP_re HXgh.out.at
            have r_0 := cell_regrown k_0
            have r_1 := cell_regrown k_1
            have cH : ∀ dd os, Calls Try.prog 13 #[PV ph, RV ⟨rep, num⟩] (Sort.grow (redrawn t25 dd) os) (fun e w'' => e = .returned (.bool (true)) ∧ ∃ p : Regrown, w'' = Sort.grow (redrawn t25 p.d) p.os) := fun dd os => Calls.regrown_of (meantT ph ⟨rep, num⟩ _ (HSph.out.below (below_regrown t25 dd os)) (true) HVH.out)
            have cL : ∀ dd os, Calls Try.prog 15 #[PV a, .int .i64 rep] (Sort.grow (redrawn t25 dd) os) (fun e w'' => e = .returned (.int .i64 k) ∧ ∃ p : Regrown, w'' = Sort.grow (redrawn t25 p.d) p.os) := fun dd os => Calls.regrown_of (lastT a rep k _ (HA.out.below (below_regrown t25 dd os)) Hk.out)
            go_wp2_with fail
            refine wp_region_quiet_below (by kernel_rfl) (by kernel_rfl) ?_
            repeat (with_reducible (refine wpQuiet_step ?_); intro K hK; go_simp; (try rw [if_neg (by unfold undef; simp)]); first | (with_reducible (refine hK _ ?_); clear hK K) | (apply Exists.intro; refine ⟨fun _ => ?_, hK _ ?_⟩; (first | (go_at_call 13; exact cH _ _) | (go_at_call 15; exact cL _ _)); clear hK K))
            with_reducible (refine wpQuiet_nil ?_)
            intro s2 hw'
            obtain ⟨⟨dq, osq⟩, hw''⟩ := hw'
            have bs2 : Below t25.heap.size t25 s2 := by rw [hw'']; exact below_regrown t25 dq osq
            clear hw'' dq osq cH cL r_a r_d r_h r_0 r_1 l_a l_d k_0 k_1
            replace HCX := hide (HCX.out.trans (bs2.mono HCX.out.size))
            replace HCB := hide (HCB.out.below bs2)
            replace HA := hide (HA.out.below bs2)
            replace HB := hide (HB.out.below bs2)
            replace HSpn := hide (HSpn.out.below bs2)
            replace HSpj := hide (HSpj.out.below bs2)
            replace HSpm := hide (HSpm.out.below bs2)
            replace HSpd := hide (HSpd.out.below bs2)
            replace HXgn := hide (HXgn.out.below bs2)
            replace HXgj := hide (HXgj.out.below bs2)
            replace HXgm := hide (HXgm.out.below bs2)
            replace HXgd := hide (HXgd.out.below bs2)
            replace HSph := hide (HSph.out.below bs2)
            replace HXgh := hide (HXgh.out.below bs2)
            replace HXD := hide (HXD.out.below bs2)
            have HBWs2 := hide (HBWt25.out.trans (bs2.mono HBWt25.out.size))
            clear bs2
            have k_0 := HXD.out.at.c0
            have k_1 : s2.cell? ⟨w6.heap.size, 1, none⟩ = some (.int .i64 num) := HXD.out.at.c1
            have r_a := ldP_re HCB.out.pa
            have r_0 := cell_regrown k_0
            have r_1 := cell_regrown k_1
            go_wp2_with fail
            refine wp_region_quiet_below (by kernel_rfl) (by kernel_rfl) ?_
            repeat (with_reducible (refine wpQuiet_step ?_); intro K hK; go_simp; (try rw [if_neg (by unfold undef; simp)]); first | (with_reducible (refine hK _ ?_); clear hK K) | (apply Exists.intro; refine ⟨fun _ => ?_, hK _ ?_⟩; (fail); clear hK K))
            with_reducible (refine wpQuiet_nil ?_)
            intro s3 hw'
            obtain ⟨⟨dq, osq⟩, hw''⟩ := hw'
            have bs3 : Below s2.heap.size s2 s3 := by rw [hw'']; exact below_regrown s2 dq osq
            clear hw'' dq osq r_a r_0 r_1 k_0 k_1
            replace HCX := hide (HCX.out.trans (bs3.mono HCX.out.size))
            replace HCB := hide (HCB.out.below bs3)
            replace HA := hide (HA.out.below bs3)
            replace HB := hide (HB.out.below bs3)
            replace HSpn := hide (HSpn.out.below bs3)
            replace HSpj := hide (HSpj.out.below bs3)
            replace HSpm := hide (HSpm.out.below bs3)
            replace HSpd := hide (HSpd.out.below bs3)
            replace HXgn := hide (HXgn.out.below bs3)
            replace HXgj := hide (HXgj.out.below bs3)
            replace HXgm := hide (HXgm.out.below bs3)
            replace HXgd := hide (HXgd.out.below bs3)
            replace HSph := hide (HSph.out.below bs3)
            replace HXgh := hide (HXgh.out.below bs3)
            replace HXD := hide (HXD.out.below bs3)
            have HBWs3 := hide (HBWs2.out.trans (bs3.mono HBWs2.out.size))
            clear bs3
            have l_a := run_ldP HCB.out.pa
            have l_b := run_ldP HCB.out.pb
            go_wp2_with fail
            refine (pastWithin_any a b _ HA.out HB.out).mono ?_
            rintro e s4 ⟨x, rfl, hx, bs4⟩
            have HX := hide hx
            clear hx l_a l_b
            replace HCX := hide (HCX.out.trans (bs4.mono HCX.out.size))
            replace HCB := hide (HCB.out.below bs4)
            replace HA := hide (HA.out.below bs4)
            replace HB := hide (HB.out.below bs4)
            replace HSpn := hide (HSpn.out.below bs4)
            replace HSpj := hide (HSpj.out.below bs4)
            replace HSpm := hide (HSpm.out.below bs4)
            replace HSpd := hide (HSpd.out.below bs4)
            replace HXgn := hide (HXgn.out.below bs4)
            replace HXgj := hide (HXgj.out.below bs4)
            replace HXgm := hide (HXgm.out.below bs4)
            replace HXgd := hide (HXgd.out.below bs4)
            replace HSph := hide (HSph.out.below bs4)
            replace HXgh := hide (HXgh.out.below bs4)
            replace HXD := hide (HXD.out.below bs4)
            have HBWs4 := hide (HBWs3.out.trans (bs4.mono HBWs3.out.size))
            clear bs4
            cases x with
            | false =>
              go_wp2_with fail
              go_roundw
              case rel => exact ⟨j + 1, by omega, by go_num, HCX.out⟩
              case measure => simp [intOf]; omega
            | true =>
              go_wp2_with fail
              go_roundw
              case rel => exact ⟨j + 1, by omega, by go_num, HCX.out⟩
              case measure => simp [intOf]; omega
          have HVH : Hid (tB (dotIn ph.P ⟨rep, num⟩) = false) := tB_no (fun h => q5 ((dot_holes HQph.out Hk.out).1 h).2.2)
          have cA : ∀ dd os, Calls Try.prog 13 #[PV a, RV ⟨rep, num⟩] (Sort.grow (redrawn w7 dd) os) (fun e w'' => e = .returned (.bool false) ∧ ∃ p : Regrown, w'' = Sort.grow (redrawn w7 p.d) p.os) := fun dd os => Calls.regrown_of (meantT a ⟨rep, num⟩ _ (HA.out.below (below_regrown w7 dd os)) false Hxa.out)
          have cB : ∀ dd os, Calls Try.prog 13 #[PV b, RV ⟨rep, num⟩] (Sort.grow (redrawn w7 dd) os) (fun e w'' => e = .returned (.bool xb) ∧ ∃ p : Regrown, w'' = Sort.grow (redrawn w7 p.d) p.os) := fun dd os => Calls.regrown_of (meantT b ⟨rep, num⟩ _ (HB.out.below (below_regrown w7 dd os)) xb Hxb.out)
          have r_a := ldP_re HCB.out.pa
          have r_b := ldP_re HCB.out.pb
          have r_d := ldD_re HXD.out.at
          go_wp2_with fail
          clear hst hld
          refine wp_region_quiet_below (by kernel_rfl) (by kernel_rfl) ?_
          repeat (with_reducible (refine wpQuiet_step ?_); intro K hK; go_simp; (try rw [if_neg (by unfold undef; simp)]); first | (with_reducible (refine hK _ ?_); clear hK K) | (apply Exists.intro; refine ⟨fun _ => ?_, hK _ ?_⟩; (first | (go_at_call_of 13 a; exact cA _ _) | (go_at_call_of 13 b; exact cB _ _)); clear hK K))
          with_reducible (refine wpQuiet_nil ?_)
          intro s1 hw'
          obtain ⟨⟨dq, osq⟩, hw''⟩ := hw'
          have bs1 : Below w7.heap.size w7 s1 := by rw [hw'']; exact below_regrown w7 dq osq
          clear hw'' dq osq cA cB r_a r_b r_d
          replace HCX := hide (HCX.out.trans (bs1.mono HCX.out.size))
          replace HCB := hide (HCB.out.below bs1)
          replace HA := hide (HA.out.below bs1)
          replace HB := hide (HB.out.below bs1)
          replace HSpn := hide (HSpn.out.below bs1)
          replace HSpj := hide (HSpj.out.below bs1)
          replace HSpm := hide (HSpm.out.below bs1)
          replace HSpd := hide (HSpd.out.below bs1)
          replace HXgn := hide (HXgn.out.below bs1)
          replace HXgj := hide (HXgj.out.below bs1)
          replace HXgm := hide (HXgm.out.below bs1)
          replace HXgd := hide (HXgd.out.below bs1)
          replace HSph := hide (HSph.out.below bs1)
          replace HXgh := hide (HXgh.out.below bs1)
          replace HXD := hide (HXD.out.below bs1)
          have HBWs1 := hide (HBWw7.out.trans (bs1.mono HBWw7.out.size))
          clear bs1
          have l_a := run_ldP HCB.out.pa
          have l_pn := run_ldP HXgn.out.at
          have l_pj := run_ldP HXgj.out.at
          have l_pm := run_ldP HXgm.out.at
          have l_pd := run_ldP HXgd.out.at
          have l_d := run_ldD HXD.out.at
          go_wp2_with fail
          refine (meantT pn ⟨rep, num⟩ _ HSpn.out false (by rw [tB_congr ((dot_isP HQpn.out).trans Iff.rfl)]; exact Hxa.out)).mono ?_
          rintro e t26 ⟨rfl, bt26⟩
          clear l_a l_pn l_pj l_pm l_pd l_d
          replace HCX := hide (HCX.out.trans (bt26.mono HCX.out.size))
          replace HCB := hide (HCB.out.below bt26)
          replace HA := hide (HA.out.below bt26)
          replace HB := hide (HB.out.below bt26)
          replace HSpn := hide (HSpn.out.below bt26)
          replace HSpj := hide (HSpj.out.below bt26)
          replace HSpm := hide (HSpm.out.below bt26)
          replace HSpd := hide (HSpd.out.below bt26)
          replace HXgn := hide (HXgn.out.below bt26)
          replace HXgj := hide (HXgj.out.below bt26)
          replace HXgm := hide (HXgm.out.below bt26)
          replace HXgd := hide (HXgd.out.below bt26)
          replace HSph := hide (HSph.out.below bt26)
          replace HXgh := hide (HXgh.out.below bt26)
          replace HXD := hide (HXD.out.below bt26)
          have HBWt26 := hide (HBWs1.out.trans (bt26.mono HBWs1.out.size))
          clear bt26
          have l_a := run_ldP HCB.out.pa
          have l_pn := run_ldP HXgn.out.at
          have l_pj := run_ldP HXgj.out.at
          have l_pm := run_ldP HXgm.out.at
          have l_pd := run_ldP HXgd.out.at
          have l_d := run_ldD HXD.out.at
          go_wp2_with fail
          refine (hasT a ⟨rep, num⟩ _ HA.out false Hxa.out).mono ?_
          rintro e t27 ⟨rfl, bt27⟩
          clear l_a l_pn l_pj l_pm l_pd l_d
          replace HCX := hide (HCX.out.trans (bt27.mono HCX.out.size))
          replace HCB := hide (HCB.out.below bt27)
          replace HA := hide (HA.out.below bt27)
          replace HB := hide (HB.out.below bt27)
          replace HSpn := hide (HSpn.out.below bt27)
          replace HSpj := hide (HSpj.out.below bt27)
          replace HSpm := hide (HSpm.out.below bt27)
          replace HSpd := hide (HSpd.out.below bt27)
          replace HXgn := hide (HXgn.out.below bt27)
          replace HXgj := hide (HXgj.out.below bt27)
          replace HXgm := hide (HXgm.out.below bt27)
          replace HXgd := hide (HXgd.out.below bt27)
          replace HSph := hide (HSph.out.below bt27)
          replace HXgh := hide (HXgh.out.below bt27)
          replace HXD := hide (HXD.out.below bt27)
          have HBWt27 := hide (HBWt26.out.trans (bt27.mono HBWt26.out.size))
          clear bt27
          have l_a := run_ldP HCB.out.pa
          have l_pn := run_ldP HXgn.out.at
          have l_pj := run_ldP HXgj.out.at
          have l_pm := run_ldP HXgm.out.at
          have l_pd := run_ldP HXgd.out.at
          have l_d := run_ldD HXD.out.at
          go_wp2_with fail
          refine (meantT pj ⟨rep, num⟩ _ HSpj.out xb (HVJ.out)).mono ?_
          rintro e t28 ⟨rfl, bt28⟩
          clear l_a l_pn l_pj l_pm l_pd l_d
          replace HCX := hide (HCX.out.trans (bt28.mono HCX.out.size))
          replace HCB := hide (HCB.out.below bt28)
          replace HA := hide (HA.out.below bt28)
          replace HB := hide (HB.out.below bt28)
          replace HSpn := hide (HSpn.out.below bt28)
          replace HSpj := hide (HSpj.out.below bt28)
          replace HSpm := hide (HSpm.out.below bt28)
          replace HSpd := hide (HSpd.out.below bt28)
          replace HXgn := hide (HXgn.out.below bt28)
          replace HXgj := hide (HXgj.out.below bt28)
          replace HXgm := hide (HXgm.out.below bt28)
          replace HXgd := hide (HXgd.out.below bt28)
          replace HSph := hide (HSph.out.below bt28)
          replace HXgh := hide (HXgh.out.below bt28)
          replace HXD := hide (HXD.out.below bt28)
          have HBWt28 := hide (HBWt27.out.trans (bt28.mono HBWt27.out.size))
          clear bt28
          have l_a := run_ldP HCB.out.pa
          have l_pn := run_ldP HXgn.out.at
          have l_pj := run_ldP HXgj.out.at
          have l_pm := run_ldP HXgm.out.at
          have l_pd := run_ldP HXgd.out.at
          have l_d := run_ldD HXD.out.at
          go_wp2_with fail
          refine (meantT pm ⟨rep, num⟩ _ HSpm.out false (HVM.out)).mono ?_
          rintro e t29 ⟨rfl, bt29⟩
          clear l_a l_pn l_pj l_pm l_pd l_d
          replace HCX := hide (HCX.out.trans (bt29.mono HCX.out.size))
          replace HCB := hide (HCB.out.below bt29)
          replace HA := hide (HA.out.below bt29)
          replace HB := hide (HB.out.below bt29)
          replace HSpn := hide (HSpn.out.below bt29)
          replace HSpj := hide (HSpj.out.below bt29)
          replace HSpm := hide (HSpm.out.below bt29)
          replace HSpd := hide (HSpd.out.below bt29)
          replace HXgn := hide (HXgn.out.below bt29)
          replace HXgj := hide (HXgj.out.below bt29)
          replace HXgm := hide (HXgm.out.below bt29)
          replace HXgd := hide (HXgd.out.below bt29)
          replace HSph := hide (HSph.out.below bt29)
          replace HXgh := hide (HXgh.out.below bt29)
          replace HXD := hide (HXD.out.below bt29)
          have HBWt29 := hide (HBWt28.out.trans (bt29.mono HBWt28.out.size))
          clear bt29
          have l_a := run_ldP HCB.out.pa
          have l_pn := run_ldP HXgn.out.at
          have l_pj := run_ldP HXgj.out.at
          have l_pm := run_ldP HXgm.out.at
          have l_pd := run_ldP HXgd.out.at
          have l_d := run_ldD HXD.out.at
          go_wp2_with fail
          refine (meantT pd ⟨rep, num⟩ _ HSpd.out false (HVD.out)).mono ?_
          rintro e t30 ⟨rfl, bt30⟩
          clear l_a l_pn l_pj l_pm l_pd l_d
          replace HCX := hide (HCX.out.trans (bt30.mono HCX.out.size))
          replace HCB := hide (HCB.out.below bt30)
          replace HA := hide (HA.out.below bt30)
          replace HB := hide (HB.out.below bt30)
          replace HSpn := hide (HSpn.out.below bt30)
          replace HSpj := hide (HSpj.out.below bt30)
          replace HSpm := hide (HSpm.out.below bt30)
          replace HSpd := hide (HSpd.out.below bt30)
          replace HXgn := hide (HXgn.out.below bt30)
          replace HXgj := hide (HXgj.out.below bt30)
          replace HXgm := hide (HXgm.out.below bt30)
          replace HXgd := hide (HXgd.out.below bt30)
          replace HSph := hide (HSph.out.below bt30)
          replace HXgh := hide (HXgh.out.below bt30)
          replace HXD := hide (HXD.out.below bt30)
          have HBWt30 := hide (HBWt29.out.trans (bt30.mono HBWt29.out.size))
          clear bt30
          have l_a := run_ldP HCB.out.pa
          have l_d := run_ldD HXD.out.at
          have k_0 := HXD.out.at.c0
          have k_1 : t30.cell? ⟨w6.heap.size, 1, none⟩ = some (.int .i64 num) := HXD.out.at.c1
          have r_a := ldP_re HCB.out.pa
          have r_d := ldD_re HXD.out.at
          have r_h := ldP_re HXgh.out.at
          have r_0 := cell_regrown k_0
          have r_1 := cell_regrown k_1
          have cH : ∀ dd os, Calls Try.prog 13 #[PV ph, RV ⟨rep, num⟩] (Sort.grow (redrawn t30 dd) os) (fun e w'' => e = .returned (.bool (false)) ∧ ∃ p : Regrown, w'' = Sort.grow (redrawn t30 p.d) p.os) := fun dd os => Calls.regrown_of (meantT ph ⟨rep, num⟩ _ (HSph.out.below (below_regrown t30 dd os)) (false) HVH.out)
          have cL : ∀ dd os, Calls Try.prog 15 #[PV a, .int .i64 rep] (Sort.grow (redrawn t30 dd) os) (fun e w'' => e = .returned (.int .i64 k) ∧ ∃ p : Regrown, w'' = Sort.grow (redrawn t30 p.d) p.os) := fun dd os => Calls.regrown_of (lastT a rep k _ (HA.out.below (below_regrown t30 dd os)) Hk.out)
          go_wp2_with fail
          refine wp_region_quiet_below (by kernel_rfl) (by kernel_rfl) ?_
          repeat (with_reducible (refine wpQuiet_step ?_); intro K hK; go_simp; (try rw [if_neg (by unfold undef; simp)]); first | (with_reducible (refine hK _ ?_); clear hK K) | (apply Exists.intro; refine ⟨fun _ => ?_, hK _ ?_⟩; (first | (go_at_call 13; exact cH _ _) | (go_at_call 15; exact cL _ _)); clear hK K))
          with_reducible (refine wpQuiet_nil ?_)
          intro s2 hw'
          obtain ⟨⟨dq, osq⟩, hw''⟩ := hw'
          have bs2 : Below t30.heap.size t30 s2 := by rw [hw'']; exact below_regrown t30 dq osq
          clear hw'' dq osq cH cL r_a r_d r_h r_0 r_1 l_a l_d k_0 k_1
          replace HCX := hide (HCX.out.trans (bs2.mono HCX.out.size))
          replace HCB := hide (HCB.out.below bs2)
          replace HA := hide (HA.out.below bs2)
          replace HB := hide (HB.out.below bs2)
          replace HSpn := hide (HSpn.out.below bs2)
          replace HSpj := hide (HSpj.out.below bs2)
          replace HSpm := hide (HSpm.out.below bs2)
          replace HSpd := hide (HSpd.out.below bs2)
          replace HXgn := hide (HXgn.out.below bs2)
          replace HXgj := hide (HXgj.out.below bs2)
          replace HXgm := hide (HXgm.out.below bs2)
          replace HXgd := hide (HXgd.out.below bs2)
          replace HSph := hide (HSph.out.below bs2)
          replace HXgh := hide (HXgh.out.below bs2)
          replace HXD := hide (HXD.out.below bs2)
          have HBWs2 := hide (HBWt30.out.trans (bs2.mono HBWt30.out.size))
          clear bs2
          have k_0 := HXD.out.at.c0
          have k_1 : s2.cell? ⟨w6.heap.size, 1, none⟩ = some (.int .i64 num) := HXD.out.at.c1
          have r_a := ldP_re HCB.out.pa
          have r_0 := cell_regrown k_0
          have r_1 := cell_regrown k_1
          go_wp2_with fail
          refine wp_region_quiet_below (by kernel_rfl) (by kernel_rfl) ?_
          repeat (with_reducible (refine wpQuiet_step ?_); intro K hK; go_simp; (try rw [if_neg (by unfold undef; simp)]); first | (with_reducible (refine hK _ ?_); clear hK K) | (apply Exists.intro; refine ⟨fun _ => ?_, hK _ ?_⟩; (fail); clear hK K))
          with_reducible (refine wpQuiet_nil ?_)
          intro s3 hw'
          obtain ⟨⟨dq, osq⟩, hw''⟩ := hw'
          have bs3 : Below s2.heap.size s2 s3 := by rw [hw'']; exact below_regrown s2 dq osq
          clear hw'' dq osq r_a r_0 r_1 k_0 k_1
          replace HCX := hide (HCX.out.trans (bs3.mono HCX.out.size))
          replace HCB := hide (HCB.out.below bs3)
          replace HA := hide (HA.out.below bs3)
          replace HB := hide (HB.out.below bs3)
          replace HSpn := hide (HSpn.out.below bs3)
          replace HSpj := hide (HSpj.out.below bs3)
          replace HSpm := hide (HSpm.out.below bs3)
          replace HSpd := hide (HSpd.out.below bs3)
          replace HXgn := hide (HXgn.out.below bs3)
          replace HXgj := hide (HXgj.out.below bs3)
          replace HXgm := hide (HXgm.out.below bs3)
          replace HXgd := hide (HXgd.out.below bs3)
          replace HSph := hide (HSph.out.below bs3)
          replace HXgh := hide (HXgh.out.below bs3)
          replace HXD := hide (HXD.out.below bs3)
          have HBWs3 := hide (HBWs2.out.trans (bs3.mono HBWs2.out.size))
          clear bs3
          have l_a := run_ldP HCB.out.pa
          have l_b := run_ldP HCB.out.pb
          go_wp2_with fail
          refine (pastWithin_any a b _ HA.out HB.out).mono ?_
          rintro e s4 ⟨x, rfl, hx, bs4⟩
          have HX := hide hx
          clear hx l_a l_b
          replace HCX := hide (HCX.out.trans (bs4.mono HCX.out.size))
          replace HCB := hide (HCB.out.below bs4)
          replace HA := hide (HA.out.below bs4)
          replace HB := hide (HB.out.below bs4)
          replace HSpn := hide (HSpn.out.below bs4)
          replace HSpj := hide (HSpj.out.below bs4)
          replace HSpm := hide (HSpm.out.below bs4)
          replace HSpd := hide (HSpd.out.below bs4)
          replace HXgn := hide (HXgn.out.below bs4)
          replace HXgj := hide (HXgj.out.below bs4)
          replace HXgm := hide (HXgm.out.below bs4)
          replace HXgd := hide (HXgd.out.below bs4)
          replace HSph := hide (HSph.out.below bs4)
          replace HXgh := hide (HXgh.out.below bs4)
          replace HXD := hide (HXD.out.below bs4)
          have HBWs4 := hide (HBWs3.out.trans (bs4.mono HBWs3.out.size))
          clear bs4
          cases x with
          | false =>
            go_wp2_with fail
            go_roundw
            case rel => exact ⟨j + 1, by omega, by go_num, HCX.out⟩
            case measure => simp [intOf]; omega
          | true =>
            go_wp2_with fail
            go_roundw
            case rel => exact ⟨j + 1, by omega, by go_num, HCX.out⟩
            case measure => simp [intOf]; omega
      · obtain rfl : j = ln := by omega
        go_wp2_with fail
        go_ret
        exact ⟨rfl, HBWw6.out⟩
end Go.Proofs.Ytlnhafjpmkopgaa
