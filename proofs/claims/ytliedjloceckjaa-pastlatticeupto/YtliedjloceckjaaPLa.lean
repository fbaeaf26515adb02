/- PastLattice: the law's walk. -/
import Derived.Test.YtliedjloceckjaaPR3
import Derived.Test.YtliedjloceckjaaPR4
import Derived.Test.YtliedjloceckjaaPR5
import Derived.Test.YtliedjloceckjaaPR7
import Derived.Test.YtliedjloceckjaaPR13
import Derived.Test.YtliedjloceckjaaPR15
import Derived.Test.YtliedjloceckjaaPR1800
import Derived.Test.YtliedjloceckjaaPR1801
import Derived.Test.YtliedjloceckjaaPR1810
import Derived.Test.YtliedjloceckjaaPR1811
import Derived.Test.YtliedjloceckjaaPFy
namespace Go.Proofs.Ytliedjloceckjaa
open Go.RowKit
attribute [local go_sem ↓] ldP_eq stP_eq
attribute [local go_sem] zero_PC cells_PV fold_PC PC_size fold_PC1 fold_PC2 fold_PC3
attribute [local go_sem] cells_CaseV
set_option maxRecDepth 100000 in
set_option maxHeartbeats 4000000 in
theorem lattice_any (a b c : Pv) (dv : Value) (rp ms : Int) (w : World) (hA : PSrc w a) (hB : PSrc w b) (hC : PSrc w c) (hW : wt [a, b, c] ≤ 4000000000000) :
    Calls Try.prog 3 #[CaseV a b c dv rp ms] w fun e w' => e = .returned (.bool true) ∧ Below w.heap.size w w' := by
  have HA := hide hA
  have HB := hide hB
  have HC := hide hC
  have HW := hide hW
  have HAL : Hid (a.P.cloud.length ≤ 4000000000000) := by have h3 := hW; simp only [wt] at h3; show _ ≤ _; omega
  clear hA hB hC hW
  obtain ⟨P0, P1, P2⟩ := case_at w a b c dv rp ms
  have b0 := below_new w (.cells (CaseC a b c dv rp ms) 28)
  have HP := hide (And.intro P0 (And.intro P1 P2))
  have HB0 := hide b0
  clear P0 P1 P2 b0
  go_enter Try.func3, Try.ntmps3
  go_wp2_with fail
  refine (fixed_true _).mono ?_
  rintro e w1 ⟨rfl, b1⟩
  have HB1 := hide (HB0.out.trans (b1.mono HB0.out.size))
  have HP1 := hide (And.intro (HP.out.1.on b1) (And.intro (HP.out.2.1.on b1) (HP.out.2.2.on b1)))
  clear b1 HP
  go_wp2_with fail
  have HBWw1 := HB1
  clear HB1
  replace HA := hide (HA.out.below HBWw1.out)
  replace HB := hide (HB.out.below HBWw1.out)
  replace HC := hide (HC.out.below HBWw1.out)
  have HP0 := hide HP1.out.1
  have HP2 := hide HP1.out.2.2
  replace HP1 := hide HP1.out.2.1
  refine wp_region_inv (by kernel_rfl) (fun l x W => ∃ v3x0 v3x1 v3x2 v3x3 v3x4 v3x5 v3x6 v3x7 v3x8, x = { tmps := #[CaseV a b c dv rp ms, ptr w.heap.size, .bool false, v3x6, v3x7, v3x8, undef, undef, undef, undef, .bool true, .bool false, v3x0, v3x1, v3x2, v3x3, v3x4, v3x5, undef, undef, undef, undef, undef, undef, undef, undef, undef, undef, undef, undef, undef, undef, undef, undef, undef, undef, undef, undef, undef, undef, undef, undef, undef, undef, undef, undef, undef, undef, undef, undef, undef, undef, undef, undef, undef, undef, undef, undef, undef, undef, undef, undef, undef, undef, undef, undef, undef, undef, undef, undef, undef, undef, undef, undef, undef, undef, undef, undef, undef, undef, undef, undef, undef, undef, undef, undef, undef, undef, undef, undef, undef, undef, undef, undef, undef, undef, undef, undef, undef, undef, undef, undef, undef, undef, undef, undef, undef, undef, undef, undef, undef, undef, undef, undef, undef, undef, undef, undef, undef, undef, undef, undef, undef, undef, undef, undef, undef, undef, undef, undef, undef, undef, undef, undef, undef, undef, undef, undef, undef, undef, undef, undef, undef, undef, undef, undef, undef, undef, undef, undef, undef, undef, undef, undef, undef, undef, undef, undef, undef, undef, undef, undef, undef, undef, undef, undef, undef, undef, undef, undef, undef, undef, undef, undef, undef, undef, undef, undef, undef, undef, undef, undef, undef, undef, undef, undef], defers := [] } ∧ BI 12 9 w1 (Ph3 a b c w w1) [] [] [(6, 9, 1), (7, 10, 3), (8, 11, 5)] l W [v3x0, v3x1, v3x2, v3x3, v3x4, v3x5, v3x6, v3x7, v3x8, undef, undef, undef]) ⟨undef, undef, undef, undef, undef, undef, undef, undef, undef, rfl, BI.start _ _ _ _ _ _ _ _ rfl⟩ ?_ ?_ ?_
  · rintro l x W ⟨v3x0, v3x1, v3x2, v3x3, v3x4, v3x5, v3x6, v3x7, v3x8, rfl, T⟩
    exact T.sz
  · exact st3 HP0 HP1 HP2
  · rintro l x W ⟨v3x0, v3x1, v3x2, v3x3, v3x4, v3x5, v3x6, v3x7, v3x8, rfl, T⟩ hnil
    have hall := fun i (hi : i < 12) => ready_done (by kernel_rfl) T.sz hnil i hi
    have HT := hide T
    clear T hnil
    have e0 : v3x0 = .pointer (some ⟨w.heap.size, 0, none⟩) := HT.out.h 0 (by decide) (hall 0 (by decide)) (fun hm => absurd hm (by decide))
    subst e0
    have e1 : v3x1 = PV a := HT.out.h 1 (by decide) (hall 1 (by decide)) (fun hm => absurd hm (by decide))
    subst e1
    have e2 : v3x2 = .pointer (some ⟨w.heap.size, 2, none⟩) := HT.out.h 2 (by decide) (hall 2 (by decide)) (fun hm => absurd hm (by decide))
    subst e2
    have e3 : v3x3 = PV b := HT.out.h 3 (by decide) (hall 3 (by decide)) (fun hm => absurd hm (by decide))
    subst e3
    have e4 : v3x4 = .pointer (some ⟨w.heap.size, 4, none⟩) := HT.out.h 4 (by decide) (hall 4 (by decide)) (fun hm => absurd hm (by decide))
    subst e4
    have e5 : v3x5 = PV c := HT.out.h 5 (by decide) (hall 5 (by decide)) (fun hm => absurd hm (by decide))
    subst e5
    obtain ⟨ga, e6, -, -, -, k6⟩ := HT.out.a (6, 9, 1) (by simp) (hall 6 (by decide))
    have HXga : Hid (PBox W ga a) := k6 (hall 9 (by decide)) a rfl
    have f6 : v3x6 = ptr ga := e6
    subst f6
    clear e6 k6
    obtain ⟨gb, e7, -, -, -, k7⟩ := HT.out.a (7, 10, 3) (by simp) (hall 7 (by decide))
    have HXgb : Hid (PBox W gb b) := k7 (hall 10 (by decide)) b rfl
    have f7 : v3x7 = ptr gb := e7
    subst f7
    clear e7 k7
    obtain ⟨gc, e8, -, -, -, k8⟩ := HT.out.a (8, 11, 5) (by simp) (hall 8 (by decide))
    have HXgc : Hid (PBox W gc c) := k8 (hall 11 (by decide)) c rfl
    have f8 : v3x8 = ptr gc := e8
    subst f8
    clear e8 k8
    have by1 := HT.out.b
    rename World => y1
    clear hall HT l
    replace HA := hide (HA.out.below by1)
    replace HB := hide (HB.out.below by1)
    replace HC := hide (HC.out.below by1)
    have HBWy1 := hide (HBWw1.out.trans (by1.mono HBWw1.out.size))
    clear by1
    clear HP0 HP1 HP2
    go_wp2_with fail
    refine wp_region_inv (by kernel_rfl) (fun l x W => ∃ v4x0 v4x1 v4x2 v4x3 v4x4 v4x5 v4x6 v4x7 v4x8 v4x9 v4x10 v4x11 v4x12, x = { tmps := #[CaseV a b c dv rp ms, ptr w.heap.size, .bool false, ptr ga, ptr gb, ptr gc, v4x10, v4x11, v4x12, undef, .bool true, .bool false, .pointer (some ⟨w.heap.size, 0, none⟩), PV a, .pointer (some ⟨w.heap.size, 2, none⟩), PV b, .pointer (some ⟨w.heap.size, 4, none⟩), PV c, v4x0, v4x1, v4x2, v4x3, v4x4, v4x5, v4x6, v4x7, v4x8, v4x9, undef, undef, undef, undef, undef, undef, undef, undef, undef, undef, undef, undef, undef, undef, undef, undef, undef, undef, undef, undef, undef, undef, undef, undef, undef, undef, undef, undef, undef, undef, undef, undef, undef, undef, undef, undef, undef, undef, undef, undef, undef, undef, undef, undef, undef, undef, undef, undef, undef, undef, undef, undef, undef, undef, undef, undef, undef, undef, undef, undef, undef, undef, undef, undef, undef, undef, undef, undef, undef, undef, undef, undef, undef, undef, undef, undef, undef, undef, undef, undef, undef, undef, undef, undef, undef, undef, undef, undef, undef, undef, undef, undef, undef, undef, undef, undef, undef, undef, undef, undef, undef, undef, undef, undef, undef, undef, undef, undef, undef, undef, undef, undef, undef, undef, undef, undef, undef, undef, undef, undef, undef, undef, undef, undef, undef, undef, undef, undef, undef, undef, undef, undef, undef, undef, undef, undef, undef, undef, undef, undef, undef, undef, undef, undef, undef, undef, undef, undef, undef, undef, undef, undef, undef, undef, undef, undef, undef, undef], defers := [] } ∧ BI 16 13 y1 (Ph4 a b c w y1) [2] [(3, IsP (mOr (mP a.P) (mP b.P))), (6, IsP (mAnd (mP a.P) (mP b.P))), (9, IsP (mNot (mP a.P) (mP b.P)))] [(10, 13, 3), (11, 14, 6), (12, 15, 9)] l W [v4x0, v4x1, v4x2, v4x3, v4x4, v4x5, v4x6, v4x7, v4x8, v4x9, v4x10, v4x11, v4x12, undef, undef, undef]) ⟨undef, undef, undef, undef, undef, undef, undef, undef, undef, undef, undef, undef, undef, rfl, BI.start _ _ _ _ _ _ _ _ rfl⟩ ?_ ?_ ?_
    · rintro l x W ⟨v4x0, v4x1, v4x2, v4x3, v4x4, v4x5, v4x6, v4x7, v4x8, v4x9, v4x10, v4x11, v4x12, rfl, T⟩
      exact T.sz
    · exact st4 HA HB HXga HXgb HW
    · rintro l x W ⟨v4x0, v4x1, v4x2, v4x3, v4x4, v4x5, v4x6, v4x7, v4x8, v4x9, v4x10, v4x11, v4x12, rfl, T⟩ hnil
      have hall := fun i (hi : i < 16) => ready_done (by kernel_rfl) T.sz hnil i hi
      have HT := hide T
      clear T hnil
      have e0 : v4x0 = PV a := HT.out.h 0 (by decide) (hall 0 (by decide)) (fun hm => absurd hm (by decide))
      subst e0
      have e1 : v4x1 = PV b := HT.out.h 1 (by decide) (hall 1 (by decide)) (fun hm => absurd hm (by decide))
      subst e1
      obtain ⟨pj, e3, Spj, qpj, -⟩ := HT.out.r (3, IsP (mOr (mP a.P) (mP b.P))) (by simp) (hall 3 (by decide))
      have f3 : v4x3 = PV pj := e3
      subst f3
      have HSpj := hide Spj
      have HQpj : Hid (IsP (mOr (mP a.P) (mP b.P)) pj.P) := qpj
      clear e3 Spj qpj
      have e4 : v4x4 = PV a := HT.out.h 4 (by decide) (hall 4 (by decide)) (fun hm => absurd hm (by decide))
      subst e4
      have e5 : v4x5 = PV b := HT.out.h 5 (by decide) (hall 5 (by decide)) (fun hm => absurd hm (by decide))
      subst e5
      obtain ⟨pm, e6, Spm, qpm, -⟩ := HT.out.r (6, IsP (mAnd (mP a.P) (mP b.P))) (by simp) (hall 6 (by decide))
      have f6 : v4x6 = PV pm := e6
      subst f6
      have HSpm := hide Spm
      have HQpm : Hid (IsP (mAnd (mP a.P) (mP b.P)) pm.P) := qpm
      clear e6 Spm qpm
      have e7 : v4x7 = PV a := HT.out.h 7 (by decide) (hall 7 (by decide)) (fun hm => absurd hm (by decide))
      subst e7
      have e8 : v4x8 = PV b := HT.out.h 8 (by decide) (hall 8 (by decide)) (fun hm => absurd hm (by decide))
      subst e8
      obtain ⟨pd, e9, Spd, qpd, -⟩ := HT.out.r (9, IsP (mNot (mP a.P) (mP b.P))) (by simp) (hall 9 (by decide))
      have f9 : v4x9 = PV pd := e9
      subst f9
      have HSpd := hide Spd
      have HQpd : Hid (IsP (mNot (mP a.P) (mP b.P)) pd.P) := qpd
      clear e9 Spd qpd
      obtain ⟨gj, e10, -, -, -, k10⟩ := HT.out.a (10, 13, 3) (by simp) (hall 10 (by decide))
      have HXgj : Hid (PBox W gj pj) := k10 (hall 13 (by decide)) pj rfl
      have f10 : v4x10 = ptr gj := e10
      subst f10
      clear e10 k10
      obtain ⟨gm, e11, -, -, -, k11⟩ := HT.out.a (11, 14, 6) (by simp) (hall 11 (by decide))
      have HXgm : Hid (PBox W gm pm) := k11 (hall 14 (by decide)) pm rfl
      have f11 : v4x11 = ptr gm := e11
      subst f11
      clear e11 k11
      obtain ⟨gd, e12, -, -, -, k12⟩ := HT.out.a (12, 15, 9) (by simp) (hall 12 (by decide))
      have HXgd : Hid (PBox W gd pd) := k12 (hall 15 (by decide)) pd rfl
      have f12 : v4x12 = ptr gd := e12
      subst f12
      clear e12 k12
      have by2 := HT.out.b
      rename World => y2
      clear hall HT l
      replace HA := hide (HA.out.below by2)
      replace HB := hide (HB.out.below by2)
      replace HC := hide (HC.out.below by2)
      replace HXga := hide (HXga.out.below by2)
      replace HXgb := hide (HXgb.out.below by2)
      replace HXgc := hide (HXgc.out.below by2)
      have HBWy2 := hide (HBWy1.out.trans (by2.mono HBWy1.out.size))
      clear by2
      go_wp2_with fail
      refine wp_region_inv (by kernel_rfl) (fun l x W => ∃ v5x0 v5x1 v5x2 v5x3 v5x4 v5x5 v5x6 v5x7 v5x8 v5x9 v5x10 v5x11 v5x12 v5x13 v5x14 v5x15 v5x16 v5x17 v5x18 v5x19 v5x20 v5x21 v5x22 v5x23 v5x24, x = { tmps := #[CaseV a b c dv rp ms, ptr w.heap.size, .bool false, ptr ga, ptr gb, ptr gc, ptr gj, ptr gm, ptr gd, undef, .bool true, .bool false, .pointer (some ⟨w.heap.size, 0, none⟩), PV a, .pointer (some ⟨w.heap.size, 2, none⟩), PV b, .pointer (some ⟨w.heap.size, 4, none⟩), PV c, PV a, PV b, v4x2, PV pj, PV a, PV b, PV pm, PV a, PV b, PV pd, v5x0, v5x1, v5x2, v5x3, v5x4, v5x5, v5x6, v5x7, v5x8, v5x9, v5x10, v5x11, v5x12, v5x13, v5x14, v5x15, v5x16, v5x17, v5x18, v5x19, v5x20, v5x21, v5x22, v5x23, v5x24, undef, undef, undef, undef, undef, undef, undef, undef, undef, undef, undef, undef, undef, undef, undef, undef, undef, undef, undef, undef, undef, undef, undef, undef, undef, undef, undef, undef, undef, undef, undef, undef, undef, undef, undef, undef, undef, undef, undef, undef, undef, undef, undef, undef, undef, undef, undef, undef, undef, undef, undef, undef, undef, undef, undef, undef, undef, undef, undef, undef, undef, undef, undef, undef, undef, undef, undef, undef, undef, undef, undef, undef, undef, undef, undef, undef, undef, undef, undef, undef, undef, undef, undef, undef, undef, undef, undef, undef, undef, undef, undef, undef, undef, undef, undef, undef, undef, undef, undef, undef, undef, undef, undef, undef, undef, undef, undef, undef, undef, undef, undef, undef, undef, undef, undef, undef, undef, undef, undef, undef, undef, undef, undef, undef, undef, undef, undef, undef, undef, undef, undef, undef, undef], defers := [] } ∧ BI 25 32 y2 (Ph5 a b c pj pm pd w y2) [] [(4, IsP (mOr (mP b.P) (mP a.P))), (11, IsP (mAnd (mP b.P) (mP a.P))), (19, IsP (mOr (mP a.P) (mP a.P))), (21, IsP (mP a.P))] [] l W [v5x0, v5x1, v5x2, v5x3, v5x4, v5x5, v5x6, v5x7, v5x8, v5x9, v5x10, v5x11, v5x12, v5x13, v5x14, v5x15, v5x16, v5x17, v5x18, v5x19, v5x20, v5x21, v5x22, v5x23, v5x24]) ⟨undef, undef, undef, undef, undef, undef, undef, undef, undef, undef, undef, undef, undef, undef, undef, undef, undef, undef, undef, undef, undef, undef, undef, undef, undef, rfl, BI.start _ _ _ _ _ _ _ _ rfl⟩ ?_ ?_ ?_
      · rintro l x W ⟨v5x0, v5x1, v5x2, v5x3, v5x4, v5x5, v5x6, v5x7, v5x8, v5x9, v5x10, v5x11, v5x12, v5x13, v5x14, v5x15, v5x16, v5x17, v5x18, v5x19, v5x20, v5x21, v5x22, v5x23, v5x24, rfl, T⟩
        exact T.sz
      · exact st5 HA HB HSpj HSpm HXga HXgb HXgj HXgm HQpj HQpm HW HAL
      · rintro l x W ⟨v5x0, v5x1, v5x2, v5x3, v5x4, v5x5, v5x6, v5x7, v5x8, v5x9, v5x10, v5x11, v5x12, v5x13, v5x14, v5x15, v5x16, v5x17, v5x18, v5x19, v5x20, v5x21, v5x22, v5x23, v5x24, rfl, T⟩ hnil
        have hall := fun i (hi : i < 25) => ready_done (by kernel_rfl) T.sz hnil i hi
        have HT := hide T
        clear T hnil
        have e0 : v5x0 = PV pj := HT.out.h 0 (by decide) (hall 0 (by decide)) (fun hm => absurd hm (by decide))
        subst e0
        have e1 : v5x1 = PV b := HT.out.h 1 (by decide) (hall 1 (by decide)) (fun hm => absurd hm (by decide))
        subst e1
        have e2 : v5x2 = PV a := HT.out.h 2 (by decide) (hall 2 (by decide)) (fun hm => absurd hm (by decide))
        subst e2
        obtain ⟨p5_4, e4, Sp5_4, qp5_4, -⟩ := HT.out.r (4, IsP (mOr (mP b.P) (mP a.P))) (by simp) (hall 4 (by decide))
        have f4 : v5x4 = PV p5_4 := e4
        subst f4
        have HSp5_4 := hide Sp5_4
        have HQp5_4 : Hid (IsP (mOr (mP b.P) (mP a.P)) p5_4.P) := qp5_4
        clear e4 Sp5_4 qp5_4
        have e5 : v5x5 = .bool true := HT.out.h 5 (by decide) (hall 5 (by decide)) (fun hm => absurd hm (by decide))
        subst e5
        have e6 : v5x6 = .bool false := HT.out.h 6 (by decide) (hall 6 (by decide)) (fun hm => absurd hm (by decide))
        subst e6
        have e7 : v5x7 = .bool false := HT.out.h 7 (by decide) (hall 7 (by decide)) (fun hm => absurd hm (by decide))
        subst e7
        have e8 : v5x8 = PV pm := HT.out.h 8 (by decide) (hall 8 (by decide)) (fun hm => absurd hm (by decide))
        subst e8
        have e9 : v5x9 = PV b := HT.out.h 9 (by decide) (hall 9 (by decide)) (fun hm => absurd hm (by decide))
        subst e9
        have e10 : v5x10 = PV a := HT.out.h 10 (by decide) (hall 10 (by decide)) (fun hm => absurd hm (by decide))
        subst e10
        obtain ⟨p5_11, e11, Sp5_11, qp5_11, -⟩ := HT.out.r (11, IsP (mAnd (mP b.P) (mP a.P))) (by simp) (hall 11 (by decide))
        have f11 : v5x11 = PV p5_11 := e11
        subst f11
        have HSp5_11 := hide Sp5_11
        have HQp5_11 : Hid (IsP (mAnd (mP b.P) (mP a.P)) p5_11.P) := qp5_11
        clear e11 Sp5_11 qp5_11
        have e12 : v5x12 = .bool true := HT.out.h 12 (by decide) (hall 12 (by decide)) (fun hm => absurd hm (by decide))
        subst e12
        have e13 : v5x13 = .bool false := HT.out.h 13 (by decide) (hall 13 (by decide)) (fun hm => absurd hm (by decide))
        subst e13
        have e14 : v5x14 = .bool false := HT.out.h 14 (by decide) (hall 14 (by decide)) (fun hm => absurd hm (by decide))
        subst e14
        have e15 : v5x15 = .bool false := HT.out.h 15 (by decide) (hall 15 (by decide)) (fun hm => absurd hm (by decide))
        subst e15
        have e16 : v5x16 = PV a := HT.out.h 16 (by decide) (hall 16 (by decide)) (fun hm => absurd hm (by decide))
        subst e16
        have e17 : v5x17 = PV a := HT.out.h 17 (by decide) (hall 17 (by decide)) (fun hm => absurd hm (by decide))
        subst e17
        obtain ⟨p5_19, e19, Sp5_19, qp5_19, -⟩ := HT.out.r (19, IsP (mOr (mP a.P) (mP a.P))) (by simp) (hall 19 (by decide))
        have f19 : v5x19 = PV p5_19 := e19
        subst f19
        have HSp5_19 := hide Sp5_19
        have HQp5_19 : Hid (IsP (mOr (mP a.P) (mP a.P)) p5_19.P) := qp5_19
        clear e19 Sp5_19 qp5_19
        have e20 : v5x20 = PV a := HT.out.h 20 (by decide) (hall 20 (by decide)) (fun hm => absurd hm (by decide))
        subst e20
        obtain ⟨p5_21, e21, Sp5_21, qp5_21, -⟩ := HT.out.r (21, IsP (mP a.P)) (by simp) (hall 21 (by decide))
        have f21 : v5x21 = PV p5_21 := e21
        subst f21
        have HSp5_21 := hide Sp5_21
        have HQp5_21 : Hid (IsP (mP a.P) p5_21.P) := qp5_21
        clear e21 Sp5_21 qp5_21
        have e22 : v5x22 = .bool true := HT.out.h 22 (by decide) (hall 22 (by decide)) (fun hm => absurd hm (by decide))
        subst e22
        have e23 : v5x23 = .bool false := HT.out.h 23 (by decide) (hall 23 (by decide)) (fun hm => absurd hm (by decide))
        subst e23
        have e24 : v5x24 = .bool false := HT.out.h 24 (by decide) (hall 24 (by decide)) (fun hm => absurd hm (by decide))
        subst e24
        have by3 := HT.out.b
        rename World => y3
        clear hall HT l
        replace HA := hide (HA.out.below by3)
        replace HB := hide (HB.out.below by3)
        replace HC := hide (HC.out.below by3)
        replace HXga := hide (HXga.out.below by3)
        replace HXgb := hide (HXgb.out.below by3)
        replace HXgc := hide (HXgc.out.below by3)
        replace HSpj := hide (HSpj.out.below by3)
        replace HSpm := hide (HSpm.out.below by3)
        replace HSpd := hide (HSpd.out.below by3)
        replace HXgj := hide (HXgj.out.below by3)
        replace HXgm := hide (HXgm.out.below by3)
        replace HXgd := hide (HXgd.out.below by3)
        have HBWy3 := hide (HBWy2.out.trans (by3.mono HBWy2.out.size))
        clear HSp5_4 HQp5_4
        clear HSp5_11 HQp5_11
        clear HSp5_19 HQp5_19
        clear HSp5_21 HQp5_21
        clear by3
        go_wp2_with fail
        refine wp_region_inv (by kernel_rfl) (fun l x W => ∃ v7x0 v7x1 v7x2 v7x3 v7x4 v7x5 v7x6 v7x7 v7x8 v7x9 v7x10 v7x11 v7x12 v7x13 v7x14 v7x15 v7x16 v7x17 v7x18 v7x19 v7x20 v7x21 v7x22 v7x23 v7x24 v7x25, x = { tmps := #[CaseV a b c dv rp ms, ptr w.heap.size, .bool false, ptr ga, ptr gb, ptr gc, ptr gj, ptr gm, ptr gd, undef, .bool true, .bool false, .pointer (some ⟨w.heap.size, 0, none⟩), PV a, .pointer (some ⟨w.heap.size, 2, none⟩), PV b, .pointer (some ⟨w.heap.size, 4, none⟩), PV c, PV a, PV b, v4x2, PV pj, PV a, PV b, PV pm, PV a, PV b, PV pd, PV pj, PV b, PV a, v5x3, PV p5_4, .bool true, .bool false, .bool false, PV pm, PV b, PV a, PV p5_11, .bool true, .bool false, .bool false, .bool false, PV a, PV a, v5x18, PV p5_19, PV a, PV p5_21, .bool true, .bool false, .bool false, v7x0, v7x1, v7x2, v7x3, v7x4, v7x5, v7x6, v7x7, v7x8, v7x9, v7x10, v7x11, v7x12, v7x13, v7x14, v7x15, v7x16, v7x17, v7x18, v7x19, v7x20, v7x21, v7x22, v7x23, v7x24, v7x25, undef, undef, undef, undef, undef, undef, undef, undef, undef, undef, undef, undef, undef, undef, undef, undef, undef, undef, undef, undef, undef, undef, undef, undef, undef, undef, undef, undef, undef, undef, undef, undef, undef, undef, undef, undef, undef, undef, undef, undef, undef, undef, undef, undef, undef, undef, undef, undef, undef, undef, undef, undef, undef, undef, undef, undef, undef, undef, undef, undef, undef, undef, undef, undef, undef, undef, undef, undef, undef, undef, undef, undef, undef, undef, undef, undef, undef, undef, undef, undef, undef, undef, undef, undef, undef, undef, undef, undef, undef, undef, undef, undef, undef, undef, undef, undef, undef, undef, undef, undef, undef, undef, undef, undef, undef, undef, undef], defers := [] } ∧ BI 26 33 y3 (Ph7 a b c pj pm pd w y3) [] [(3, IsP (mOr (mP a.P) (mOr (mP b.P) (mP c.P)))), (8, IsP (mOr (mP b.P) (mP c.P))), (10, IsP (mOr (mP a.P) (mOr (mP b.P) (mP c.P)))), (18, IsP (mOr (mP a.P) (mOr (mP b.P) (mP c.P)))), (22, IsP (mOr (mP a.P) (mOr (mP b.P) (mP c.P))))] [] l W [v7x0, v7x1, v7x2, v7x3, v7x4, v7x5, v7x6, v7x7, v7x8, v7x9, v7x10, v7x11, v7x12, v7x13, v7x14, v7x15, v7x16, v7x17, v7x18, v7x19, v7x20, v7x21, v7x22, v7x23, v7x24, v7x25]) ⟨undef, undef, undef, undef, undef, undef, undef, undef, undef, undef, undef, undef, undef, undef, undef, undef, undef, undef, undef, undef, undef, undef, undef, undef, undef, undef, rfl, BI.start _ _ _ _ _ _ _ _ rfl⟩ ?_ ?_ ?_
        · rintro l x W ⟨v7x0, v7x1, v7x2, v7x3, v7x4, v7x5, v7x6, v7x7, v7x8, v7x9, v7x10, v7x11, v7x12, v7x13, v7x14, v7x15, v7x16, v7x17, v7x18, v7x19, v7x20, v7x21, v7x22, v7x23, v7x24, v7x25, rfl, T⟩
          exact T.sz
        · exact st7 HA HB HC HSpj HXga HXgb HXgc HXgj HQpj HW
        · rintro l x W ⟨v7x0, v7x1, v7x2, v7x3, v7x4, v7x5, v7x6, v7x7, v7x8, v7x9, v7x10, v7x11, v7x12, v7x13, v7x14, v7x15, v7x16, v7x17, v7x18, v7x19, v7x20, v7x21, v7x22, v7x23, v7x24, v7x25, rfl, T⟩ hnil
          have hall := fun i (hi : i < 26) => ready_done (by kernel_rfl) T.sz hnil i hi
          have HT := hide T
          clear T hnil
          have e0 : v7x0 = PV pj := HT.out.h 0 (by decide) (hall 0 (by decide)) (fun hm => absurd hm (by decide))
          subst e0
          have e1 : v7x1 = PV c := HT.out.h 1 (by decide) (hall 1 (by decide)) (fun hm => absurd hm (by decide))
          subst e1
          obtain ⟨p7_3, e3, Sp7_3, qp7_3, -⟩ := HT.out.r (3, IsP (mOr (mP a.P) (mOr (mP b.P) (mP c.P)))) (by simp) (hall 3 (by decide))
          have f3 : v7x3 = PV p7_3 := e3
          subst f3
          have HSp7_3 := hide Sp7_3
          have HQp7_3 : Hid (IsP (mOr (mP a.P) (mOr (mP b.P) (mP c.P))) p7_3.P) := qp7_3
          clear e3 Sp7_3 qp7_3
          have e4 : v7x4 = PV a := HT.out.h 4 (by decide) (hall 4 (by decide)) (fun hm => absurd hm (by decide))
          subst e4
          have e5 : v7x5 = PV b := HT.out.h 5 (by decide) (hall 5 (by decide)) (fun hm => absurd hm (by decide))
          subst e5
          have e6 : v7x6 = PV c := HT.out.h 6 (by decide) (hall 6 (by decide)) (fun hm => absurd hm (by decide))
          subst e6
          obtain ⟨p7_8, e8, Sp7_8, qp7_8, -⟩ := HT.out.r (8, IsP (mOr (mP b.P) (mP c.P))) (by simp) (hall 8 (by decide))
          have f8 : v7x8 = PV p7_8 := e8
          subst f8
          have HSp7_8 := hide Sp7_8
          have HQp7_8 : Hid (IsP (mOr (mP b.P) (mP c.P)) p7_8.P) := qp7_8
          clear e8 Sp7_8 qp7_8
          obtain ⟨p7_10, e10, Sp7_10, qp7_10, -⟩ := HT.out.r (10, IsP (mOr (mP a.P) (mOr (mP b.P) (mP c.P)))) (by simp) (hall 10 (by decide))
          have f10 : v7x10 = PV p7_10 := e10
          subst f10
          have HSp7_10 := hide Sp7_10
          have HQp7_10 : Hid (IsP (mOr (mP a.P) (mOr (mP b.P) (mP c.P))) p7_10.P) := qp7_10
          clear e10 Sp7_10 qp7_10
          have e11 : v7x11 = .bool true := HT.out.h 11 (by decide) (hall 11 (by decide)) (fun hm => absurd hm (by decide))
          subst e11
          have e12 : v7x12 = .bool false := HT.out.h 12 (by decide) (hall 12 (by decide)) (fun hm => absurd hm (by decide))
          subst e12
          have e13 : v7x13 = .bool false := HT.out.h 13 (by decide) (hall 13 (by decide)) (fun hm => absurd hm (by decide))
          subst e13
          have e14 : v7x14 = PV a := HT.out.h 14 (by decide) (hall 14 (by decide)) (fun hm => absurd hm (by decide))
          subst e14
          have e15 : v7x15 = PV b := HT.out.h 15 (by decide) (hall 15 (by decide)) (fun hm => absurd hm (by decide))
          subst e15
          have e16 : v7x16 = PV c := HT.out.h 16 (by decide) (hall 16 (by decide)) (fun hm => absurd hm (by decide))
          subst e16
          obtain ⟨p7_18, e18, Sp7_18, qp7_18, -⟩ := HT.out.r (18, IsP (mOr (mP a.P) (mOr (mP b.P) (mP c.P)))) (by simp) (hall 18 (by decide))
          have f18 : v7x18 = PV p7_18 := e18
          subst f18
          have HSp7_18 := hide Sp7_18
          have HQp7_18 : Hid (IsP (mOr (mP a.P) (mOr (mP b.P) (mP c.P))) p7_18.P) := qp7_18
          clear e18 Sp7_18 qp7_18
          have e19 : v7x19 = PV pj := HT.out.h 19 (by decide) (hall 19 (by decide)) (fun hm => absurd hm (by decide))
          subst e19
          have e20 : v7x20 = PV c := HT.out.h 20 (by decide) (hall 20 (by decide)) (fun hm => absurd hm (by decide))
          subst e20
          obtain ⟨p7_22, e22, Sp7_22, qp7_22, -⟩ := HT.out.r (22, IsP (mOr (mP a.P) (mOr (mP b.P) (mP c.P)))) (by simp) (hall 22 (by decide))
          have f22 : v7x22 = PV p7_22 := e22
          subst f22
          have HSp7_22 := hide Sp7_22
          have HQp7_22 : Hid (IsP (mOr (mP a.P) (mOr (mP b.P) (mP c.P))) p7_22.P) := qp7_22
          clear e22 Sp7_22 qp7_22
          have e23 : v7x23 = .bool true := HT.out.h 23 (by decide) (hall 23 (by decide)) (fun hm => absurd hm (by decide))
          subst e23
          have e24 : v7x24 = .bool false := HT.out.h 24 (by decide) (hall 24 (by decide)) (fun hm => absurd hm (by decide))
          subst e24
          have e25 : v7x25 = .bool false := HT.out.h 25 (by decide) (hall 25 (by decide)) (fun hm => absurd hm (by decide))
          subst e25
          have by4 := HT.out.b
          rename World => y4
          clear hall HT l
          replace HA := hide (HA.out.below by4)
          replace HB := hide (HB.out.below by4)
          replace HC := hide (HC.out.below by4)
          replace HXga := hide (HXga.out.below by4)
          replace HXgb := hide (HXgb.out.below by4)
          replace HXgc := hide (HXgc.out.below by4)
          replace HSpj := hide (HSpj.out.below by4)
          replace HSpm := hide (HSpm.out.below by4)
          replace HSpd := hide (HSpd.out.below by4)
          replace HXgj := hide (HXgj.out.below by4)
          replace HXgm := hide (HXgm.out.below by4)
          replace HXgd := hide (HXgd.out.below by4)
          have HBWy4 := hide (HBWy3.out.trans (by4.mono HBWy3.out.size))
          clear HSp7_3 HQp7_3
          clear HSp7_8 HQp7_8
          clear HSp7_10 HQp7_10
          clear HSp7_18 HQp7_18
          clear HSp7_22 HQp7_22
          clear by4
          have l_a := run_ldP HXga.out.at
          have l_b := run_ldP HXgb.out.at
          have l_c := run_ldP HXgc.out.at
          have l_pj := run_ldP HXgj.out.at
          have l_pm := run_ldP HXgm.out.at
          have l_pd := run_ldP HXgd.out.at
          go_wp2_with fail
          refine (pastWithin_any a pj _ HA.out HSpj.out).mono ?_
          rintro e y5 ⟨x, rfl, hx, by5⟩
          obtain rfl : x = true := hx.2 (fun r hr n h => (HQpj.out.mem r hr n).2 (Or.inl h))
          clear hx
          clear l_a l_b l_c l_pj l_pm l_pd
          replace HA := hide (HA.out.below by5)
          replace HB := hide (HB.out.below by5)
          replace HC := hide (HC.out.below by5)
          replace HXga := hide (HXga.out.below by5)
          replace HXgb := hide (HXgb.out.below by5)
          replace HXgc := hide (HXgc.out.below by5)
          replace HSpj := hide (HSpj.out.below by5)
          replace HSpm := hide (HSpm.out.below by5)
          replace HSpd := hide (HSpd.out.below by5)
          replace HXgj := hide (HXgj.out.below by5)
          replace HXgm := hide (HXgm.out.below by5)
          replace HXgd := hide (HXgd.out.below by5)
          have HBWy5 := hide (HBWy4.out.trans (by5.mono HBWy4.out.size))
          clear by5
          have l_a := run_ldP HXga.out.at
          have l_b := run_ldP HXgb.out.at
          have l_c := run_ldP HXgc.out.at
          have l_pj := run_ldP HXgj.out.at
          have l_pm := run_ldP HXgm.out.at
          have l_pd := run_ldP HXgd.out.at
          go_wp2_with fail
          refine (pastWithin_any b pj _ HB.out HSpj.out).mono ?_
          rintro e y6 ⟨x, rfl, hx, by6⟩
          obtain rfl : x = true := hx.2 (fun r hr n h => (HQpj.out.mem r hr n).2 (Or.inr h))
          clear hx
          clear l_a l_b l_c l_pj l_pm l_pd
          replace HA := hide (HA.out.below by6)
          replace HB := hide (HB.out.below by6)
          replace HC := hide (HC.out.below by6)
          replace HXga := hide (HXga.out.below by6)
          replace HXgb := hide (HXgb.out.below by6)
          replace HXgc := hide (HXgc.out.below by6)
          replace HSpj := hide (HSpj.out.below by6)
          replace HSpm := hide (HSpm.out.below by6)
          replace HSpd := hide (HSpd.out.below by6)
          replace HXgj := hide (HXgj.out.below by6)
          replace HXgm := hide (HXgm.out.below by6)
          replace HXgd := hide (HXgd.out.below by6)
          have HBWy6 := hide (HBWy5.out.trans (by6.mono HBWy5.out.size))
          clear by6
          have l_a := run_ldP HXga.out.at
          have l_b := run_ldP HXgb.out.at
          have l_c := run_ldP HXgc.out.at
          have l_pj := run_ldP HXgj.out.at
          have l_pm := run_ldP HXgm.out.at
          have l_pd := run_ldP HXgd.out.at
          go_wp2_with fail
          refine (pastWithin_any pm a _ HSpm.out HA.out).mono ?_
          rintro e y7 ⟨x, rfl, hx, by7⟩
          obtain rfl : x = true := hx.2 (fun r hr n h => ((HQpm.out.mem r hr n).1 h).1)
          clear hx
          clear l_a l_b l_c l_pj l_pm l_pd
          replace HA := hide (HA.out.below by7)
          replace HB := hide (HB.out.below by7)
          replace HC := hide (HC.out.below by7)
          replace HXga := hide (HXga.out.below by7)
          replace HXgb := hide (HXgb.out.below by7)
          replace HXgc := hide (HXgc.out.below by7)
          replace HSpj := hide (HSpj.out.below by7)
          replace HSpm := hide (HSpm.out.below by7)
          replace HSpd := hide (HSpd.out.below by7)
          replace HXgj := hide (HXgj.out.below by7)
          replace HXgm := hide (HXgm.out.below by7)
          replace HXgd := hide (HXgd.out.below by7)
          have HBWy7 := hide (HBWy6.out.trans (by7.mono HBWy6.out.size))
          clear by7
          have l_a := run_ldP HXga.out.at
          have l_b := run_ldP HXgb.out.at
          have l_c := run_ldP HXgc.out.at
          have l_pj := run_ldP HXgj.out.at
          have l_pm := run_ldP HXgm.out.at
          have l_pd := run_ldP HXgd.out.at
          go_wp2_with fail
          refine (pastWithin_any pm b _ HSpm.out HB.out).mono ?_
          rintro e y8 ⟨x, rfl, hx, by8⟩
          obtain rfl : x = true := hx.2 (fun r hr n h => ((HQpm.out.mem r hr n).1 h).2)
          clear hx
          clear l_a l_b l_c l_pj l_pm l_pd
          replace HA := hide (HA.out.below by8)
          replace HB := hide (HB.out.below by8)
          replace HC := hide (HC.out.below by8)
          replace HXga := hide (HXga.out.below by8)
          replace HXgb := hide (HXgb.out.below by8)
          replace HXgc := hide (HXgc.out.below by8)
          replace HSpj := hide (HSpj.out.below by8)
          replace HSpm := hide (HSpm.out.below by8)
          replace HSpd := hide (HSpd.out.below by8)
          replace HXgj := hide (HXgj.out.below by8)
          replace HXgm := hide (HXgm.out.below by8)
          replace HXgd := hide (HXgd.out.below by8)
          have HBWy8 := hide (HBWy7.out.trans (by8.mono HBWy7.out.size))
          clear by8
          go_upto_region 11 with fail
          go_cut [114] from 12 (fun s wx => s = .bool false ∧ Hid (Below y8.heap.size y8 wx))
          case first =>
            have HCX : Hid (Below y8.heap.size y8 y8) := Below.refl _ _
            have l_a := run_ldP HXga.out.at
            have l_b := run_ldP HXgb.out.at
            have l_c := run_ldP HXgc.out.at
            have l_pj := run_ldP HXgj.out.at
            have l_pm := run_ldP HXgm.out.at
            have l_pd := run_ldP HXgd.out.at
            go_wp2_with fail
            refine (pastWithin_any a c _ HA.out HC.out).mono ?_
            rintro e y9 ⟨xy9, rfl, hxy9, by9⟩
            have HIy9 := hide hxy9
            clear hxy9
            clear l_a l_b l_c l_pj l_pm l_pd
            replace HCX := hide (HCX.out.trans (by9.mono HCX.out.size))
            replace HA := hide (HA.out.below by9)
            replace HB := hide (HB.out.below by9)
            replace HC := hide (HC.out.below by9)
            replace HXga := hide (HXga.out.below by9)
            replace HXgb := hide (HXgb.out.below by9)
            replace HXgc := hide (HXgc.out.below by9)
            replace HSpj := hide (HSpj.out.below by9)
            replace HSpm := hide (HSpm.out.below by9)
            replace HSpd := hide (HSpd.out.below by9)
            replace HXgj := hide (HXgj.out.below by9)
            replace HXgm := hide (HXgm.out.below by9)
            replace HXgd := hide (HXgd.out.below by9)
            have HBWy9 := hide (HBWy8.out.trans (by9.mono HBWy8.out.size))
            clear by9
            cases xy9 with
            | false =>
              have l_a := run_ldP HXga.out.at
              have l_b := run_ldP HXgb.out.at
              have l_c := run_ldP HXgc.out.at
              have l_pj := run_ldP HXgj.out.at
              have l_pm := run_ldP HXgm.out.at
              have l_pd := run_ldP HXgd.out.at
              go_wp2_with fail
              go_meet
              exact ⟨rfl, HCX.out⟩
            | true =>
              have HI1 := hide (HIy9.out.1 rfl)
              clear HIy9
              have l_a := run_ldP HXga.out.at
              have l_b := run_ldP HXgb.out.at
              have l_c := run_ldP HXgc.out.at
              have l_pj := run_ldP HXgj.out.at
              have l_pm := run_ldP HXgm.out.at
              have l_pd := run_ldP HXgd.out.at
              go_wp2_with fail
              refine (pastWithin_any b c _ HB.out HC.out).mono ?_
              rintro e y10 ⟨xy10, rfl, hxy10, by10⟩
              have HIy10 := hide hxy10
              clear hxy10
              clear l_a l_b l_c l_pj l_pm l_pd
              replace HCX := hide (HCX.out.trans (by10.mono HCX.out.size))
              replace HA := hide (HA.out.below by10)
              replace HB := hide (HB.out.below by10)
              replace HC := hide (HC.out.below by10)
              replace HXga := hide (HXga.out.below by10)
              replace HXgb := hide (HXgb.out.below by10)
              replace HXgc := hide (HXgc.out.below by10)
              replace HSpj := hide (HSpj.out.below by10)
              replace HSpm := hide (HSpm.out.below by10)
              replace HSpd := hide (HSpd.out.below by10)
              replace HXgj := hide (HXgj.out.below by10)
              replace HXgm := hide (HXgm.out.below by10)
              replace HXgd := hide (HXgd.out.below by10)
              have HBWy10 := hide (HBWy9.out.trans (by10.mono HBWy9.out.size))
              clear by10
              cases xy10 with
              | false =>
                have l_a := run_ldP HXga.out.at
                have l_b := run_ldP HXgb.out.at
                have l_c := run_ldP HXgc.out.at
                have l_pj := run_ldP HXgj.out.at
                have l_pm := run_ldP HXgm.out.at
                have l_pd := run_ldP HXgd.out.at
                go_wp2_with fail
                go_meet
                exact ⟨rfl, HCX.out⟩
              | true =>
                have HI2 := hide (HIy10.out.1 rfl)
                clear HIy10
                have l_a := run_ldP HXga.out.at
                have l_b := run_ldP HXgb.out.at
                have l_c := run_ldP HXgc.out.at
                have l_pj := run_ldP HXgj.out.at
                have l_pm := run_ldP HXgm.out.at
                have l_pd := run_ldP HXgd.out.at
                go_wp2_with fail
                refine (pastWithin_any pj c _ HSpj.out HC.out).mono ?_
                rintro e y11 ⟨xy11, rfl, hxy11, by11⟩
                have HIy11 := hide hxy11
                clear hxy11
                clear l_a l_b l_c l_pj l_pm l_pd
                replace HCX := hide (HCX.out.trans (by11.mono HCX.out.size))
                replace HA := hide (HA.out.below by11)
                replace HB := hide (HB.out.below by11)
                replace HC := hide (HC.out.below by11)
                replace HXga := hide (HXga.out.below by11)
                replace HXgb := hide (HXgb.out.below by11)
                replace HXgc := hide (HXgc.out.below by11)
                replace HSpj := hide (HSpj.out.below by11)
                replace HSpm := hide (HSpm.out.below by11)
                replace HSpd := hide (HSpd.out.below by11)
                replace HXgj := hide (HXgj.out.below by11)
                replace HXgm := hide (HXgm.out.below by11)
                replace HXgd := hide (HXgd.out.below by11)
                have HBWy11 := hide (HBWy10.out.trans (by11.mono HBWy10.out.size))
                clear by11
                obtain rfl : xy11 = true := HIy11.out.2 (fun r hr n h => ((HQpj.out.mem r hr n).1 h).elim (HI1.out r hr n) (HI2.out r hr n))
                clear HIy11
                have l_a := run_ldP HXga.out.at
                have l_b := run_ldP HXgb.out.at
                have l_c := run_ldP HXgc.out.at
                have l_pj := run_ldP HXgj.out.at
                have l_pm := run_ldP HXgm.out.at
                have l_pd := run_ldP HXgd.out.at
                go_wp2_with fail
                go_meet
                exact ⟨rfl, HCX.out⟩
          case rest =>
            obtain ⟨rfl, HCUT⟩ := hcut
            have by12 := HCUT.out
            rename World => y12
            clear HCUT
            replace HA := hide (HA.out.below by12)
            replace HB := hide (HB.out.below by12)
            replace HC := hide (HC.out.below by12)
            replace HXga := hide (HXga.out.below by12)
            replace HXgb := hide (HXgb.out.below by12)
            replace HXgc := hide (HXgc.out.below by12)
            replace HSpj := hide (HSpj.out.below by12)
            replace HSpm := hide (HSpm.out.below by12)
            replace HSpd := hide (HSpd.out.below by12)
            replace HXgj := hide (HXgj.out.below by12)
            replace HXgm := hide (HXgm.out.below by12)
            replace HXgd := hide (HXgd.out.below by12)
            have HBWy12 := hide (HBWy8.out.trans (by12.mono HBWy8.out.size))
            clear by12
            go_wp2_with fail
            refine wp_region_inv (by kernel_rfl) (fun l x W => ∃ v13x0 v13x1 v13x2 v13x3 v13x4 v13x5 v13x6 v13x7 v13x8 v13x9 v13x10 v13x11 v13x12 v13x13 v13x14, x = { tmps := #[CaseV a b c dv rp ms, ptr w.heap.size, .bool false, ptr ga, ptr gb, ptr gc, ptr gj, ptr gm, ptr gd, undef, .bool true, .bool false, u12, u13, u14, u15, u16, u17, u18, u19, u20, u21, u22, u23, u24, u25, u26, u27, u28, u29, u30, u31, u32, u33, u34, u35, u36, u37, u38, u39, u40, u41, u42, u43, u44, u45, u46, u47, u48, u49, u50, u51, u52, u53, u54, u55, u56, u57, u58, u59, u60, u61, u62, u63, u64, u65, u66, u67, u68, u69, u70, u71, u72, u73, u74, u75, u76, u77, u78, u79, u80, u81, u82, u83, u84, u85, u86, u87, u88, u89, u90, u91, u92, u93, u94, u95, u96, u97, u98, u99, u100, u101, u102, u103, u104, u105, u106, u107, u108, u109, u110, u111, u112, u113, .bool false, v13x0, v13x1, v13x2, v13x3, v13x4, v13x5, v13x6, v13x7, v13x8, v13x9, v13x10, v13x11, v13x12, v13x13, v13x14, u130, u131, u132, u133, u134, u135, u136, u137, u138, u139, u140, u141, u142, u143, u144, u145, u146, u147, u148, u149, u150, u151, u152, u153, u154, u155, u156, u157, u158, u159, u160, u161, u162, u163, u164, u165, u166, u167, u168, u169, u170, u171, u172, u173, u174, u175, u176, u177, u178, u179, u180, u181, u182, u183, u184, u185], defers := [] } ∧ BI 15 22 y12 (Ph13 a b c pj pm pd w y12) [] [(2, IsP (mAnd (mP pm.P) (mP pd.P))), (9, IsP (mP a.P)), (11, IsP (mP a.P))] [] l W [v13x0, v13x1, v13x2, v13x3, v13x4, v13x5, v13x6, v13x7, v13x8, v13x9, v13x10, v13x11, v13x12, v13x13, v13x14]) ⟨u115, u116, u117, u118, u119, u120, u121, u122, u123, u124, u125, u126, u127, u128, u129, rfl, BI.start _ _ _ _ _ _ _ _ rfl⟩ ?_ ?_ ?_
            · rintro l x W ⟨v13x0, v13x1, v13x2, v13x3, v13x4, v13x5, v13x6, v13x7, v13x8, v13x9, v13x10, v13x11, v13x12, v13x13, v13x14, rfl, T⟩
              exact T.sz
            · exact st13 HA HSpm HSpd HXga HXgm HXgd HQpm HQpd
            · rintro l x W ⟨v13x0, v13x1, v13x2, v13x3, v13x4, v13x5, v13x6, v13x7, v13x8, v13x9, v13x10, v13x11, v13x12, v13x13, v13x14, rfl, T⟩ hnil
              have hall := fun i (hi : i < 15) => ready_done (by kernel_rfl) T.sz hnil i hi
              have HT := hide T
              clear T hnil
              have e0 : v13x0 = PV pm := HT.out.h 0 (by decide) (hall 0 (by decide)) (fun hm => absurd hm (by decide))
              subst e0
              have e1 : v13x1 = PV pd := HT.out.h 1 (by decide) (hall 1 (by decide)) (fun hm => absurd hm (by decide))
              subst e1
              obtain ⟨p13_2, e2, Sp13_2, qp13_2, -⟩ := HT.out.r (2, IsP (mAnd (mP pm.P) (mP pd.P))) (by simp) (hall 2 (by decide))
              have f2 : v13x2 = PV p13_2 := e2
              subst f2
              have HSp13_2 := hide Sp13_2
              have HQp13_2 : Hid (IsP (mAnd (mP pm.P) (mP pd.P)) p13_2.P) := qp13_2
              clear e2 Sp13_2 qp13_2
              have e3 : v13x3 = .bool true := HT.out.h 3 (by decide) (hall 3 (by decide)) (fun hm => absurd hm (by decide))
              subst e3
              have e4 : v13x4 = .bool false := HT.out.h 4 (by decide) (hall 4 (by decide)) (fun hm => absurd hm (by decide))
              subst e4
              have e5 : v13x5 = .bool false := HT.out.h 5 (by decide) (hall 5 (by decide)) (fun hm => absurd hm (by decide))
              subst e5
              have e6 : v13x6 = PV pm := HT.out.h 6 (by decide) (hall 6 (by decide)) (fun hm => absurd hm (by decide))
              subst e6
              have e7 : v13x7 = PV pd := HT.out.h 7 (by decide) (hall 7 (by decide)) (fun hm => absurd hm (by decide))
              subst e7
              obtain ⟨p13_9, e9, Sp13_9, qp13_9, -⟩ := HT.out.r (9, IsP (mP a.P)) (by simp) (hall 9 (by decide))
              have f9 : v13x9 = PV p13_9 := e9
              subst f9
              have HSp13_9 := hide Sp13_9
              have HQp13_9 : Hid (IsP (mP a.P) p13_9.P) := qp13_9
              clear e9 Sp13_9 qp13_9
              have e10 : v13x10 = PV a := HT.out.h 10 (by decide) (hall 10 (by decide)) (fun hm => absurd hm (by decide))
              subst e10
              obtain ⟨p13_11, e11, Sp13_11, qp13_11, -⟩ := HT.out.r (11, IsP (mP a.P)) (by simp) (hall 11 (by decide))
              have f11 : v13x11 = PV p13_11 := e11
              subst f11
              have HSp13_11 := hide Sp13_11
              have HQp13_11 : Hid (IsP (mP a.P) p13_11.P) := qp13_11
              clear e11 Sp13_11 qp13_11
              have e12 : v13x12 = .bool true := HT.out.h 12 (by decide) (hall 12 (by decide)) (fun hm => absurd hm (by decide))
              subst e12
              have e13 : v13x13 = .bool false := HT.out.h 13 (by decide) (hall 13 (by decide)) (fun hm => absurd hm (by decide))
              subst e13
              have e14 : v13x14 = .bool false := HT.out.h 14 (by decide) (hall 14 (by decide)) (fun hm => absurd hm (by decide))
              subst e14
              have by13 := HT.out.b
              rename World => y13
              clear hall HT l
              replace HA := hide (HA.out.below by13)
              replace HB := hide (HB.out.below by13)
              replace HC := hide (HC.out.below by13)
              replace HXga := hide (HXga.out.below by13)
              replace HXgb := hide (HXgb.out.below by13)
              replace HXgc := hide (HXgc.out.below by13)
              replace HSpj := hide (HSpj.out.below by13)
              replace HSpm := hide (HSpm.out.below by13)
              replace HSpd := hide (HSpd.out.below by13)
              replace HXgj := hide (HXgj.out.below by13)
              replace HXgm := hide (HXgm.out.below by13)
              replace HXgd := hide (HXgd.out.below by13)
              have HBWy13 := hide (HBWy12.out.trans (by13.mono HBWy12.out.size))
              clear HSp13_2 HQp13_2
              clear HSp13_9 HQp13_9
              clear HSp13_11 HQp13_11
              clear by13
              obtain ⟨zj, Hzj⟩ : ∃ z, Hid (SzP (mP pj.P) z) := szP_ex _
              obtain ⟨zm, Hzm⟩ : ∃ z, Hid (SzP (mP pm.P) z) := szP_ex _
              obtain ⟨zd, Hzd⟩ : ∃ z, Hid (SzP (mP pd.P) z) := szP_ex _
              obtain ⟨za, Hza⟩ : ∃ z, Hid (SzP (mP a.P) z) := szP_ex _
              obtain ⟨zb, Hzb⟩ : ∃ z, Hid (SzP (mP b.P) z) := szP_ex _
              have HE1 : Hid (zj + zm = za + zb) := Hzj.out.four Hzm.out Hza.out Hzb.out (fun r hr n => four1 (HQpj.out.mem r hr n) (HQpm.out.mem r hr n))
              have HE2 : Hid (zd + zm = za) := by have h := Hzd.out.four Hzm.out Hza.out SzP.none (fun r hr n => four2 (HQpd.out.mem r hr n) (HQpm.out.mem r hr n)); show _ = _; omega
              have HZ1 := hide Hzj.out.bd
              have HZ2 := hide Hzm.out.bd
              have HZ3 := hide Hza.out.bd
              have HZ4 := hide Hzb.out.bd
              have HZ5 := hide Hzd.out.bd
              go_wp2_with fail
              refine wp_region_inv (by kernel_rfl) (fun l x W => ∃ v15x0 v15x1 v15x2 v15x3 v15x4 v15x5 v15x6 v15x7 v15x8 v15x9 v15x10 v15x11 v15x12 v15x13 v15x14 v15x15 v15x16 v15x17 v15x18 v15x19 v15x20, x = { tmps := #[CaseV a b c dv rp ms, ptr w.heap.size, .bool false, ptr ga, ptr gb, ptr gc, ptr gj, ptr gm, ptr gd, undef, .bool true, .bool false, u12, u13, u14, u15, u16, u17, u18, u19, u20, u21, u22, u23, u24, u25, u26, u27, u28, u29, u30, u31, u32, u33, u34, u35, u36, u37, u38, u39, u40, u41, u42, u43, u44, u45, u46, u47, u48, u49, u50, u51, u52, u53, u54, u55, u56, u57, u58, u59, u60, u61, u62, u63, u64, u65, u66, u67, u68, u69, u70, u71, u72, u73, u74, u75, u76, u77, u78, u79, u80, u81, u82, u83, u84, u85, u86, u87, u88, u89, u90, u91, u92, u93, u94, u95, u96, u97, u98, u99, u100, u101, u102, u103, u104, u105, u106, u107, u108, u109, u110, u111, u112, u113, .bool false, PV pm, PV pd, PV p13_2, .bool true, .bool false, .bool false, PV pm, PV pd, v13x8, PV p13_9, PV a, PV p13_11, .bool true, .bool false, .bool false, v15x0, v15x1, v15x2, v15x3, v15x4, v15x5, v15x6, v15x7, v15x8, v15x9, v15x10, v15x11, v15x12, v15x13, v15x14, v15x15, v15x16, v15x17, v15x18, v15x19, v15x20, u151, u152, u153, u154, u155, u156, u157, u158, u159, u160, u161, u162, u163, u164, u165, u166, u167, u168, u169, u170, u171, u172, u173, u174, u175, u176, u177, u178, u179, u180, u181, u182, u183, u184, u185], defers := [] } ∧ BI 21 28 y13 (Ph15 a b c pj pm pd w zj zm zd za zb y13) [] [] [] l W [v15x0, v15x1, v15x2, v15x3, v15x4, v15x5, v15x6, v15x7, v15x8, v15x9, v15x10, v15x11, v15x12, v15x13, v15x14, v15x15, v15x16, v15x17, v15x18, v15x19, v15x20]) ⟨u130, u131, u132, u133, u134, u135, u136, u137, u138, u139, u140, u141, u142, u143, u144, u145, u146, u147, u148, u149, u150, rfl, BI.start _ _ _ _ _ _ _ _ rfl⟩ ?_ ?_ ?_
              · rintro l x W ⟨v15x0, v15x1, v15x2, v15x3, v15x4, v15x5, v15x6, v15x7, v15x8, v15x9, v15x10, v15x11, v15x12, v15x13, v15x14, v15x15, v15x16, v15x17, v15x18, v15x19, v15x20, rfl, T⟩
                exact T.sz
              · exact st15 HA HB HSpj HSpm HSpd HXga HXgb HXgj HXgm HXgd Hzj Hzm Hzd Hza Hzb HE1 HE2 HZ1 HZ2 HZ3 HZ4 HZ5
              · rintro l x W ⟨v15x0, v15x1, v15x2, v15x3, v15x4, v15x5, v15x6, v15x7, v15x8, v15x9, v15x10, v15x11, v15x12, v15x13, v15x14, v15x15, v15x16, v15x17, v15x18, v15x19, v15x20, rfl, T⟩ hnil
                have hall := fun i (hi : i < 21) => ready_done (by kernel_rfl) T.sz hnil i hi
                have HT := hide T
                clear T hnil
                have e0 : v15x0 = PV pj := HT.out.h 0 (by decide) (hall 0 (by decide)) (fun hm => absurd hm (by decide))
                subst e0
                have e1 : v15x1 = .int .i64 zj := HT.out.h 1 (by decide) (hall 1 (by decide)) (fun hm => absurd hm (by decide))
                subst e1
                have e2 : v15x2 = PV pm := HT.out.h 2 (by decide) (hall 2 (by decide)) (fun hm => absurd hm (by decide))
                subst e2
                have e3 : v15x3 = .int .i64 zm := HT.out.h 3 (by decide) (hall 3 (by decide)) (fun hm => absurd hm (by decide))
                subst e3
                have e4 : v15x4 = .int .i64 (zj + zm) := HT.out.h 4 (by decide) (hall 4 (by decide)) (fun hm => absurd hm (by decide))
                subst e4
                have e5 : v15x5 = PV a := HT.out.h 5 (by decide) (hall 5 (by decide)) (fun hm => absurd hm (by decide))
                subst e5
                have e6 : v15x6 = .int .i64 za := HT.out.h 6 (by decide) (hall 6 (by decide)) (fun hm => absurd hm (by decide))
                subst e6
                have e7 : v15x7 = PV b := HT.out.h 7 (by decide) (hall 7 (by decide)) (fun hm => absurd hm (by decide))
                subst e7
                have e8 : v15x8 = .int .i64 zb := HT.out.h 8 (by decide) (hall 8 (by decide)) (fun hm => absurd hm (by decide))
                subst e8
                have e9 : v15x9 = .int .i64 (za + zb) := HT.out.h 9 (by decide) (hall 9 (by decide)) (fun hm => absurd hm (by decide))
                subst e9
                have e10 : v15x10 = .bool false := HT.out.h 10 (by decide) (hall 10 (by decide)) (fun hm => absurd hm (by decide))
                subst e10
                have e11 : v15x11 = .bool false := HT.out.h 11 (by decide) (hall 11 (by decide)) (fun hm => absurd hm (by decide))
                subst e11
                have e12 : v15x12 = PV pd := HT.out.h 12 (by decide) (hall 12 (by decide)) (fun hm => absurd hm (by decide))
                subst e12
                have e13 : v15x13 = .int .i64 zd := HT.out.h 13 (by decide) (hall 13 (by decide)) (fun hm => absurd hm (by decide))
                subst e13
                have e14 : v15x14 = PV pm := HT.out.h 14 (by decide) (hall 14 (by decide)) (fun hm => absurd hm (by decide))
                subst e14
                have e15 : v15x15 = .int .i64 zm := HT.out.h 15 (by decide) (hall 15 (by decide)) (fun hm => absurd hm (by decide))
                subst e15
                have e16 : v15x16 = .int .i64 (zd + zm) := HT.out.h 16 (by decide) (hall 16 (by decide)) (fun hm => absurd hm (by decide))
                subst e16
                have e17 : v15x17 = PV a := HT.out.h 17 (by decide) (hall 17 (by decide)) (fun hm => absurd hm (by decide))
                subst e17
                have e18 : v15x18 = .int .i64 za := HT.out.h 18 (by decide) (hall 18 (by decide)) (fun hm => absurd hm (by decide))
                subst e18
                have e19 : v15x19 = .bool false := HT.out.h 19 (by decide) (hall 19 (by decide)) (fun hm => absurd hm (by decide))
                subst e19
                have e20 : v15x20 = .bool false := HT.out.h 20 (by decide) (hall 20 (by decide)) (fun hm => absurd hm (by decide))
                subst e20
                have by14 := HT.out.b
                rename World => y14
                clear hall HT l
                replace HA := hide (HA.out.below by14)
                replace HB := hide (HB.out.below by14)
                replace HC := hide (HC.out.below by14)
                replace HXga := hide (HXga.out.below by14)
                replace HXgb := hide (HXgb.out.below by14)
                replace HXgc := hide (HXgc.out.below by14)
                replace HSpj := hide (HSpj.out.below by14)
                replace HSpm := hide (HSpm.out.below by14)
                replace HSpd := hide (HSpd.out.below by14)
                replace HXgj := hide (HXgj.out.below by14)
                replace HXgm := hide (HXgm.out.below by14)
                replace HXgd := hide (HXgd.out.below by14)
                have HBWy14 := hide (HBWy13.out.trans (by14.mono HBWy13.out.size))
                clear by14
                clear HE1 HE2 HZ1 HZ2 HZ3 HZ4 HZ5 Hzj Hzm Hzd Hza Hzb
                have l_a := run_ldP HXga.out.at
                have l_b := run_ldP HXgb.out.at
                have l_c := run_ldP HXgc.out.at
                have l_pj := run_ldP HXgj.out.at
                have l_pm := run_ldP HXgm.out.at
                have l_pd := run_ldP HXgd.out.at
                go_wp2_with fail
                refine (pastOrder_any a b _ HA.out HB.out).mono ?_
                rintro e y15 ⟨x, y, rfl, hO, by15⟩
                have HO := hide hO
                clear hO
                clear l_a l_b l_c l_pj l_pm l_pd
                replace HA := hide (HA.out.below by15)
                replace HB := hide (HB.out.below by15)
                replace HC := hide (HC.out.below by15)
                replace HXga := hide (HXga.out.below by15)
                replace HXgb := hide (HXgb.out.below by15)
                replace HXgc := hide (HXgc.out.below by15)
                replace HSpj := hide (HSpj.out.below by15)
                replace HSpm := hide (HSpm.out.below by15)
                replace HSpd := hide (HSpd.out.below by15)
                replace HXgj := hide (HXgj.out.below by15)
                replace HXgm := hide (HXgm.out.below by15)
                replace HXgd := hide (HXgd.out.below by15)
                have HBWy15 := hide (HBWy14.out.trans (by15.mono HBWy14.out.size))
                clear by15
                cases x with
                | false =>
                  cases y with
                  | false =>
                    have HXX : Hid (BIff false (∀ r, r < 16 → ∀ n, mem (runsAt a.P r) n → mem (runsAt b.P r) n)) := HO.out.1
                    have HYY : Hid (BIff false (∀ r, r < 16 → ∀ n, mem (runsAt b.P r) n → mem (runsAt a.P r) n)) := HO.out.2
                    clear HO
                    have hov : ordv false false = 3 := rfl
                    rw [hov]
                    clear hov
                    go_wp2_with fail
                    refine wp_region_inv (by kernel_rfl) (fun l x W => ∃ v1800x0 v1800x1 v1800x2 v1800x3 v1800x4 v1800x5 v1800x6 v1800x7 v1800x8 v1800x9 v1800x10 v1800x11 v1800x12 v1800x13 v1800x14 v1800x15 v1800x16 v1800x17 v1800x18 v1800x19 v1800x20 v1800x21 v1800x22 v1800x23 v1800x24 v1800x25 v1800x26 v1800x27 v1800x28 v1800x29 v1800x30 v1800x31 v1800x32, x = { tmps := #[CaseV a b c dv rp ms, ptr w.heap.size, v1800x32, ptr ga, ptr gb, ptr gc, ptr gj, ptr gm, ptr gd, .int .i64 3, .bool true, .bool false, u12, u13, u14, u15, u16, u17, u18, u19, u20, u21, u22, u23, u24, u25, u26, u27, u28, u29, u30, u31, u32, u33, u34, u35, u36, u37, u38, u39, u40, u41, u42, u43, u44, u45, u46, u47, u48, u49, u50, u51, u52, u53, u54, u55, u56, u57, u58, u59, u60, u61, u62, u63, u64, u65, u66, u67, u68, u69, u70, u71, u72, u73, u74, u75, u76, u77, u78, u79, u80, u81, u82, u83, u84, u85, u86, u87, u88, u89, u90, u91, u92, u93, u94, u95, u96, u97, u98, u99, u100, u101, u102, u103, u104, u105, u106, u107, u108, u109, u110, u111, u112, u113, .bool false, PV pm, PV pd, PV p13_2, .bool true, .bool false, .bool false, PV pm, PV pd, v13x8, PV p13_9, PV a, PV p13_11, .bool true, .bool false, .bool false, PV pj, .int .i64 zj, PV pm, .int .i64 zm, .int .i64 (zj + zm), PV a, .int .i64 za, PV b, .int .i64 zb, .int .i64 (za + zb), .bool false, .bool false, PV pd, .int .i64 zd, PV pm, .int .i64 zm, .int .i64 (zd + zm), PV a, .int .i64 za, .bool false, .bool false, PV a, PV b, .int .i64 3, v1800x0, v1800x1, v1800x2, v1800x3, v1800x4, v1800x5, v1800x6, v1800x7, v1800x8, v1800x9, v1800x10, v1800x11, v1800x12, v1800x13, v1800x14, v1800x15, v1800x16, v1800x17, v1800x18, v1800x19, v1800x20, v1800x21, v1800x22, v1800x23, v1800x24, v1800x25, v1800x26, v1800x27, v1800x28, v1800x29, v1800x30, v1800x31], defers := [] } ∧ BI 33 40 y15 (Ph1800 a b c pj pm pd w y15) [] [(26, IsP (mP a.P)), (28, IsP (mP b.P))] [] l W [v1800x0, v1800x1, v1800x2, v1800x3, v1800x4, v1800x5, v1800x6, v1800x7, v1800x8, v1800x9, v1800x10, v1800x11, v1800x12, v1800x13, v1800x14, v1800x15, v1800x16, v1800x17, v1800x18, v1800x19, v1800x20, v1800x21, v1800x22, v1800x23, v1800x24, v1800x25, v1800x26, v1800x27, v1800x28, v1800x29, v1800x30, v1800x31, v1800x32]) ⟨u154, u155, u156, u157, u158, u159, u160, u161, u162, u163, u164, u165, u166, u167, u168, u169, u170, u171, u172, u173, u174, u175, u176, u177, u178, u179, u180, u181, u182, u183, u184, u185, .bool false, rfl, BI.start _ _ _ _ _ _ _ _ rfl⟩ ?_ ?_ ?_
                    · rintro l x W ⟨v1800x0, v1800x1, v1800x2, v1800x3, v1800x4, v1800x5, v1800x6, v1800x7, v1800x8, v1800x9, v1800x10, v1800x11, v1800x12, v1800x13, v1800x14, v1800x15, v1800x16, v1800x17, v1800x18, v1800x19, v1800x20, v1800x21, v1800x22, v1800x23, v1800x24, v1800x25, v1800x26, v1800x27, v1800x28, v1800x29, v1800x30, v1800x31, v1800x32, rfl, T⟩
                      exact T.sz
                    · exact st1800 HA HB HXga HXgb HXX HYY
                    · rintro l x W ⟨v1800x0, v1800x1, v1800x2, v1800x3, v1800x4, v1800x5, v1800x6, v1800x7, v1800x8, v1800x9, v1800x10, v1800x11, v1800x12, v1800x13, v1800x14, v1800x15, v1800x16, v1800x17, v1800x18, v1800x19, v1800x20, v1800x21, v1800x22, v1800x23, v1800x24, v1800x25, v1800x26, v1800x27, v1800x28, v1800x29, v1800x30, v1800x31, v1800x32, rfl, T⟩ hnil
                      have hall := fun i (hi : i < 33) => ready_done (by kernel_rfl) T.sz hnil i hi
                      have HT := hide T
                      clear T hnil
                      have e0 : v1800x0 = PV a := HT.out.h 0 (by decide) (hall 0 (by decide)) (fun hm => absurd hm (by decide))
                      subst e0
                      have e1 : v1800x1 = PV b := HT.out.h 1 (by decide) (hall 1 (by decide)) (fun hm => absurd hm (by decide))
                      subst e1
                      have e2 : v1800x2 = .bool false := HT.out.h 2 (by decide) (hall 2 (by decide)) (fun hm => absurd hm (by decide))
                      subst e2
                      have e3 : v1800x3 = .int .i64 3 := HT.out.h 3 (by decide) (hall 3 (by decide)) (fun hm => absurd hm (by decide))
                      subst e3
                      have e4 : v1800x4 = .bool false := HT.out.h 4 (by decide) (hall 4 (by decide)) (fun hm => absurd hm (by decide))
                      subst e4
                      have e5 : v1800x5 = .bool false := HT.out.h 5 (by decide) (hall 5 (by decide)) (fun hm => absurd hm (by decide))
                      subst e5
                      have e6 : v1800x6 = .int .i64 3 := HT.out.h 6 (by decide) (hall 6 (by decide)) (fun hm => absurd hm (by decide))
                      subst e6
                      have e7 : v1800x7 = .bool false := HT.out.h 7 (by decide) (hall 7 (by decide)) (fun hm => absurd hm (by decide))
                      subst e7
                      have e8 : v1800x8 = .bool false := HT.out.h 8 (by decide) (hall 8 (by decide)) (fun hm => absurd hm (by decide))
                      subst e8
                      have e9 : v1800x9 = .bool true := HT.out.h 9 (by decide) (hall 9 (by decide)) (fun hm => absurd hm (by decide))
                      subst e9
                      have e10 : v1800x10 = .bool true := HT.out.h 10 (by decide) (hall 10 (by decide)) (fun hm => absurd hm (by decide))
                      subst e10
                      have e11 : v1800x11 = PV b := HT.out.h 11 (by decide) (hall 11 (by decide)) (fun hm => absurd hm (by decide))
                      subst e11
                      have e12 : v1800x12 = PV a := HT.out.h 12 (by decide) (hall 12 (by decide)) (fun hm => absurd hm (by decide))
                      subst e12
                      have e13 : v1800x13 = .bool false := HT.out.h 13 (by decide) (hall 13 (by decide)) (fun hm => absurd hm (by decide))
                      subst e13
                      have e14 : v1800x14 = .int .i64 3 := HT.out.h 14 (by decide) (hall 14 (by decide)) (fun hm => absurd hm (by decide))
                      subst e14
                      have e15 : v1800x15 = .bool false := HT.out.h 15 (by decide) (hall 15 (by decide)) (fun hm => absurd hm (by decide))
                      subst e15
                      have e16 : v1800x16 = .bool false := HT.out.h 16 (by decide) (hall 16 (by decide)) (fun hm => absurd hm (by decide))
                      subst e16
                      have e17 : v1800x17 = .int .i64 3 := HT.out.h 17 (by decide) (hall 17 (by decide)) (fun hm => absurd hm (by decide))
                      subst e17
                      have e18 : v1800x18 = .bool false := HT.out.h 18 (by decide) (hall 18 (by decide)) (fun hm => absurd hm (by decide))
                      subst e18
                      have e19 : v1800x19 = .bool false := HT.out.h 19 (by decide) (hall 19 (by decide)) (fun hm => absurd hm (by decide))
                      subst e19
                      have e20 : v1800x20 = .bool true := HT.out.h 20 (by decide) (hall 20 (by decide)) (fun hm => absurd hm (by decide))
                      subst e20
                      have e21 : v1800x21 = .bool true := HT.out.h 21 (by decide) (hall 21 (by decide)) (fun hm => absurd hm (by decide))
                      subst e21
                      have e22 : v1800x22 = .bool true := HT.out.h 22 (by decide) (hall 22 (by decide)) (fun hm => absurd hm (by decide))
                      subst e22
                      have e23 : v1800x23 = .int .i64 3 := HT.out.h 23 (by decide) (hall 23 (by decide)) (fun hm => absurd hm (by decide))
                      subst e23
                      have e24 : v1800x24 = .bool false := HT.out.h 24 (by decide) (hall 24 (by decide)) (fun hm => absurd hm (by decide))
                      subst e24
                      have e25 : v1800x25 = PV a := HT.out.h 25 (by decide) (hall 25 (by decide)) (fun hm => absurd hm (by decide))
                      subst e25
                      obtain ⟨p1800_26, e26, Sp1800_26, qp1800_26, -⟩ := HT.out.r (26, IsP (mP a.P)) (by simp) (hall 26 (by decide))
                      have f26 : v1800x26 = PV p1800_26 := e26
                      subst f26
                      have HSp1800_26 := hide Sp1800_26
                      have HQp1800_26 : Hid (IsP (mP a.P) p1800_26.P) := qp1800_26
                      clear e26 Sp1800_26 qp1800_26
                      have e27 : v1800x27 = PV b := HT.out.h 27 (by decide) (hall 27 (by decide)) (fun hm => absurd hm (by decide))
                      subst e27
                      obtain ⟨p1800_28, e28, Sp1800_28, qp1800_28, -⟩ := HT.out.r (28, IsP (mP b.P)) (by simp) (hall 28 (by decide))
                      have f28 : v1800x28 = PV p1800_28 := e28
                      subst f28
                      have HSp1800_28 := hide Sp1800_28
                      have HQp1800_28 : Hid (IsP (mP b.P) p1800_28.P) := qp1800_28
                      clear e28 Sp1800_28 qp1800_28
                      have e29 : v1800x29 = .bool false := HT.out.h 29 (by decide) (hall 29 (by decide)) (fun hm => absurd hm (by decide))
                      subst e29
                      have e30 : v1800x30 = .bool true := HT.out.h 30 (by decide) (hall 30 (by decide)) (fun hm => absurd hm (by decide))
                      subst e30
                      have e31 : v1800x31 = .bool true := HT.out.h 31 (by decide) (hall 31 (by decide)) (fun hm => absurd hm (by decide))
                      subst e31
                      have e32 : v1800x32 = .bool true := HT.out.h 32 (by decide) (hall 32 (by decide)) (fun hm => absurd hm (by decide))
                      subst e32
                      have by16 := HT.out.b
                      rename World => y16
                      clear hall HT l
                      replace HA := hide (HA.out.below by16)
                      replace HB := hide (HB.out.below by16)
                      replace HC := hide (HC.out.below by16)
                      replace HXga := hide (HXga.out.below by16)
                      replace HXgb := hide (HXgb.out.below by16)
                      replace HXgc := hide (HXgc.out.below by16)
                      replace HSpj := hide (HSpj.out.below by16)
                      replace HSpm := hide (HSpm.out.below by16)
                      replace HSpd := hide (HSpd.out.below by16)
                      replace HXgj := hide (HXgj.out.below by16)
                      replace HXgm := hide (HXgm.out.below by16)
                      replace HXgd := hide (HXgd.out.below by16)
                      have HBWy16 := hide (HBWy15.out.trans (by16.mono HBWy15.out.size))
                      clear HSp1800_26 HQp1800_26
                      clear HSp1800_28 HQp1800_28
                      clear by16
                      go_wp2_with fail
                      go_ret
                      exact ⟨rfl, HBWy16.out⟩
                  | true =>
                    have HXX : Hid (BIff false (∀ r, r < 16 → ∀ n, mem (runsAt a.P r) n → mem (runsAt b.P r) n)) := HO.out.1
                    have HYY : Hid (BIff true (∀ r, r < 16 → ∀ n, mem (runsAt b.P r) n → mem (runsAt a.P r) n)) := HO.out.2
                    clear HO
                    have hov : ordv false true = 2 := rfl
                    rw [hov]
                    clear hov
                    go_wp2_with fail
                    refine wp_region_inv (by kernel_rfl) (fun l x W => ∃ v1801x0 v1801x1 v1801x2 v1801x3 v1801x4 v1801x5 v1801x6 v1801x7 v1801x8 v1801x9 v1801x10 v1801x11 v1801x12 v1801x13 v1801x14 v1801x15 v1801x16 v1801x17 v1801x18 v1801x19 v1801x20 v1801x21 v1801x22 v1801x23 v1801x24 v1801x25 v1801x26 v1801x27 v1801x28 v1801x29 v1801x30 v1801x31 v1801x32, x = { tmps := #[CaseV a b c dv rp ms, ptr w.heap.size, v1801x32, ptr ga, ptr gb, ptr gc, ptr gj, ptr gm, ptr gd, .int .i64 2, .bool true, .bool false, u12, u13, u14, u15, u16, u17, u18, u19, u20, u21, u22, u23, u24, u25, u26, u27, u28, u29, u30, u31, u32, u33, u34, u35, u36, u37, u38, u39, u40, u41, u42, u43, u44, u45, u46, u47, u48, u49, u50, u51, u52, u53, u54, u55, u56, u57, u58, u59, u60, u61, u62, u63, u64, u65, u66, u67, u68, u69, u70, u71, u72, u73, u74, u75, u76, u77, u78, u79, u80, u81, u82, u83, u84, u85, u86, u87, u88, u89, u90, u91, u92, u93, u94, u95, u96, u97, u98, u99, u100, u101, u102, u103, u104, u105, u106, u107, u108, u109, u110, u111, u112, u113, .bool false, PV pm, PV pd, PV p13_2, .bool true, .bool false, .bool false, PV pm, PV pd, v13x8, PV p13_9, PV a, PV p13_11, .bool true, .bool false, .bool false, PV pj, .int .i64 zj, PV pm, .int .i64 zm, .int .i64 (zj + zm), PV a, .int .i64 za, PV b, .int .i64 zb, .int .i64 (za + zb), .bool false, .bool false, PV pd, .int .i64 zd, PV pm, .int .i64 zm, .int .i64 (zd + zm), PV a, .int .i64 za, .bool false, .bool false, PV a, PV b, .int .i64 2, v1801x0, v1801x1, v1801x2, v1801x3, v1801x4, v1801x5, v1801x6, v1801x7, v1801x8, v1801x9, v1801x10, v1801x11, v1801x12, v1801x13, v1801x14, v1801x15, v1801x16, v1801x17, v1801x18, v1801x19, v1801x20, v1801x21, v1801x22, v1801x23, v1801x24, v1801x25, v1801x26, v1801x27, v1801x28, v1801x29, v1801x30, v1801x31], defers := [] } ∧ BI 33 40 y15 (Ph1801 a b c pj pm pd w y15) [] [(26, IsP (mP a.P)), (28, IsP (mP b.P))] [] l W [v1801x0, v1801x1, v1801x2, v1801x3, v1801x4, v1801x5, v1801x6, v1801x7, v1801x8, v1801x9, v1801x10, v1801x11, v1801x12, v1801x13, v1801x14, v1801x15, v1801x16, v1801x17, v1801x18, v1801x19, v1801x20, v1801x21, v1801x22, v1801x23, v1801x24, v1801x25, v1801x26, v1801x27, v1801x28, v1801x29, v1801x30, v1801x31, v1801x32]) ⟨u154, u155, u156, u157, u158, u159, u160, u161, u162, u163, u164, u165, u166, u167, u168, u169, u170, u171, u172, u173, u174, u175, u176, u177, u178, u179, u180, u181, u182, u183, u184, u185, .bool false, rfl, BI.start _ _ _ _ _ _ _ _ rfl⟩ ?_ ?_ ?_
                    · rintro l x W ⟨v1801x0, v1801x1, v1801x2, v1801x3, v1801x4, v1801x5, v1801x6, v1801x7, v1801x8, v1801x9, v1801x10, v1801x11, v1801x12, v1801x13, v1801x14, v1801x15, v1801x16, v1801x17, v1801x18, v1801x19, v1801x20, v1801x21, v1801x22, v1801x23, v1801x24, v1801x25, v1801x26, v1801x27, v1801x28, v1801x29, v1801x30, v1801x31, v1801x32, rfl, T⟩
                      exact T.sz
                    · exact st1801 HA HB HXga HXgb HXX HYY
                    · rintro l x W ⟨v1801x0, v1801x1, v1801x2, v1801x3, v1801x4, v1801x5, v1801x6, v1801x7, v1801x8, v1801x9, v1801x10, v1801x11, v1801x12, v1801x13, v1801x14, v1801x15, v1801x16, v1801x17, v1801x18, v1801x19, v1801x20, v1801x21, v1801x22, v1801x23, v1801x24, v1801x25, v1801x26, v1801x27, v1801x28, v1801x29, v1801x30, v1801x31, v1801x32, rfl, T⟩ hnil
                      have hall := fun i (hi : i < 33) => ready_done (by kernel_rfl) T.sz hnil i hi
                      have HT := hide T
                      clear T hnil
                      have e0 : v1801x0 = PV a := HT.out.h 0 (by decide) (hall 0 (by decide)) (fun hm => absurd hm (by decide))
                      subst e0
                      have e1 : v1801x1 = PV b := HT.out.h 1 (by decide) (hall 1 (by decide)) (fun hm => absurd hm (by decide))
                      subst e1
                      have e2 : v1801x2 = .bool false := HT.out.h 2 (by decide) (hall 2 (by decide)) (fun hm => absurd hm (by decide))
                      subst e2
                      have e3 : v1801x3 = .int .i64 2 := HT.out.h 3 (by decide) (hall 3 (by decide)) (fun hm => absurd hm (by decide))
                      subst e3
                      have e4 : v1801x4 = .bool false := HT.out.h 4 (by decide) (hall 4 (by decide)) (fun hm => absurd hm (by decide))
                      subst e4
                      have e5 : v1801x5 = .bool false := HT.out.h 5 (by decide) (hall 5 (by decide)) (fun hm => absurd hm (by decide))
                      subst e5
                      have e6 : v1801x6 = .int .i64 2 := HT.out.h 6 (by decide) (hall 6 (by decide)) (fun hm => absurd hm (by decide))
                      subst e6
                      have e7 : v1801x7 = .bool false := HT.out.h 7 (by decide) (hall 7 (by decide)) (fun hm => absurd hm (by decide))
                      subst e7
                      have e8 : v1801x8 = .bool false := HT.out.h 8 (by decide) (hall 8 (by decide)) (fun hm => absurd hm (by decide))
                      subst e8
                      have e9 : v1801x9 = .bool true := HT.out.h 9 (by decide) (hall 9 (by decide)) (fun hm => absurd hm (by decide))
                      subst e9
                      have e10 : v1801x10 = .bool true := HT.out.h 10 (by decide) (hall 10 (by decide)) (fun hm => absurd hm (by decide))
                      subst e10
                      have e11 : v1801x11 = PV b := HT.out.h 11 (by decide) (hall 11 (by decide)) (fun hm => absurd hm (by decide))
                      subst e11
                      have e12 : v1801x12 = PV a := HT.out.h 12 (by decide) (hall 12 (by decide)) (fun hm => absurd hm (by decide))
                      subst e12
                      have e13 : v1801x13 = .bool true := HT.out.h 13 (by decide) (hall 13 (by decide)) (fun hm => absurd hm (by decide))
                      subst e13
                      have e14 : v1801x14 = .int .i64 2 := HT.out.h 14 (by decide) (hall 14 (by decide)) (fun hm => absurd hm (by decide))
                      subst e14
                      have e15 : v1801x15 = .bool false := HT.out.h 15 (by decide) (hall 15 (by decide)) (fun hm => absurd hm (by decide))
                      subst e15
                      have e16 : v1801x16 = .bool false := HT.out.h 16 (by decide) (hall 16 (by decide)) (fun hm => absurd hm (by decide))
                      subst e16
                      have e17 : v1801x17 = .int .i64 2 := HT.out.h 17 (by decide) (hall 17 (by decide)) (fun hm => absurd hm (by decide))
                      subst e17
                      have e18 : v1801x18 = .bool true := HT.out.h 18 (by decide) (hall 18 (by decide)) (fun hm => absurd hm (by decide))
                      subst e18
                      have e19 : v1801x19 = .bool true := HT.out.h 19 (by decide) (hall 19 (by decide)) (fun hm => absurd hm (by decide))
                      subst e19
                      have e20 : v1801x20 = .bool true := HT.out.h 20 (by decide) (hall 20 (by decide)) (fun hm => absurd hm (by decide))
                      subst e20
                      have e21 : v1801x21 = .bool true := HT.out.h 21 (by decide) (hall 21 (by decide)) (fun hm => absurd hm (by decide))
                      subst e21
                      have e22 : v1801x22 = .bool true := HT.out.h 22 (by decide) (hall 22 (by decide)) (fun hm => absurd hm (by decide))
                      subst e22
                      have e23 : v1801x23 = .int .i64 2 := HT.out.h 23 (by decide) (hall 23 (by decide)) (fun hm => absurd hm (by decide))
                      subst e23
                      have e24 : v1801x24 = .bool false := HT.out.h 24 (by decide) (hall 24 (by decide)) (fun hm => absurd hm (by decide))
                      subst e24
                      have e25 : v1801x25 = PV a := HT.out.h 25 (by decide) (hall 25 (by decide)) (fun hm => absurd hm (by decide))
                      subst e25
                      obtain ⟨p1801_26, e26, Sp1801_26, qp1801_26, -⟩ := HT.out.r (26, IsP (mP a.P)) (by simp) (hall 26 (by decide))
                      have f26 : v1801x26 = PV p1801_26 := e26
                      subst f26
                      have HSp1801_26 := hide Sp1801_26
                      have HQp1801_26 : Hid (IsP (mP a.P) p1801_26.P) := qp1801_26
                      clear e26 Sp1801_26 qp1801_26
                      have e27 : v1801x27 = PV b := HT.out.h 27 (by decide) (hall 27 (by decide)) (fun hm => absurd hm (by decide))
                      subst e27
                      obtain ⟨p1801_28, e28, Sp1801_28, qp1801_28, -⟩ := HT.out.r (28, IsP (mP b.P)) (by simp) (hall 28 (by decide))
                      have f28 : v1801x28 = PV p1801_28 := e28
                      subst f28
                      have HSp1801_28 := hide Sp1801_28
                      have HQp1801_28 : Hid (IsP (mP b.P) p1801_28.P) := qp1801_28
                      clear e28 Sp1801_28 qp1801_28
                      have e29 : v1801x29 = .bool false := HT.out.h 29 (by decide) (hall 29 (by decide)) (fun hm => absurd hm (by decide))
                      subst e29
                      have e30 : v1801x30 = .bool true := HT.out.h 30 (by decide) (hall 30 (by decide)) (fun hm => absurd hm (by decide))
                      subst e30
                      have e31 : v1801x31 = .bool true := HT.out.h 31 (by decide) (hall 31 (by decide)) (fun hm => absurd hm (by decide))
                      subst e31
                      have e32 : v1801x32 = .bool true := HT.out.h 32 (by decide) (hall 32 (by decide)) (fun hm => absurd hm (by decide))
                      subst e32
                      have by16 := HT.out.b
                      rename World => y16
                      clear hall HT l
                      replace HA := hide (HA.out.below by16)
                      replace HB := hide (HB.out.below by16)
                      replace HC := hide (HC.out.below by16)
                      replace HXga := hide (HXga.out.below by16)
                      replace HXgb := hide (HXgb.out.below by16)
                      replace HXgc := hide (HXgc.out.below by16)
                      replace HSpj := hide (HSpj.out.below by16)
                      replace HSpm := hide (HSpm.out.below by16)
                      replace HSpd := hide (HSpd.out.below by16)
                      replace HXgj := hide (HXgj.out.below by16)
                      replace HXgm := hide (HXgm.out.below by16)
                      replace HXgd := hide (HXgd.out.below by16)
                      have HBWy16 := hide (HBWy15.out.trans (by16.mono HBWy15.out.size))
                      clear HSp1801_26 HQp1801_26
                      clear HSp1801_28 HQp1801_28
                      clear by16
                      go_wp2_with fail
                      go_ret
                      exact ⟨rfl, HBWy16.out⟩
                | true =>
                  cases y with
                  | false =>
                    have HXX : Hid (BIff true (∀ r, r < 16 → ∀ n, mem (runsAt a.P r) n → mem (runsAt b.P r) n)) := HO.out.1
                    have HYY : Hid (BIff false (∀ r, r < 16 → ∀ n, mem (runsAt b.P r) n → mem (runsAt a.P r) n)) := HO.out.2
                    clear HO
                    have hov : ordv true false = 1 := rfl
                    rw [hov]
                    clear hov
                    go_wp2_with fail
                    refine wp_region_inv (by kernel_rfl) (fun l x W => ∃ v1810x0 v1810x1 v1810x2 v1810x3 v1810x4 v1810x5 v1810x6 v1810x7 v1810x8 v1810x9 v1810x10 v1810x11 v1810x12 v1810x13 v1810x14 v1810x15 v1810x16 v1810x17 v1810x18 v1810x19 v1810x20 v1810x21 v1810x22 v1810x23 v1810x24 v1810x25 v1810x26 v1810x27 v1810x28 v1810x29 v1810x30 v1810x31 v1810x32, x = { tmps := #[CaseV a b c dv rp ms, ptr w.heap.size, v1810x32, ptr ga, ptr gb, ptr gc, ptr gj, ptr gm, ptr gd, .int .i64 1, .bool true, .bool false, u12, u13, u14, u15, u16, u17, u18, u19, u20, u21, u22, u23, u24, u25, u26, u27, u28, u29, u30, u31, u32, u33, u34, u35, u36, u37, u38, u39, u40, u41, u42, u43, u44, u45, u46, u47, u48, u49, u50, u51, u52, u53, u54, u55, u56, u57, u58, u59, u60, u61, u62, u63, u64, u65, u66, u67, u68, u69, u70, u71, u72, u73, u74, u75, u76, u77, u78, u79, u80, u81, u82, u83, u84, u85, u86, u87, u88, u89, u90, u91, u92, u93, u94, u95, u96, u97, u98, u99, u100, u101, u102, u103, u104, u105, u106, u107, u108, u109, u110, u111, u112, u113, .bool false, PV pm, PV pd, PV p13_2, .bool true, .bool false, .bool false, PV pm, PV pd, v13x8, PV p13_9, PV a, PV p13_11, .bool true, .bool false, .bool false, PV pj, .int .i64 zj, PV pm, .int .i64 zm, .int .i64 (zj + zm), PV a, .int .i64 za, PV b, .int .i64 zb, .int .i64 (za + zb), .bool false, .bool false, PV pd, .int .i64 zd, PV pm, .int .i64 zm, .int .i64 (zd + zm), PV a, .int .i64 za, .bool false, .bool false, PV a, PV b, .int .i64 1, v1810x0, v1810x1, v1810x2, v1810x3, v1810x4, v1810x5, v1810x6, v1810x7, v1810x8, v1810x9, v1810x10, v1810x11, v1810x12, v1810x13, v1810x14, v1810x15, v1810x16, v1810x17, v1810x18, v1810x19, v1810x20, v1810x21, v1810x22, v1810x23, v1810x24, v1810x25, v1810x26, v1810x27, v1810x28, v1810x29, v1810x30, v1810x31], defers := [] } ∧ BI 33 40 y15 (Ph1810 a b c pj pm pd w y15) [] [(26, IsP (mP a.P)), (28, IsP (mP b.P))] [] l W [v1810x0, v1810x1, v1810x2, v1810x3, v1810x4, v1810x5, v1810x6, v1810x7, v1810x8, v1810x9, v1810x10, v1810x11, v1810x12, v1810x13, v1810x14, v1810x15, v1810x16, v1810x17, v1810x18, v1810x19, v1810x20, v1810x21, v1810x22, v1810x23, v1810x24, v1810x25, v1810x26, v1810x27, v1810x28, v1810x29, v1810x30, v1810x31, v1810x32]) ⟨u154, u155, u156, u157, u158, u159, u160, u161, u162, u163, u164, u165, u166, u167, u168, u169, u170, u171, u172, u173, u174, u175, u176, u177, u178, u179, u180, u181, u182, u183, u184, u185, .bool false, rfl, BI.start _ _ _ _ _ _ _ _ rfl⟩ ?_ ?_ ?_
                    · rintro l x W ⟨v1810x0, v1810x1, v1810x2, v1810x3, v1810x4, v1810x5, v1810x6, v1810x7, v1810x8, v1810x9, v1810x10, v1810x11, v1810x12, v1810x13, v1810x14, v1810x15, v1810x16, v1810x17, v1810x18, v1810x19, v1810x20, v1810x21, v1810x22, v1810x23, v1810x24, v1810x25, v1810x26, v1810x27, v1810x28, v1810x29, v1810x30, v1810x31, v1810x32, rfl, T⟩
                      exact T.sz
                    · exact st1810 HA HB HXga HXgb HXX HYY
                    · rintro l x W ⟨v1810x0, v1810x1, v1810x2, v1810x3, v1810x4, v1810x5, v1810x6, v1810x7, v1810x8, v1810x9, v1810x10, v1810x11, v1810x12, v1810x13, v1810x14, v1810x15, v1810x16, v1810x17, v1810x18, v1810x19, v1810x20, v1810x21, v1810x22, v1810x23, v1810x24, v1810x25, v1810x26, v1810x27, v1810x28, v1810x29, v1810x30, v1810x31, v1810x32, rfl, T⟩ hnil
                      have hall := fun i (hi : i < 33) => ready_done (by kernel_rfl) T.sz hnil i hi
                      have HT := hide T
                      clear T hnil
                      have e0 : v1810x0 = PV a := HT.out.h 0 (by decide) (hall 0 (by decide)) (fun hm => absurd hm (by decide))
                      subst e0
                      have e1 : v1810x1 = PV b := HT.out.h 1 (by decide) (hall 1 (by decide)) (fun hm => absurd hm (by decide))
                      subst e1
                      have e2 : v1810x2 = .bool true := HT.out.h 2 (by decide) (hall 2 (by decide)) (fun hm => absurd hm (by decide))
                      subst e2
                      have e3 : v1810x3 = .int .i64 1 := HT.out.h 3 (by decide) (hall 3 (by decide)) (fun hm => absurd hm (by decide))
                      subst e3
                      have e4 : v1810x4 = .bool false := HT.out.h 4 (by decide) (hall 4 (by decide)) (fun hm => absurd hm (by decide))
                      subst e4
                      have e5 : v1810x5 = .bool false := HT.out.h 5 (by decide) (hall 5 (by decide)) (fun hm => absurd hm (by decide))
                      subst e5
                      have e6 : v1810x6 = .int .i64 1 := HT.out.h 6 (by decide) (hall 6 (by decide)) (fun hm => absurd hm (by decide))
                      subst e6
                      have e7 : v1810x7 = .bool true := HT.out.h 7 (by decide) (hall 7 (by decide)) (fun hm => absurd hm (by decide))
                      subst e7
                      have e8 : v1810x8 = .bool true := HT.out.h 8 (by decide) (hall 8 (by decide)) (fun hm => absurd hm (by decide))
                      subst e8
                      have e9 : v1810x9 = .bool true := HT.out.h 9 (by decide) (hall 9 (by decide)) (fun hm => absurd hm (by decide))
                      subst e9
                      have e10 : v1810x10 = .bool true := HT.out.h 10 (by decide) (hall 10 (by decide)) (fun hm => absurd hm (by decide))
                      subst e10
                      have e11 : v1810x11 = PV b := HT.out.h 11 (by decide) (hall 11 (by decide)) (fun hm => absurd hm (by decide))
                      subst e11
                      have e12 : v1810x12 = PV a := HT.out.h 12 (by decide) (hall 12 (by decide)) (fun hm => absurd hm (by decide))
                      subst e12
                      have e13 : v1810x13 = .bool false := HT.out.h 13 (by decide) (hall 13 (by decide)) (fun hm => absurd hm (by decide))
                      subst e13
                      have e14 : v1810x14 = .int .i64 1 := HT.out.h 14 (by decide) (hall 14 (by decide)) (fun hm => absurd hm (by decide))
                      subst e14
                      have e15 : v1810x15 = .bool false := HT.out.h 15 (by decide) (hall 15 (by decide)) (fun hm => absurd hm (by decide))
                      subst e15
                      have e16 : v1810x16 = .bool false := HT.out.h 16 (by decide) (hall 16 (by decide)) (fun hm => absurd hm (by decide))
                      subst e16
                      have e17 : v1810x17 = .int .i64 1 := HT.out.h 17 (by decide) (hall 17 (by decide)) (fun hm => absurd hm (by decide))
                      subst e17
                      have e18 : v1810x18 = .bool false := HT.out.h 18 (by decide) (hall 18 (by decide)) (fun hm => absurd hm (by decide))
                      subst e18
                      have e19 : v1810x19 = .bool false := HT.out.h 19 (by decide) (hall 19 (by decide)) (fun hm => absurd hm (by decide))
                      subst e19
                      have e20 : v1810x20 = .bool true := HT.out.h 20 (by decide) (hall 20 (by decide)) (fun hm => absurd hm (by decide))
                      subst e20
                      have e21 : v1810x21 = .bool true := HT.out.h 21 (by decide) (hall 21 (by decide)) (fun hm => absurd hm (by decide))
                      subst e21
                      have e22 : v1810x22 = .bool true := HT.out.h 22 (by decide) (hall 22 (by decide)) (fun hm => absurd hm (by decide))
                      subst e22
                      have e23 : v1810x23 = .int .i64 1 := HT.out.h 23 (by decide) (hall 23 (by decide)) (fun hm => absurd hm (by decide))
                      subst e23
                      have e24 : v1810x24 = .bool false := HT.out.h 24 (by decide) (hall 24 (by decide)) (fun hm => absurd hm (by decide))
                      subst e24
                      have e25 : v1810x25 = PV a := HT.out.h 25 (by decide) (hall 25 (by decide)) (fun hm => absurd hm (by decide))
                      subst e25
                      obtain ⟨p1810_26, e26, Sp1810_26, qp1810_26, -⟩ := HT.out.r (26, IsP (mP a.P)) (by simp) (hall 26 (by decide))
                      have f26 : v1810x26 = PV p1810_26 := e26
                      subst f26
                      have HSp1810_26 := hide Sp1810_26
                      have HQp1810_26 : Hid (IsP (mP a.P) p1810_26.P) := qp1810_26
                      clear e26 Sp1810_26 qp1810_26
                      have e27 : v1810x27 = PV b := HT.out.h 27 (by decide) (hall 27 (by decide)) (fun hm => absurd hm (by decide))
                      subst e27
                      obtain ⟨p1810_28, e28, Sp1810_28, qp1810_28, -⟩ := HT.out.r (28, IsP (mP b.P)) (by simp) (hall 28 (by decide))
                      have f28 : v1810x28 = PV p1810_28 := e28
                      subst f28
                      have HSp1810_28 := hide Sp1810_28
                      have HQp1810_28 : Hid (IsP (mP b.P) p1810_28.P) := qp1810_28
                      clear e28 Sp1810_28 qp1810_28
                      have e29 : v1810x29 = .bool false := HT.out.h 29 (by decide) (hall 29 (by decide)) (fun hm => absurd hm (by decide))
                      subst e29
                      have e30 : v1810x30 = .bool true := HT.out.h 30 (by decide) (hall 30 (by decide)) (fun hm => absurd hm (by decide))
                      subst e30
                      have e31 : v1810x31 = .bool true := HT.out.h 31 (by decide) (hall 31 (by decide)) (fun hm => absurd hm (by decide))
                      subst e31
                      have e32 : v1810x32 = .bool true := HT.out.h 32 (by decide) (hall 32 (by decide)) (fun hm => absurd hm (by decide))
                      subst e32
                      have by16 := HT.out.b
                      rename World => y16
                      clear hall HT l
                      replace HA := hide (HA.out.below by16)
                      replace HB := hide (HB.out.below by16)
                      replace HC := hide (HC.out.below by16)
                      replace HXga := hide (HXga.out.below by16)
                      replace HXgb := hide (HXgb.out.below by16)
                      replace HXgc := hide (HXgc.out.below by16)
                      replace HSpj := hide (HSpj.out.below by16)
                      replace HSpm := hide (HSpm.out.below by16)
                      replace HSpd := hide (HSpd.out.below by16)
                      replace HXgj := hide (HXgj.out.below by16)
                      replace HXgm := hide (HXgm.out.below by16)
                      replace HXgd := hide (HXgd.out.below by16)
                      have HBWy16 := hide (HBWy15.out.trans (by16.mono HBWy15.out.size))
                      clear HSp1810_26 HQp1810_26
                      clear HSp1810_28 HQp1810_28
                      clear by16
                      go_wp2_with fail
                      go_ret
                      exact ⟨rfl, HBWy16.out⟩
                  | true =>
                    have HXX : Hid (BIff true (∀ r, r < 16 → ∀ n, mem (runsAt a.P r) n → mem (runsAt b.P r) n)) := HO.out.1
                    have HYY : Hid (BIff true (∀ r, r < 16 → ∀ n, mem (runsAt b.P r) n → mem (runsAt a.P r) n)) := HO.out.2
                    clear HO
                    have hov : ordv true true = 0 := rfl
                    rw [hov]
                    clear hov
                    go_wp2_with fail
                    refine wp_region_inv (by kernel_rfl) (fun l x W => ∃ v1811x0 v1811x1 v1811x2 v1811x3 v1811x4 v1811x5 v1811x6 v1811x7 v1811x8 v1811x9 v1811x10 v1811x11 v1811x12 v1811x13 v1811x14 v1811x15 v1811x16 v1811x17 v1811x18 v1811x19 v1811x20 v1811x21 v1811x22 v1811x23 v1811x24 v1811x25 v1811x26 v1811x27 v1811x28 v1811x29 v1811x30 v1811x31 v1811x32, x = { tmps := #[CaseV a b c dv rp ms, ptr w.heap.size, v1811x32, ptr ga, ptr gb, ptr gc, ptr gj, ptr gm, ptr gd, .int .i64 0, .bool true, .bool false, u12, u13, u14, u15, u16, u17, u18, u19, u20, u21, u22, u23, u24, u25, u26, u27, u28, u29, u30, u31, u32, u33, u34, u35, u36, u37, u38, u39, u40, u41, u42, u43, u44, u45, u46, u47, u48, u49, u50, u51, u52, u53, u54, u55, u56, u57, u58, u59, u60, u61, u62, u63, u64, u65, u66, u67, u68, u69, u70, u71, u72, u73, u74, u75, u76, u77, u78, u79, u80, u81, u82, u83, u84, u85, u86, u87, u88, u89, u90, u91, u92, u93, u94, u95, u96, u97, u98, u99, u100, u101, u102, u103, u104, u105, u106, u107, u108, u109, u110, u111, u112, u113, .bool false, PV pm, PV pd, PV p13_2, .bool true, .bool false, .bool false, PV pm, PV pd, v13x8, PV p13_9, PV a, PV p13_11, .bool true, .bool false, .bool false, PV pj, .int .i64 zj, PV pm, .int .i64 zm, .int .i64 (zj + zm), PV a, .int .i64 za, PV b, .int .i64 zb, .int .i64 (za + zb), .bool false, .bool false, PV pd, .int .i64 zd, PV pm, .int .i64 zm, .int .i64 (zd + zm), PV a, .int .i64 za, .bool false, .bool false, PV a, PV b, .int .i64 0, v1811x0, v1811x1, v1811x2, v1811x3, v1811x4, v1811x5, v1811x6, v1811x7, v1811x8, v1811x9, v1811x10, v1811x11, v1811x12, v1811x13, v1811x14, v1811x15, v1811x16, v1811x17, v1811x18, v1811x19, v1811x20, v1811x21, v1811x22, v1811x23, v1811x24, v1811x25, v1811x26, v1811x27, v1811x28, v1811x29, v1811x30, v1811x31], defers := [] } ∧ BI 33 40 y15 (Ph1811 a b c pj pm pd w y15) [] [(26, IsP (mP a.P)), (28, IsP (mP b.P))] [] l W [v1811x0, v1811x1, v1811x2, v1811x3, v1811x4, v1811x5, v1811x6, v1811x7, v1811x8, v1811x9, v1811x10, v1811x11, v1811x12, v1811x13, v1811x14, v1811x15, v1811x16, v1811x17, v1811x18, v1811x19, v1811x20, v1811x21, v1811x22, v1811x23, v1811x24, v1811x25, v1811x26, v1811x27, v1811x28, v1811x29, v1811x30, v1811x31, v1811x32]) ⟨u154, u155, u156, u157, u158, u159, u160, u161, u162, u163, u164, u165, u166, u167, u168, u169, u170, u171, u172, u173, u174, u175, u176, u177, u178, u179, u180, u181, u182, u183, u184, u185, .bool false, rfl, BI.start _ _ _ _ _ _ _ _ rfl⟩ ?_ ?_ ?_
                    · rintro l x W ⟨v1811x0, v1811x1, v1811x2, v1811x3, v1811x4, v1811x5, v1811x6, v1811x7, v1811x8, v1811x9, v1811x10, v1811x11, v1811x12, v1811x13, v1811x14, v1811x15, v1811x16, v1811x17, v1811x18, v1811x19, v1811x20, v1811x21, v1811x22, v1811x23, v1811x24, v1811x25, v1811x26, v1811x27, v1811x28, v1811x29, v1811x30, v1811x31, v1811x32, rfl, T⟩
                      exact T.sz
                    · exact st1811 HA HB HXga HXgb HXX HYY
                    · rintro l x W ⟨v1811x0, v1811x1, v1811x2, v1811x3, v1811x4, v1811x5, v1811x6, v1811x7, v1811x8, v1811x9, v1811x10, v1811x11, v1811x12, v1811x13, v1811x14, v1811x15, v1811x16, v1811x17, v1811x18, v1811x19, v1811x20, v1811x21, v1811x22, v1811x23, v1811x24, v1811x25, v1811x26, v1811x27, v1811x28, v1811x29, v1811x30, v1811x31, v1811x32, rfl, T⟩ hnil
                      have hall := fun i (hi : i < 33) => ready_done (by kernel_rfl) T.sz hnil i hi
                      have HT := hide T
                      clear T hnil
                      have e0 : v1811x0 = PV a := HT.out.h 0 (by decide) (hall 0 (by decide)) (fun hm => absurd hm (by decide))
                      subst e0
                      have e1 : v1811x1 = PV b := HT.out.h 1 (by decide) (hall 1 (by decide)) (fun hm => absurd hm (by decide))
                      subst e1
                      have e2 : v1811x2 = .bool true := HT.out.h 2 (by decide) (hall 2 (by decide)) (fun hm => absurd hm (by decide))
                      subst e2
                      have e3 : v1811x3 = .int .i64 0 := HT.out.h 3 (by decide) (hall 3 (by decide)) (fun hm => absurd hm (by decide))
                      subst e3
                      have e4 : v1811x4 = .bool true := HT.out.h 4 (by decide) (hall 4 (by decide)) (fun hm => absurd hm (by decide))
                      subst e4
                      have e5 : v1811x5 = .bool true := HT.out.h 5 (by decide) (hall 5 (by decide)) (fun hm => absurd hm (by decide))
                      subst e5
                      have e6 : v1811x6 = undef := HT.out.h 6 (by decide) (hall 6 (by decide)) (fun hm => absurd hm (by decide))
                      subst e6
                      have e7 : v1811x7 = undef := HT.out.h 7 (by decide) (hall 7 (by decide)) (fun hm => absurd hm (by decide))
                      subst e7
                      have e8 : v1811x8 = .bool true := HT.out.h 8 (by decide) (hall 8 (by decide)) (fun hm => absurd hm (by decide))
                      subst e8
                      have e9 : v1811x9 = .bool true := HT.out.h 9 (by decide) (hall 9 (by decide)) (fun hm => absurd hm (by decide))
                      subst e9
                      have e10 : v1811x10 = .bool true := HT.out.h 10 (by decide) (hall 10 (by decide)) (fun hm => absurd hm (by decide))
                      subst e10
                      have e11 : v1811x11 = PV b := HT.out.h 11 (by decide) (hall 11 (by decide)) (fun hm => absurd hm (by decide))
                      subst e11
                      have e12 : v1811x12 = PV a := HT.out.h 12 (by decide) (hall 12 (by decide)) (fun hm => absurd hm (by decide))
                      subst e12
                      have e13 : v1811x13 = .bool true := HT.out.h 13 (by decide) (hall 13 (by decide)) (fun hm => absurd hm (by decide))
                      subst e13
                      have e14 : v1811x14 = .int .i64 0 := HT.out.h 14 (by decide) (hall 14 (by decide)) (fun hm => absurd hm (by decide))
                      subst e14
                      have e15 : v1811x15 = .bool true := HT.out.h 15 (by decide) (hall 15 (by decide)) (fun hm => absurd hm (by decide))
                      subst e15
                      have e16 : v1811x16 = .bool true := HT.out.h 16 (by decide) (hall 16 (by decide)) (fun hm => absurd hm (by decide))
                      subst e16
                      have e17 : v1811x17 = undef := HT.out.h 17 (by decide) (hall 17 (by decide)) (fun hm => absurd hm (by decide))
                      subst e17
                      have e18 : v1811x18 = undef := HT.out.h 18 (by decide) (hall 18 (by decide)) (fun hm => absurd hm (by decide))
                      subst e18
                      have e19 : v1811x19 = .bool true := HT.out.h 19 (by decide) (hall 19 (by decide)) (fun hm => absurd hm (by decide))
                      subst e19
                      have e20 : v1811x20 = .bool true := HT.out.h 20 (by decide) (hall 20 (by decide)) (fun hm => absurd hm (by decide))
                      subst e20
                      have e21 : v1811x21 = .bool true := HT.out.h 21 (by decide) (hall 21 (by decide)) (fun hm => absurd hm (by decide))
                      subst e21
                      have e22 : v1811x22 = .bool true := HT.out.h 22 (by decide) (hall 22 (by decide)) (fun hm => absurd hm (by decide))
                      subst e22
                      have e23 : v1811x23 = .int .i64 0 := HT.out.h 23 (by decide) (hall 23 (by decide)) (fun hm => absurd hm (by decide))
                      subst e23
                      have e24 : v1811x24 = .bool true := HT.out.h 24 (by decide) (hall 24 (by decide)) (fun hm => absurd hm (by decide))
                      subst e24
                      have e25 : v1811x25 = PV a := HT.out.h 25 (by decide) (hall 25 (by decide)) (fun hm => absurd hm (by decide))
                      subst e25
                      obtain ⟨p1811_26, e26, Sp1811_26, qp1811_26, -⟩ := HT.out.r (26, IsP (mP a.P)) (by simp) (hall 26 (by decide))
                      have f26 : v1811x26 = PV p1811_26 := e26
                      subst f26
                      have HSp1811_26 := hide Sp1811_26
                      have HQp1811_26 : Hid (IsP (mP a.P) p1811_26.P) := qp1811_26
                      clear e26 Sp1811_26 qp1811_26
                      have e27 : v1811x27 = PV b := HT.out.h 27 (by decide) (hall 27 (by decide)) (fun hm => absurd hm (by decide))
                      subst e27
                      obtain ⟨p1811_28, e28, Sp1811_28, qp1811_28, -⟩ := HT.out.r (28, IsP (mP b.P)) (by simp) (hall 28 (by decide))
                      have f28 : v1811x28 = PV p1811_28 := e28
                      subst f28
                      have HSp1811_28 := hide Sp1811_28
                      have HQp1811_28 : Hid (IsP (mP b.P) p1811_28.P) := qp1811_28
                      clear e28 Sp1811_28 qp1811_28
                      have e29 : v1811x29 = .bool true := HT.out.h 29 (by decide) (hall 29 (by decide)) (fun hm => absurd hm (by decide))
                      subst e29
                      have e30 : v1811x30 = .bool true := HT.out.h 30 (by decide) (hall 30 (by decide)) (fun hm => absurd hm (by decide))
                      subst e30
                      have e31 : v1811x31 = .bool true := HT.out.h 31 (by decide) (hall 31 (by decide)) (fun hm => absurd hm (by decide))
                      subst e31
                      have e32 : v1811x32 = .bool true := HT.out.h 32 (by decide) (hall 32 (by decide)) (fun hm => absurd hm (by decide))
                      subst e32
                      have by16 := HT.out.b
                      rename World => y16
                      clear hall HT l
                      replace HA := hide (HA.out.below by16)
                      replace HB := hide (HB.out.below by16)
                      replace HC := hide (HC.out.below by16)
                      replace HXga := hide (HXga.out.below by16)
                      replace HXgb := hide (HXgb.out.below by16)
                      replace HXgc := hide (HXgc.out.below by16)
                      replace HSpj := hide (HSpj.out.below by16)
                      replace HSpm := hide (HSpm.out.below by16)
                      replace HSpd := hide (HSpd.out.below by16)
                      replace HXgj := hide (HXgj.out.below by16)
                      replace HXgm := hide (HXgm.out.below by16)
                      replace HXgd := hide (HXgd.out.below by16)
                      have HBWy16 := hide (HBWy15.out.trans (by16.mono HBWy15.out.size))
                      clear HSp1811_26 HQp1811_26
                      clear HSp1811_28 HQp1811_28
                      clear by16
                      go_wp2_with fail
                      go_ret
                      exact ⟨rfl, HBWy16.out⟩
end Go.Proofs.Ytliedjloceckjaa
