/- PastSets: the law's walk. -/
import Derived.Test.YtiogmeaianogmaaPY4
import Derived.Test.YtiogmeaianogmaaPY5
namespace Go.Proofs.Ytiogmeaianogmaa
open Go.RowKit
attribute [local go_sem ↓] ldP_eq stP_eq
attribute [local go_sem] zero_PC cells_PV fold_PC PC_size fold_PC1 fold_PC2 fold_PC3
attribute [local go_sem] cells_CaseV fold_PC3'
set_option maxRecDepth 100000 in
set_option maxHeartbeats 4000000 in
theorem sets_any (a b c : Pv) (dv : Value) (rp ms : Int) (w : World) (hA : PSrc w a) (hB : PSrc w b) (hC : PSrc w c) (hW : wt [a, b, c] ≤ 4000000000000) :
    Calls Try.prog 3 #[CaseV a b c dv rp ms] w fun e w' => e = .returned (.bool true) ∧ Below w.heap.size w w' := by
  have HA := hide hA
  have HB := hide hB
  have HC := hide hC
  have HW := hide hW
  clear hA hB hC hW
  obtain ⟨P0, P1, P2⟩ := case_at w a b c dv rp ms
  have b0 := below_new w (.cells (CaseC a b c dv rp ms) 28)
  have HP := hide (And.intro P0 (And.intro P1 P2))
  have HB0 := hide b0
  clear P0 P1 P2 b0
  go_enter Try.func3, Try.ntmps3
  go_wp2_with fail
  refine (fixed_true _).mono ?_
  rintro e w1 ⟨rfl, b1⟩
  have HB1 := hide (HB0.out.trans (b1.mono HB0.out.size))
  have HP1 := hide (And.intro (HP.out.1.on b1) (And.intro (HP.out.2.1.on b1) (HP.out.2.2.on b1)))
  clear b1 HP HB0
  replace HA := hide (HA.out.below HB1.out)
  replace HB := hide (HB.out.below HB1.out)
  replace HC := hide (HC.out.below HB1.out)
  have l0 := run_ldP HP1.out.1
  have l1 := run_ldP HP1.out.2.1
  have l2 := run_ldP HP1.out.2.2
  have bb := below_new w1 (.cells (pcs [a, b, c]).toArray 25)
  have HRA := hide (prow_three w1 a b c HA.out HB.out HC.out)
  have HBWw2 := hide (HB1.out.trans (bb.mono HB1.out.size))
  replace HA := hide (HA.out.below bb)
  replace HB := hide (HB.out.below bb)
  replace HC := hide (HC.out.below bb)
  have HP0 := hide (HP1.out.1.on bb)
  have HP2 := hide (HP1.out.2.2.on bb)
  replace HP1 := hide (HP1.out.2.1.on bb)
  clear bb HB1
  go_wp2_with fail
  clear l0 l1 l2
  generalize w1.alloc (.cells (pcs [a, b, c]).toArray 25) = w2 at *
  generalize (⟨w1.heap.size, 0, none⟩ : Addr) = ad at *
  refine wp_region_inv (by kernel_rfl) (fun l x W => ∃ v4x0 v4x1 v4x2 v4x3 v4x4 v4x5 v4x6 v4x7 v4x8 v4x9 v4x10 v4x11 v4x12 v4x13 v4x14 v4x15 v4x16 v4x17 v4x18 v4x19 v4x20 v4x21 v4x22 v4x23 v4x24 v4x25 v4x26 v4x27 v4x28, x = { tmps := #[CaseV a b c dv rp ms, ptr w.heap.size, .bool false, .slice (some ad) 3 3, undef, undef, undef, undef, .bool true, .bool false, .pointer (some ⟨w.heap.size, 0, none⟩), PV a, .pointer (some ⟨w.heap.size, 2, none⟩), PV b, .pointer (some ⟨w.heap.size, 4, none⟩), PV c, .slice (some ad) 3 3, v4x0, v4x1, v4x2, v4x3, v4x4, v4x5, v4x6, v4x7, v4x8, v4x9, v4x10, v4x11, v4x12, v4x13, v4x14, v4x15, v4x16, v4x17, v4x18, v4x19, v4x20, v4x21, v4x22, v4x23, v4x24, v4x25, v4x26, v4x27, v4x28, undef, undef, undef, undef, undef, undef, undef, undef, undef, undef, undef, undef, undef, undef, undef, undef, undef, undef, undef, undef, undef, undef, undef, undef, undef, undef, undef, undef, undef, undef, undef, undef, undef, undef, undef, undef, undef, undef, undef, undef, undef, undef, undef, undef, undef, undef, undef, undef, undef, undef, undef, undef, undef, undef, undef, undef, undef, undef, undef, undef, undef, undef, undef, undef, undef, undef, undef, undef, undef, undef, undef], defers := [] } ∧ BI 29 36 w2 (Ph4 a b c ad w w2) [] [(7, IsP (mOr (mP a.P) (mOr (mP b.P) (mP c.P)))), (9, IsP (mOr (mP a.P) (mOr (mP b.P) (mP c.P)))), (13, IsP (fun _ _ => False)), (22, IsP (mP b.P)), (25, IsP (mP b.P))] [] l W [v4x0, v4x1, v4x2, v4x3, v4x4, v4x5, v4x6, v4x7, v4x8, v4x9, v4x10, v4x11, v4x12, v4x13, v4x14, v4x15, v4x16, v4x17, v4x18, v4x19, v4x20, v4x21, v4x22, v4x23, v4x24, v4x25, v4x26, v4x27, v4x28]) ⟨undef, undef, undef, undef, undef, undef, undef, undef, undef, undef, undef, undef, undef, undef, undef, undef, undef, undef, undef, undef, undef, undef, undef, undef, undef, undef, undef, undef, undef, rfl, BI.start _ _ _ _ _ _ _ _ rfl⟩ ?_ ?_ ?_
  · rintro l x W ⟨v4x0, v4x1, v4x2, v4x3, v4x4, v4x5, v4x6, v4x7, v4x8, v4x9, v4x10, v4x11, v4x12, v4x13, v4x14, v4x15, v4x16, v4x17, v4x18, v4x19, v4x20, v4x21, v4x22, v4x23, v4x24, v4x25, v4x26, v4x27, v4x28, rfl, T⟩
    exact T.sz
  · exact st4 HP0 HP1 HP2 HA HB HC HRA HW
  · rintro l x W ⟨v4x0, v4x1, v4x2, v4x3, v4x4, v4x5, v4x6, v4x7, v4x8, v4x9, v4x10, v4x11, v4x12, v4x13, v4x14, v4x15, v4x16, v4x17, v4x18, v4x19, v4x20, v4x21, v4x22, v4x23, v4x24, v4x25, v4x26, v4x27, v4x28, rfl, T⟩ hnil
    have hall := fun i (hi : i < 29) => ready_done (by kernel_rfl) T.sz hnil i hi
    have HT := hide T
    clear T hnil
    have e0 : v4x0 = .pointer (some ⟨w.heap.size, 0, none⟩) := HT.out.h 0 (by decide) (hall 0 (by decide)) (fun hm => absurd hm (by decide))
    subst e0
    have e1 : v4x1 = PV a := HT.out.h 1 (by decide) (hall 1 (by decide)) (fun hm => absurd hm (by decide))
    subst e1
    have e2 : v4x2 = .pointer (some ⟨w.heap.size, 2, none⟩) := HT.out.h 2 (by decide) (hall 2 (by decide)) (fun hm => absurd hm (by decide))
    subst e2
    have e3 : v4x3 = PV b := HT.out.h 3 (by decide) (hall 3 (by decide)) (fun hm => absurd hm (by decide))
    subst e3
    have e4 : v4x4 = .pointer (some ⟨w.heap.size, 4, none⟩) := HT.out.h 4 (by decide) (hall 4 (by decide)) (fun hm => absurd hm (by decide))
    subst e4
    have e5 : v4x5 = PV c := HT.out.h 5 (by decide) (hall 5 (by decide)) (fun hm => absurd hm (by decide))
    subst e5
    obtain ⟨p4_7, e7, Sp4_7, qp4_7, -⟩ := HT.out.r (7, IsP (mOr (mP a.P) (mOr (mP b.P) (mP c.P)))) (by simp) (hall 7 (by decide))
    have f7 : v4x7 = PV p4_7 := e7
    subst f7
    have HSp4_7 := hide Sp4_7
    have HQp4_7 : Hid (IsP (mOr (mP a.P) (mOr (mP b.P) (mP c.P))) p4_7.P) := qp4_7
    clear e7 Sp4_7 qp4_7
    have e8 : v4x8 = .slice (some ad) 3 3 := HT.out.h 8 (by decide) (hall 8 (by decide)) (fun hm => absurd hm (by decide))
    subst e8
    obtain ⟨p4_9, e9, Sp4_9, qp4_9, -⟩ := HT.out.r (9, IsP (mOr (mP a.P) (mOr (mP b.P) (mP c.P)))) (by simp) (hall 9 (by decide))
    have f9 : v4x9 = PV p4_9 := e9
    subst f9
    have HSp4_9 := hide Sp4_9
    have HQp4_9 : Hid (IsP (mOr (mP a.P) (mOr (mP b.P) (mP c.P))) p4_9.P) := qp4_9
    clear e9 Sp4_9 qp4_9
    have e10 : v4x10 = .bool true := HT.out.h 10 (by decide) (hall 10 (by decide)) (fun hm => absurd hm (by decide))
    subst e10
    have e11 : v4x11 = .bool false := HT.out.h 11 (by decide) (hall 11 (by decide)) (fun hm => absurd hm (by decide))
    subst e11
    have e12 : v4x12 = .bool false := HT.out.h 12 (by decide) (hall 12 (by decide)) (fun hm => absurd hm (by decide))
    subst e12
    obtain ⟨p4_13, e13, Sp4_13, qp4_13, -⟩ := HT.out.r (13, IsP (fun _ _ => False)) (by simp) (hall 13 (by decide))
    have f13 : v4x13 = PV p4_13 := e13
    subst f13
    have HSp4_13 := hide Sp4_13
    have HQp4_13 : Hid (IsP (fun _ _ => False) p4_13.P) := qp4_13
    clear e13 Sp4_13 qp4_13
    have e14 : v4x14 = PV pv0 := HT.out.h 14 (by decide) (hall 14 (by decide)) (fun hm => absurd hm (by decide))
    subst e14
    have e15 : v4x15 = .bool true := HT.out.h 15 (by decide) (hall 15 (by decide)) (fun hm => absurd hm (by decide))
    subst e15
    have e16 : v4x16 = .bool false := HT.out.h 16 (by decide) (hall 16 (by decide)) (fun hm => absurd hm (by decide))
    subst e16
    have e17 : v4x17 = .bool false := HT.out.h 17 (by decide) (hall 17 (by decide)) (fun hm => absurd hm (by decide))
    subst e17
    have e18 : v4x18 = .bool false := HT.out.h 18 (by decide) (hall 18 (by decide)) (fun hm => absurd hm (by decide))
    subst e18
    have e19 : v4x19 = .pointer (some ⟨w.heap.size, 2, none⟩) := HT.out.h 19 (by decide) (hall 19 (by decide)) (fun hm => absurd hm (by decide))
    subst e19
    have e20 : v4x20 = PV b := HT.out.h 20 (by decide) (hall 20 (by decide)) (fun hm => absurd hm (by decide))
    subst e20
    obtain ⟨p4_22, e22, Sp4_22, qp4_22, -⟩ := HT.out.r (22, IsP (mP b.P)) (by simp) (hall 22 (by decide))
    have f22 : v4x22 = PV p4_22 := e22
    subst f22
    have HSp4_22 := hide Sp4_22
    have HQp4_22 : Hid (IsP (mP b.P) p4_22.P) := qp4_22
    clear e22 Sp4_22 qp4_22
    have e23 : v4x23 = .pointer (some ⟨w.heap.size, 2, none⟩) := HT.out.h 23 (by decide) (hall 23 (by decide)) (fun hm => absurd hm (by decide))
    subst e23
    have e24 : v4x24 = PV b := HT.out.h 24 (by decide) (hall 24 (by decide)) (fun hm => absurd hm (by decide))
    subst e24
    obtain ⟨p4_25, e25, Sp4_25, qp4_25, -⟩ := HT.out.r (25, IsP (mP b.P)) (by simp) (hall 25 (by decide))
    have f25 : v4x25 = PV p4_25 := e25
    subst f25
    have HSp4_25 := hide Sp4_25
    have HQp4_25 : Hid (IsP (mP b.P) p4_25.P) := qp4_25
    clear e25 Sp4_25 qp4_25
    have e26 : v4x26 = .bool true := HT.out.h 26 (by decide) (hall 26 (by decide)) (fun hm => absurd hm (by decide))
    subst e26
    have e27 : v4x27 = .bool false := HT.out.h 27 (by decide) (hall 27 (by decide)) (fun hm => absurd hm (by decide))
    subst e27
    have e28 : v4x28 = .bool false := HT.out.h 28 (by decide) (hall 28 (by decide)) (fun hm => absurd hm (by decide))
    subst e28
    have by1 := HT.out.b
    rename World => y1
    clear hall HT l
    replace HA := hide (HA.out.below by1)
    replace HB := hide (HB.out.below by1)
    replace HC := hide (HC.out.below by1)
    replace HRA := hide (HRA.out.below by1)
    have HBWy1 := hide (HBWw2.out.trans (by1.mono HBWw2.out.size))
    clear HSp4_7 HQp4_7
    clear HSp4_9 HQp4_9
    clear HSp4_13 HQp4_13
    clear HSp4_22 HQp4_22
    clear HSp4_25 HQp4_25
    clear by1
    clear HP0 HP1 HP2
    have HSN : Hid (Sin y1 y1) := Below.refl _ _
    have HLL : Hid (∀ p, p ∈ [a, b, c] → p.P.cloud.length ≤ 4000000000000) := by
      intro p hp
      have h := HW.out
      simp only [wt] at h
      simp only [List.mem_cons, List.not_mem_nil, or_false] at hp
      rcases hp with rfl | rfl | rfl <;> omega
    go_wp2_with fail
    go_loopw [4, 5, 6, 7] (fun i _ _ _ wr => ∃ k1 : Nat, k1 ≤ 3 ∧ i = .int .i64 k1 ∧ Hid (Sin y1 wr)) (fun i _ _ _ _ => 3 - (intOf i).toNat)
    case atStart => exact ⟨0, by omega, rfl, HSN⟩
    case round =>
      obtain ⟨k1, hk1, rfl, HS1⟩ := hrel
      by_cases hl1 : k1 < 3
      · have HH1 := hide hl1
        go_wp2_with fail
        go_loopw [5, 6, 7] (fun j _ _ wz => ∃ k2 : Nat, k2 ≤ 3 ∧ j = .int .i64 k2 ∧ Hid (Sin y1 wz)) (fun j _ _ _ => 3 - (intOf j).toNat)
        case atStart => exact ⟨0, by omega, rfl, HS1⟩
        case round =>
          obtain ⟨k2, hk2, rfl, HS2⟩ := hrel
          by_cases hl2 : k2 < 3
          · have HKK : Hid (k1 < 3 ∧ k2 < 3) := ⟨HH1.out, hl2⟩
            have HRz := hide (HRA.out.below HS2.out)
            obtain ⟨ad1, px, q1, q2, Ax, Sx⟩ := HRz.out.at k1 HH1.out
            obtain rfl := Option.some.inj q1
            obtain ⟨ad2, py, q3, q4, Ay, Sy⟩ := HRz.out.at k2 hl2
            obtain rfl := Option.some.inj q3
            have HLxy : Hid (px.P.cloud.length ≤ 4000000000000 ∧ py.P.cloud.length ≤ 4000000000000) := ⟨HLL.out px (List.mem_of_getElem? q2), HLL.out py (List.mem_of_getElem? q4)⟩
            have HSx := hide Sx
            have HSy := hide Sy
            have HAx := hide Ax
            have HAy := hide Ay
            have HBWwr := hide (HBWy1.out.trans (HS2.out.mono HBWy1.out.size))
            have HSN2 := HS2
            clear q1 q2 q3 q4 Ax Sx Ay Sy HRz HS2
            go_wp2_with fail
            generalize h47 : Value.bool (decide ((k1 : Int) < 3)) = u47
            have H47 := hide h47
            clear h47
            generalize Value.bool (decide ((k2 : Int) < 3)) = u51
            refine wp_region_inv (by kernel_rfl) (fun l x W => ∃ v12x0 v12x1 v12x2 v12x3 v12x4 v12x5 v12x6 v12x7 v12x8 v12x9, x = { tmps := #[CaseV a b c dv rp ms, ptr w.heap.size, u2, .slice (some ad) 3 3, .int .i64 k1, .int .i64 k2, v12x8, v12x9, .bool true, .bool false, .pointer (some ⟨w.heap.size, 0, none⟩), PV a, .pointer (some ⟨w.heap.size, 2, none⟩), PV b, .pointer (some ⟨w.heap.size, 4, none⟩), PV c, .slice (some ad) 3 3, .pointer (some ⟨w.heap.size, 0, none⟩), PV a, .pointer (some ⟨w.heap.size, 2, none⟩), PV b, .pointer (some ⟨w.heap.size, 4, none⟩), PV c, v4x6, PV p4_7, .slice (some ad) 3 3, PV p4_9, .bool true, .bool false, .bool false, PV p4_13, PV pv0, .bool true, .bool false, .bool false, .bool false, .pointer (some ⟨w.heap.size, 2, none⟩), PV b, v4x21, PV p4_22, .pointer (some ⟨w.heap.size, 2, none⟩), PV b, PV p4_25, .bool true, .bool false, .bool false, .int .i64 k1, u47, u48, u49, .int .i64 k2, u51, u52, u53, v12x0, v12x1, v12x2, v12x3, v12x4, v12x5, v12x6, v12x7, u62, u63, u64, u65, u66, u67, u68, u69, u70, u71, u72, u73, u74, u75, u76, u77, u78, u79, u80, u81, u82, u83, u84, u85, u86, u87, u88, u89, u90, u91, u92, u93, u94, u95, u96, u97, u98, u99, u100, u101, u102, u103, u104, u105, u106, u107, u108, u109, u110, u111, u112, u113, u114, u115, u116], defers := [] } ∧ BI 12 10 wr (Ph12 px py ad k1 k2 w wr) [] [] [(8, 10, 3), (9, 11, 7)] l W [v12x0, v12x1, v12x2, v12x3, v12x4, v12x5, v12x6, v12x7, v12x8, v12x9, undef, undef]) ⟨u54, u55, u56, u57, u58, u59, u60, u61, u6, u7, rfl, BI.start _ _ _ _ _ _ _ _ rfl⟩ ?_ ?_ ?_
            · rintro l x W ⟨v12x0, v12x1, v12x2, v12x3, v12x4, v12x5, v12x6, v12x7, v12x8, v12x9, rfl, T⟩
              exact T.sz
            · exact st12 HAx HAy HKK
            · rintro l x W ⟨v12x0, v12x1, v12x2, v12x3, v12x4, v12x5, v12x6, v12x7, v12x8, v12x9, rfl, T⟩ hnil
              have hall := fun i (hi : i < 12) => ready_done (by kernel_rfl) T.sz hnil i hi
              have HT := hide T
              clear T hnil
              have e0 : v12x0 = .slice (some ad) 3 3 := HT.out.h 0 (by decide) (hall 0 (by decide)) (fun hm => absurd hm (by decide))
              subst e0
              have e1 : v12x1 = .int .i64 k1 := HT.out.h 1 (by decide) (hall 1 (by decide)) (fun hm => absurd hm (by decide))
              subst e1
              have e2 : v12x2 = .pointer (some (ad.add (k1 * 2))) := HT.out.h 2 (by decide) (hall 2 (by decide)) (fun hm => absurd hm (by decide))
              subst e2
              have e3 : v12x3 = PV px := HT.out.h 3 (by decide) (hall 3 (by decide)) (fun hm => absurd hm (by decide))
              subst e3
              have e4 : v12x4 = .slice (some ad) 3 3 := HT.out.h 4 (by decide) (hall 4 (by decide)) (fun hm => absurd hm (by decide))
              subst e4
              have e5 : v12x5 = .int .i64 k2 := HT.out.h 5 (by decide) (hall 5 (by decide)) (fun hm => absurd hm (by decide))
              subst e5
              have e6 : v12x6 = .pointer (some (ad.add (k2 * 2))) := HT.out.h 6 (by decide) (hall 6 (by decide)) (fun hm => absurd hm (by decide))
              subst e6
              have e7 : v12x7 = PV py := HT.out.h 7 (by decide) (hall 7 (by decide)) (fun hm => absurd hm (by decide))
              subst e7
              obtain ⟨gx, e8, -, -, -, k8⟩ := HT.out.a (8, 10, 3) (by simp) (hall 8 (by decide))
              have HXgx : Hid (PBox W gx px) := k8 (hall 10 (by decide)) px rfl
              have f8 : v12x8 = ptr gx := e8
              subst f8
              clear e8 k8
              obtain ⟨gy, e9, -, -, -, k9⟩ := HT.out.a (9, 11, 7) (by simp) (hall 9 (by decide))
              have HXgy : Hid (PBox W gy py) := k9 (hall 11 (by decide)) py rfl
              have f9 : v12x9 = ptr gy := e9
              subst f9
              clear e9 k9
              have by2 := HT.out.b
              rename World => y2
              clear hall HT l
              replace HSx := hide (HSx.out.below by2)
              replace HSy := hide (HSy.out.below by2)
              replace HSN2 := hide (HSN2.out.below by2)
              have HBWy2 := hide (HBWwr.out.trans (by2.mono HBWwr.out.size))
              clear by2
              clear HAx HAy
              go_wp2_with fail
              refine wp_region_inv (by kernel_rfl) (fun l x W => ∃ v13x0 v13x1 v13x2 v13x3 v13x4 v13x5 v13x6 v13x7 v13x8 v13x9 v13x10 v13x11 v13x12 v13x13 v13x14 v13x15 v13x16 v13x17 v13x18 v13x19 v13x20 v13x21 v13x22 v13x23 v13x24 v13x25 v13x26 v13x27 v13x28 v13x29, x = { tmps := #[CaseV a b c dv rp ms, ptr w.heap.size, u2, .slice (some ad) 3 3, .int .i64 k1, .int .i64 k2, ptr gx, ptr gy, .bool true, .bool false, .pointer (some ⟨w.heap.size, 0, none⟩), PV a, .pointer (some ⟨w.heap.size, 2, none⟩), PV b, .pointer (some ⟨w.heap.size, 4, none⟩), PV c, .slice (some ad) 3 3, .pointer (some ⟨w.heap.size, 0, none⟩), PV a, .pointer (some ⟨w.heap.size, 2, none⟩), PV b, .pointer (some ⟨w.heap.size, 4, none⟩), PV c, v4x6, PV p4_7, .slice (some ad) 3 3, PV p4_9, .bool true, .bool false, .bool false, PV p4_13, PV pv0, .bool true, .bool false, .bool false, .bool false, .pointer (some ⟨w.heap.size, 2, none⟩), PV b, v4x21, PV p4_22, .pointer (some ⟨w.heap.size, 2, none⟩), PV b, PV p4_25, .bool true, .bool false, .bool false, .int .i64 k1, u47, u48, u49, .int .i64 k2, u51, u52, u53, .slice (some ad) 3 3, .int .i64 k1, .pointer (some (ad.add (k1 * 2))), PV px, .slice (some ad) 3 3, .int .i64 k2, .pointer (some (ad.add (k2 * 2))), PV py, v13x0, v13x1, v13x2, v13x3, v13x4, v13x5, v13x6, v13x7, v13x8, v13x9, v13x10, v13x11, v13x12, v13x13, v13x14, v13x15, v13x16, v13x17, v13x18, v13x19, v13x20, v13x21, v13x22, v13x23, v13x24, v13x25, v13x26, v13x27, v13x28, v13x29, u92, u93, u94, u95, u96, u97, u98, u99, u100, u101, u102, u103, u104, u105, u106, u107, u108, u109, u110, u111, u112, u113, u114, u115, u116], defers := [] } ∧ BI 30 37 y2 (Ph13 px py w y2) [] [(3, IsP (mOr (mP px.P) (mP py.P))), (7, IsP (mOr (mP px.P) (mP py.P))), (13, IsP (mAnd (mP px.P) (mP py.P))), (16, IsP (mAnd (mP px.P) (mP py.P))), (23, IsP (mNot (mP px.P) (mP py.P))), (26, IsP (mNot (mP px.P) (mP py.P)))] [] l W [v13x0, v13x1, v13x2, v13x3, v13x4, v13x5, v13x6, v13x7, v13x8, v13x9, v13x10, v13x11, v13x12, v13x13, v13x14, v13x15, v13x16, v13x17, v13x18, v13x19, v13x20, v13x21, v13x22, v13x23, v13x24, v13x25, v13x26, v13x27, v13x28, v13x29]) ⟨u62, u63, u64, u65, u66, u67, u68, u69, u70, u71, u72, u73, u74, u75, u76, u77, u78, u79, u80, u81, u82, u83, u84, u85, u86, u87, u88, u89, u90, u91, rfl, BI.start _ _ _ _ _ _ _ _ rfl⟩ ?_ ?_ ?_
              · rintro l x W ⟨v13x0, v13x1, v13x2, v13x3, v13x4, v13x5, v13x6, v13x7, v13x8, v13x9, v13x10, v13x11, v13x12, v13x13, v13x14, v13x15, v13x16, v13x17, v13x18, v13x19, v13x20, v13x21, v13x22, v13x23, v13x24, v13x25, v13x26, v13x27, v13x28, v13x29, rfl, T⟩
                exact T.sz
              · exact st13 HSx HSy HXgx HXgy HLxy
              · rintro l x W ⟨v13x0, v13x1, v13x2, v13x3, v13x4, v13x5, v13x6, v13x7, v13x8, v13x9, v13x10, v13x11, v13x12, v13x13, v13x14, v13x15, v13x16, v13x17, v13x18, v13x19, v13x20, v13x21, v13x22, v13x23, v13x24, v13x25, v13x26, v13x27, v13x28, v13x29, rfl, T⟩ hnil
                have hall := fun i (hi : i < 30) => ready_done (by kernel_rfl) T.sz hnil i hi
                have HT := hide T
                clear T hnil
                have e0 : v13x0 = PV px := HT.out.h 0 (by decide) (hall 0 (by decide)) (fun hm => absurd hm (by decide))
                subst e0
                have e1 : v13x1 = PV py := HT.out.h 1 (by decide) (hall 1 (by decide)) (fun hm => absurd hm (by decide))
                subst e1
                obtain ⟨p13_3, e3, Sp13_3, qp13_3, -⟩ := HT.out.r (3, IsP (mOr (mP px.P) (mP py.P))) (by simp) (hall 3 (by decide))
                have f3 : v13x3 = PV p13_3 := e3
                subst f3
                have HSp13_3 := hide Sp13_3
                have HQp13_3 : Hid (IsP (mOr (mP px.P) (mP py.P)) p13_3.P) := qp13_3
                clear e3 Sp13_3 qp13_3
                have e4 : v13x4 = PV px := HT.out.h 4 (by decide) (hall 4 (by decide)) (fun hm => absurd hm (by decide))
                subst e4
                have e5 : v13x5 = PV py := HT.out.h 5 (by decide) (hall 5 (by decide)) (fun hm => absurd hm (by decide))
                subst e5
                obtain ⟨p13_7, e7, Sp13_7, qp13_7, -⟩ := HT.out.r (7, IsP (mOr (mP px.P) (mP py.P))) (by simp) (hall 7 (by decide))
                have f7 : v13x7 = PV p13_7 := e7
                subst f7
                have HSp13_7 := hide Sp13_7
                have HQp13_7 : Hid (IsP (mOr (mP px.P) (mP py.P)) p13_7.P) := qp13_7
                clear e7 Sp13_7 qp13_7
                have e8 : v13x8 = .bool true := HT.out.h 8 (by decide) (hall 8 (by decide)) (fun hm => absurd hm (by decide))
                subst e8
                have e9 : v13x9 = .bool false := HT.out.h 9 (by decide) (hall 9 (by decide)) (fun hm => absurd hm (by decide))
                subst e9
                have e10 : v13x10 = .bool false := HT.out.h 10 (by decide) (hall 10 (by decide)) (fun hm => absurd hm (by decide))
                subst e10
                have e11 : v13x11 = PV px := HT.out.h 11 (by decide) (hall 11 (by decide)) (fun hm => absurd hm (by decide))
                subst e11
                have e12 : v13x12 = PV py := HT.out.h 12 (by decide) (hall 12 (by decide)) (fun hm => absurd hm (by decide))
                subst e12
                obtain ⟨p13_13, e13, Sp13_13, qp13_13, -⟩ := HT.out.r (13, IsP (mAnd (mP px.P) (mP py.P))) (by simp) (hall 13 (by decide))
                have f13 : v13x13 = PV p13_13 := e13
                subst f13
                have HSp13_13 := hide Sp13_13
                have HQp13_13 : Hid (IsP (mAnd (mP px.P) (mP py.P)) p13_13.P) := qp13_13
                clear e13 Sp13_13 qp13_13
                have e14 : v13x14 = PV px := HT.out.h 14 (by decide) (hall 14 (by decide)) (fun hm => absurd hm (by decide))
                subst e14
                have e15 : v13x15 = PV py := HT.out.h 15 (by decide) (hall 15 (by decide)) (fun hm => absurd hm (by decide))
                subst e15
                obtain ⟨p13_16, e16, Sp13_16, qp13_16, -⟩ := HT.out.r (16, IsP (mAnd (mP px.P) (mP py.P))) (by simp) (hall 16 (by decide))
                have f16 : v13x16 = PV p13_16 := e16
                subst f16
                have HSp13_16 := hide Sp13_16
                have HQp13_16 : Hid (IsP (mAnd (mP px.P) (mP py.P)) p13_16.P) := qp13_16
                clear e16 Sp13_16 qp13_16
                have e17 : v13x17 = .bool true := HT.out.h 17 (by decide) (hall 17 (by decide)) (fun hm => absurd hm (by decide))
                subst e17
                have e18 : v13x18 = .bool false := HT.out.h 18 (by decide) (hall 18 (by decide)) (fun hm => absurd hm (by decide))
                subst e18
                have e19 : v13x19 = .bool false := HT.out.h 19 (by decide) (hall 19 (by decide)) (fun hm => absurd hm (by decide))
                subst e19
                have e20 : v13x20 = .bool false := HT.out.h 20 (by decide) (hall 20 (by decide)) (fun hm => absurd hm (by decide))
                subst e20
                have e21 : v13x21 = PV px := HT.out.h 21 (by decide) (hall 21 (by decide)) (fun hm => absurd hm (by decide))
                subst e21
                have e22 : v13x22 = PV py := HT.out.h 22 (by decide) (hall 22 (by decide)) (fun hm => absurd hm (by decide))
                subst e22
                obtain ⟨p13_23, e23, Sp13_23, qp13_23, -⟩ := HT.out.r (23, IsP (mNot (mP px.P) (mP py.P))) (by simp) (hall 23 (by decide))
                have f23 : v13x23 = PV p13_23 := e23
                subst f23
                have HSp13_23 := hide Sp13_23
                have HQp13_23 : Hid (IsP (mNot (mP px.P) (mP py.P)) p13_23.P) := qp13_23
                clear e23 Sp13_23 qp13_23
                have e24 : v13x24 = PV px := HT.out.h 24 (by decide) (hall 24 (by decide)) (fun hm => absurd hm (by decide))
                subst e24
                have e25 : v13x25 = PV py := HT.out.h 25 (by decide) (hall 25 (by decide)) (fun hm => absurd hm (by decide))
                subst e25
                obtain ⟨p13_26, e26, Sp13_26, qp13_26, -⟩ := HT.out.r (26, IsP (mNot (mP px.P) (mP py.P))) (by simp) (hall 26 (by decide))
                have f26 : v13x26 = PV p13_26 := e26
                subst f26
                have HSp13_26 := hide Sp13_26
                have HQp13_26 : Hid (IsP (mNot (mP px.P) (mP py.P)) p13_26.P) := qp13_26
                clear e26 Sp13_26 qp13_26
                have e27 : v13x27 = .bool true := HT.out.h 27 (by decide) (hall 27 (by decide)) (fun hm => absurd hm (by decide))
                subst e27
                have e28 : v13x28 = .bool false := HT.out.h 28 (by decide) (hall 28 (by decide)) (fun hm => absurd hm (by decide))
                subst e28
                have e29 : v13x29 = .bool false := HT.out.h 29 (by decide) (hall 29 (by decide)) (fun hm => absurd hm (by decide))
                subst e29
                have by3 := HT.out.b
                rename World => y3
                clear hall HT l
                replace HSx := hide (HSx.out.below by3)
                replace HSy := hide (HSy.out.below by3)
                replace HSN2 := hide (HSN2.out.below by3)
                replace HXgx := hide (HXgx.out.below by3)
                replace HXgy := hide (HXgy.out.below by3)
                have HBWy3 := hide (HBWy2.out.trans (by3.mono HBWy2.out.size))
                clear HSp13_3 HQp13_3
                clear HSp13_7 HQp13_7
                clear HSp13_13 HQp13_13
                clear HSp13_16 HQp13_16
                clear HSp13_23 HQp13_23
                clear HSp13_26 HQp13_26
                clear by3
                obtain ⟨zw, hzw⟩ := biff_ex (∀ r, r < 16 → ∀ n, mem (runsAt px.P r) n → mem (runsAt py.P r) n)
                have HZW := hide hzw
                clear hzw
                obtain ⟨zv, hzv⟩ := biff_ex (∀ r, r < 16 → ∀ n, mem (runsAt py.P r) n → mem (runsAt px.P r) n)
                have HZV := hide hzv
                clear hzv
                obtain ⟨zc, hzc⟩ := cmpOf_ex px.P py.P
                have HZC := hide hzc
                clear hzc
                go_wp2_with fail
                refine wp_region_inv (by kernel_rfl) (fun l x W => ∃ v15x0 v15x1 v15x2 v15x3 v15x4 v15x5 v15x6 v15x7 v15x8 v15x9 v15x10 v15x11 v15x12 v15x13 v15x14 v15x15 v15x16 v15x17 v15x18 v15x19 v15x20 v15x21 v15x22 v15x23 v15x24, x = { tmps := #[CaseV a b c dv rp ms, ptr w.heap.size, u2, .slice (some ad) 3 3, .int .i64 k1, .int .i64 k2, ptr gx, ptr gy, .bool true, .bool false, .pointer (some ⟨w.heap.size, 0, none⟩), PV a, .pointer (some ⟨w.heap.size, 2, none⟩), PV b, .pointer (some ⟨w.heap.size, 4, none⟩), PV c, .slice (some ad) 3 3, .pointer (some ⟨w.heap.size, 0, none⟩), PV a, .pointer (some ⟨w.heap.size, 2, none⟩), PV b, .pointer (some ⟨w.heap.size, 4, none⟩), PV c, v4x6, PV p4_7, .slice (some ad) 3 3, PV p4_9, .bool true, .bool false, .bool false, PV p4_13, PV pv0, .bool true, .bool false, .bool false, .bool false, .pointer (some ⟨w.heap.size, 2, none⟩), PV b, v4x21, PV p4_22, .pointer (some ⟨w.heap.size, 2, none⟩), PV b, PV p4_25, .bool true, .bool false, .bool false, .int .i64 k1, u47, u48, u49, .int .i64 k2, u51, u52, u53, .slice (some ad) 3 3, .int .i64 k1, .pointer (some (ad.add (k1 * 2))), PV px, .slice (some ad) 3 3, .int .i64 k2, .pointer (some (ad.add (k2 * 2))), PV py, PV px, PV py, v13x2, PV p13_3, PV px, PV py, v13x6, PV p13_7, .bool true, .bool false, .bool false, PV px, PV py, PV p13_13, PV px, PV py, PV p13_16, .bool true, .bool false, .bool false, .bool false, PV px, PV py, PV p13_23, PV px, PV py, PV p13_26, .bool true, .bool false, .bool false, v15x0, v15x1, v15x2, v15x3, v15x4, v15x5, v15x6, v15x7, v15x8, v15x9, v15x10, v15x11, v15x12, v15x13, v15x14, v15x15, v15x16, v15x17, v15x18, v15x19, v15x20, v15x21, v15x22, v15x23, v15x24], defers := [] } ∧ BI 25 32 y3 (Ph15 px py zw zv zc w y3) [] [] [] l W [v15x0, v15x1, v15x2, v15x3, v15x4, v15x5, v15x6, v15x7, v15x8, v15x9, v15x10, v15x11, v15x12, v15x13, v15x14, v15x15, v15x16, v15x17, v15x18, v15x19, v15x20, v15x21, v15x22, v15x23, v15x24]) ⟨u92, u93, u94, u95, u96, u97, u98, u99, u100, u101, u102, u103, u104, u105, u106, u107, u108, u109, u110, u111, u112, u113, u114, u115, u116, rfl, BI.start _ _ _ _ _ _ _ _ rfl⟩ ?_ ?_ ?_
                · rintro l x W ⟨v15x0, v15x1, v15x2, v15x3, v15x4, v15x5, v15x6, v15x7, v15x8, v15x9, v15x10, v15x11, v15x12, v15x13, v15x14, v15x15, v15x16, v15x17, v15x18, v15x19, v15x20, v15x21, v15x22, v15x23, v15x24, rfl, T⟩
                  exact T.sz
                · exact st15 HSx HSy HXgx HXgy HZW HZV HZC
                · rintro l x W ⟨v15x0, v15x1, v15x2, v15x3, v15x4, v15x5, v15x6, v15x7, v15x8, v15x9, v15x10, v15x11, v15x12, v15x13, v15x14, v15x15, v15x16, v15x17, v15x18, v15x19, v15x20, v15x21, v15x22, v15x23, v15x24, rfl, T⟩ hnil
                  have hall := fun i (hi : i < 25) => ready_done (by kernel_rfl) T.sz hnil i hi
                  have HT := hide T
                  clear T hnil
                  have e0 : v15x0 = PV px := HT.out.h 0 (by decide) (hall 0 (by decide)) (fun hm => absurd hm (by decide))
                  subst e0
                  have e1 : v15x1 = PV py := HT.out.h 1 (by decide) (hall 1 (by decide)) (fun hm => absurd hm (by decide))
                  subst e1
                  have e2 : v15x2 = .bool zw := HT.out.h 2 (by decide) (hall 2 (by decide)) (fun hm => absurd hm (by decide))
                  subst e2
                  have e3 : v15x3 = PV px := HT.out.h 3 (by decide) (hall 3 (by decide)) (fun hm => absurd hm (by decide))
                  subst e3
                  have e4 : v15x4 = PV py := HT.out.h 4 (by decide) (hall 4 (by decide)) (fun hm => absurd hm (by decide))
                  subst e4
                  have e5 : v15x5 = .bool zw := HT.out.h 5 (by decide) (hall 5 (by decide)) (fun hm => absurd hm (by decide))
                  subst e5
                  have e6 : v15x6 = .bool false := HT.out.h 6 (by decide) (hall 6 (by decide)) (fun hm => absurd hm (by decide))
                  subst e6
                  have e7 : v15x7 = .bool false := HT.out.h 7 (by decide) (hall 7 (by decide)) (fun hm => absurd hm (by decide))
                  subst e7
                  have e8 : v15x8 = PV px := HT.out.h 8 (by decide) (hall 8 (by decide)) (fun hm => absurd hm (by decide))
                  subst e8
                  have e9 : v15x9 = PV py := HT.out.h 9 (by decide) (hall 9 (by decide)) (fun hm => absurd hm (by decide))
                  subst e9
                  have e10 : v15x10 = .int .i64 (ordv zw zv) := HT.out.h 10 (by decide) (hall 10 (by decide)) (fun hm => absurd hm (by decide))
                  subst e10
                  have e11 : v15x11 = PV px := HT.out.h 11 (by decide) (hall 11 (by decide)) (fun hm => absurd hm (by decide))
                  subst e11
                  have e12 : v15x12 = PV py := HT.out.h 12 (by decide) (hall 12 (by decide)) (fun hm => absurd hm (by decide))
                  subst e12
                  have e13 : v15x13 = .int .i64 (ordv zw zv) := HT.out.h 13 (by decide) (hall 13 (by decide)) (fun hm => absurd hm (by decide))
                  subst e13
                  have e14 : v15x14 = .bool false := HT.out.h 14 (by decide) (hall 14 (by decide)) (fun hm => absurd hm (by decide))
                  subst e14
                  have e15 : v15x15 = .bool false := HT.out.h 15 (by decide) (hall 15 (by decide)) (fun hm => absurd hm (by decide))
                  subst e15
                  have e16 : v15x16 = .bool false := HT.out.h 16 (by decide) (hall 16 (by decide)) (fun hm => absurd hm (by decide))
                  subst e16
                  have e17 : v15x17 = PV px := HT.out.h 17 (by decide) (hall 17 (by decide)) (fun hm => absurd hm (by decide))
                  subst e17
                  have e18 : v15x18 = PV py := HT.out.h 18 (by decide) (hall 18 (by decide)) (fun hm => absurd hm (by decide))
                  subst e18
                  have e19 : v15x19 = .int .i64 zc := HT.out.h 19 (by decide) (hall 19 (by decide)) (fun hm => absurd hm (by decide))
                  subst e19
                  have e20 : v15x20 = PV px := HT.out.h 20 (by decide) (hall 20 (by decide)) (fun hm => absurd hm (by decide))
                  subst e20
                  have e21 : v15x21 = PV py := HT.out.h 21 (by decide) (hall 21 (by decide)) (fun hm => absurd hm (by decide))
                  subst e21
                  have e22 : v15x22 = .int .i64 zc := HT.out.h 22 (by decide) (hall 22 (by decide)) (fun hm => absurd hm (by decide))
                  subst e22
                  have e23 : v15x23 = .bool false := HT.out.h 23 (by decide) (hall 23 (by decide)) (fun hm => absurd hm (by decide))
                  subst e23
                  have e24 : v15x24 = .bool false := HT.out.h 24 (by decide) (hall 24 (by decide)) (fun hm => absurd hm (by decide))
                  subst e24
                  have by4 := HT.out.b
                  rename World => y4
                  clear hall HT l
                  replace HSx := hide (HSx.out.below by4)
                  replace HSy := hide (HSy.out.below by4)
                  replace HSN2 := hide (HSN2.out.below by4)
                  replace HXgx := hide (HXgx.out.below by4)
                  replace HXgy := hide (HXgy.out.below by4)
                  have HBWy4 := hide (HBWy3.out.trans (by4.mono HBWy3.out.size))
                  clear by4
                  go_wp2_with fail
                  have h47 := H47.out
                  clear H47
                  subst h47
                  go_roundw
                  case rel => exact ⟨k2 + 1, by have := HKK.out; omega, by go_num, HSN2⟩
                  case measure => have := HKK.out; simp [intOf]; omega
          · obtain rfl : k2 = 3 := by omega
            go_wp2_with fail
            go_roundw
            case rel => exact ⟨k1 + 1, by have := HH1.out; omega, by go_num, HS2⟩
            case measure => have := HH1.out; simp [intOf]; omega
      · obtain rfl : k1 = 3 := by omega
        have HFB := hide (HBWy1.out.trans (HS1.out.mono HBWy1.out.size))
        go_wp2_with fail
        go_ret
        exact ⟨rfl, HFB.out⟩
end Go.Proofs.Ytiogmeaianogmaa
