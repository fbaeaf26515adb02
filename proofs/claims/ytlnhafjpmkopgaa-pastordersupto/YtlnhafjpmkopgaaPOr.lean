/- PastOrders: the law's walk. -/
import Derived.Test.YtlnhafjpmkopgaaPO3
import Derived.Test.YtlnhafjpmkopgaaPO8
import Derived.Test.YtlnhafjpmkopgaaPO10
import Derived.Test.YtlnhafjpmkopgaaPFy
namespace Go.Proofs.Ytlnhafjpmkopgaa
open Go.RowKit
attribute [local go_sem ↓] ldP_eq stP_eq
attribute [local go_sem] zero_PC cells_PV fold_PC PC_size fold_PC1 fold_PC2 fold_PC3 cells_CasV build_PC1
set_option maxRecDepth 100000 in
set_option maxHeartbeats 8000000 in
theorem orders_any (a b c : Pv) (dv : Value) (rp ms : Int) (w : World) (hA : PSrc w a) (hB : PSrc w b) (hC : PSrc w c) (hW : wt [a, b, c] ≤ 4000000000000) :
    Calls Try.prog 4 #[CasV a b c dv rp ms] w fun e w' => e = .returned (.bool true) ∧ Below w.heap.size w w' := by
  have HA := hide hA
  have HB := hide hB
  have HC := hide hC
  have HBL : Hid (2 * b.P.cloud.length ≤ 8000000000000) := by have h := hW; simp only [wt] at h; show _ ≤ _; omega
  clear hA hB hC hW
  have HB0 := hide (below_new w (.cells (CasC a b c dv rp ms) 28))
  have HCB := hide (cbox_new w (CasC a b c dv rp ms))
  obtain ⟨ab, Hab⟩ : ∃ z, Hid (CmpOf a.P b.P z) := cmp_ex _ _
  obtain ⟨bc, Hbc⟩ : ∃ z, Hid (CmpOf b.P c.P z) := cmp_ex _ _
  obtain ⟨ac, Hac⟩ : ∃ z, Hid (CmpOf a.P c.P z) := cmp_ex _ _
  have HR := hide Hab.out.rng
  have HTR : Hid (ab ≤ 0 → bc ≤ 0 → ac ≤ 0 ∧ (ac = 0 → ab = 0 ∧ bc = 0)) := fun h1 h2 => Hab.out.tr Hbc.out Hac.out h1 h2
  go_enter Try.func4, Try.ntmps4
  go_wp2_with fail
  refine (fixed_true _).mono ?_
  rintro e f1 ⟨rfl, b1⟩
  have HBf := hide (HB0.out.trans (b1.mono HB0.out.size))
  replace HCB := hide (HCB.out.below b1)
  clear b1 HB0
  have v1 := vlit1 f1 1 #[.int .i64 1] rfl 3
  have b2 := below_new f1 (.cells #[.int .i64 1] 3)
  have b3 := below_new (f1.alloc (.cells #[.int .i64 1] 3)) (.cells #[.int .i64 2] 3)
  have v2 := vlit1 (f1.alloc (.cells #[.int .i64 1] 3)) 2 #[.int .i64 2] rfl 3
  rw [World.size_alloc] at v2
  have HV1 := hide (vv1_src (v1.below b3))
  have HV2 := hide (vv1_src v2)
  have HBB := hide (b2.trans (b3.mono b2.size))
  clear v1 v2 b2 b3
  go_wp2_with fail
  refine (pastCompare_any (vv1 f1.heap.size 1) (vv1 (f1.heap.size + 1) 2) _ HV1.out HV2.out).mono ?_
  rintro e w1 ⟨z, rfl, hz, b4⟩
  obtain rfl : -1 = z := CmpOf.unique cmp_12 hz
  have bb := HBB.out.trans (b4.mono HBB.out.size)
  have HBWw1 := hide (HBf.out.trans (bb.mono HBf.out.size))
  replace HCB := hide (HCB.out.below bb)
  replace HA := hide (HA.out.below HBWw1.out)
  replace HB := hide (HB.out.below HBWw1.out)
  replace HC := hide (HC.out.below HBWw1.out)
  clear hz b4 bb HBf HBB HV1 HV2
  go_wp2_with fail
  refine wp_region_inv (by kernel_rfl) (fun l x W => ∃ v3x0 v3x1 v3x2 v3x3 v3x4 v3x5 v3x6 v3x7 v3x8 v3x9 v3x10 v3x11 v3x12 v3x13 v3x14 v3x15 v3x16 v3x17, x = { tmps := #[CasV a b c dv rp ms, ptr w.heap.size, .bool false, v3x15, v3x16, v3x17, .bool true, .bool false, .bool false, .slice (some ⟨f1.heap.size, 0, none⟩) 1 1, PV (vv1 f1.heap.size 1), .slice (some ⟨f1.heap.size + 1, 0, none⟩) 1 1, PV (vv1 (f1.heap.size + 1) 2), .int .i64 (-1), .bool false, .bool false, v3x0, v3x1, v3x2, v3x3, v3x4, v3x5, v3x6, v3x7, v3x8, v3x9, v3x10, v3x11, v3x12, v3x13, v3x14, undef, undef, undef, undef, undef, undef, undef, undef, undef, undef, undef, undef, undef, undef, undef, undef, undef, undef, undef, undef, undef, undef, undef, undef, undef, undef, undef, undef, undef, undef, undef, undef, undef, undef, undef, undef, undef, undef, undef, undef, undef, undef, undef, undef, undef, undef, undef, undef, undef, undef, undef, undef, undef, undef, undef, undef, undef, undef, undef, undef, undef, undef, undef, undef, undef, undef, undef, undef, undef, undef, undef, undef, undef, undef, undef, undef, undef, undef, undef, undef, undef, undef, undef, undef, undef, undef, undef, undef, undef, undef, undef, undef, undef], defers := [] } ∧ BI 18 25 w1 (PhO3 a b c w ab bc ac w1) [] [] [] l W [v3x0, v3x1, v3x2, v3x3, v3x4, v3x5, v3x6, v3x7, v3x8, v3x9, v3x10, v3x11, v3x12, v3x13, v3x14, v3x15, v3x16, v3x17]) ⟨undef, undef, undef, undef, undef, undef, undef, undef, undef, undef, undef, undef, undef, undef, undef, undef, undef, undef, rfl, BI.start _ _ _ _ _ _ _ _ rfl⟩ ?_ ?_ ?_
  · rintro l x W ⟨v3x0, v3x1, v3x2, v3x3, v3x4, v3x5, v3x6, v3x7, v3x8, v3x9, v3x10, v3x11, v3x12, v3x13, v3x14, v3x15, v3x16, v3x17, rfl, T⟩
    exact T.sz
  · exact stO3 HCB HA HB HC Hab Hbc Hac
  · rintro l x W ⟨v3x0, v3x1, v3x2, v3x3, v3x4, v3x5, v3x6, v3x7, v3x8, v3x9, v3x10, v3x11, v3x12, v3x13, v3x14, v3x15, v3x16, v3x17, rfl, T⟩ hnil
    have hall := fun i (hi : i < 18) => ready_done (by kernel_rfl) T.sz hnil i hi
    have HT := hide T
    clear T hnil
    have e0 : v3x0 = .pointer (some ⟨w.heap.size, 0, none⟩) := HT.out.h 0 (by decide) (hall 0 (by decide)) (fun hm => absurd hm (by decide))
    subst e0
    have e1 : v3x1 = PV a := HT.out.h 1 (by decide) (hall 1 (by decide)) (fun hm => absurd hm (by decide))
    subst e1
    have e2 : v3x2 = .pointer (some ⟨w.heap.size, 2, none⟩) := HT.out.h 2 (by decide) (hall 2 (by decide)) (fun hm => absurd hm (by decide))
    subst e2
    have e3 : v3x3 = PV b := HT.out.h 3 (by decide) (hall 3 (by decide)) (fun hm => absurd hm (by decide))
    subst e3
    have e4 : v3x4 = .int .i64 ab := HT.out.h 4 (by decide) (hall 4 (by decide)) (fun hm => absurd hm (by decide))
    subst e4
    have e5 : v3x5 = .pointer (some ⟨w.heap.size, 2, none⟩) := HT.out.h 5 (by decide) (hall 5 (by decide)) (fun hm => absurd hm (by decide))
    subst e5
    have e6 : v3x6 = PV b := HT.out.h 6 (by decide) (hall 6 (by decide)) (fun hm => absurd hm (by decide))
    subst e6
    have e7 : v3x7 = .pointer (some ⟨w.heap.size, 4, none⟩) := HT.out.h 7 (by decide) (hall 7 (by decide)) (fun hm => absurd hm (by decide))
    subst e7
    have e8 : v3x8 = PV c := HT.out.h 8 (by decide) (hall 8 (by decide)) (fun hm => absurd hm (by decide))
    subst e8
    have e9 : v3x9 = .int .i64 bc := HT.out.h 9 (by decide) (hall 9 (by decide)) (fun hm => absurd hm (by decide))
    subst e9
    have e10 : v3x10 = .pointer (some ⟨w.heap.size, 0, none⟩) := HT.out.h 10 (by decide) (hall 10 (by decide)) (fun hm => absurd hm (by decide))
    subst e10
    have e11 : v3x11 = PV a := HT.out.h 11 (by decide) (hall 11 (by decide)) (fun hm => absurd hm (by decide))
    subst e11
    have e12 : v3x12 = .pointer (some ⟨w.heap.size, 4, none⟩) := HT.out.h 12 (by decide) (hall 12 (by decide)) (fun hm => absurd hm (by decide))
    subst e12
    have e13 : v3x13 = PV c := HT.out.h 13 (by decide) (hall 13 (by decide)) (fun hm => absurd hm (by decide))
    subst e13
    have e14 : v3x14 = .int .i64 ac := HT.out.h 14 (by decide) (hall 14 (by decide)) (fun hm => absurd hm (by decide))
    subst e14
    have e15 : v3x15 = .int .i64 ab := HT.out.h 15 (by decide) (hall 15 (by decide)) (fun hm => absurd hm (by decide))
    subst e15
    have e16 : v3x16 = .int .i64 bc := HT.out.h 16 (by decide) (hall 16 (by decide)) (fun hm => absurd hm (by decide))
    subst e16
    have e17 : v3x17 = .int .i64 ac := HT.out.h 17 (by decide) (hall 17 (by decide)) (fun hm => absurd hm (by decide))
    subst e17
    have by1 := HT.out.b
    rename World => y1
    clear hall HT l
    replace HCB := hide (HCB.out.below by1)
    replace HA := hide (HA.out.below by1)
    replace HB := hide (HB.out.below by1)
    replace HC := hide (HC.out.below by1)
    have HBWy1 := hide (HBWw1.out.trans (by1.mono HBWw1.out.size))
    clear by1
    have hg1 : ¬ ab < -1 := by have := HR.out; omega
    have hg2 : ¬ 1 < ab := by have := HR.out; omega
    have hwr : IntKind.i64.wrap (-ab) = -ab := by have := HR.out; rw [IntKind.wrap_i64]; omega
    have l_a := run_ldP HCB.out.pa
    have l_b := run_ldP HCB.out.pb
    go_wp2_with fail
    refine (pastCompare_any b a _ HB.out HA.out).mono ?_
    rintro e z1 ⟨z, rfl, hz, bz1⟩
    obtain rfl : -ab = z := CmpOf.unique Hab.out.neg hz
    clear hz l_a l_b
    replace HCB := hide (HCB.out.below bz1)
    replace HA := hide (HA.out.below bz1)
    replace HB := hide (HB.out.below bz1)
    replace HC := hide (HC.out.below bz1)
    have HBWz1 := hide (HBWy1.out.trans (bz1.mono HBWy1.out.size))
    clear bz1
    have l_a := run_ldP HCB.out.pa
    have l_b := run_ldP HCB.out.pb
    go_wp2_with fail
    refine (pastCompare_any a a _ HA.out HA.out).mono ?_
    rintro e z2 ⟨z, rfl, hz, bz2⟩
    obtain rfl : 0 = z := CmpOf.unique (cmp_self a.P) hz
    clear hz l_a l_b
    replace HCB := hide (HCB.out.below bz2)
    replace HA := hide (HA.out.below bz2)
    replace HB := hide (HB.out.below bz2)
    replace HC := hide (HC.out.below bz2)
    have HBWz2 := hide (HBWz1.out.trans (bz2.mono HBWz1.out.size))
    clear bz2
    clear hg1 hg2 hwr
    go_upto_region 6 with fail
    go_cut [76] from 6 (fun s wx => s = .bool false ∧ z2 = wx)
    case first =>
      by_cases h1 : ab ≤ 0
      · by_cases h2 : bc ≤ 0
        · have h3 : ¬ 0 < ac := by have := HTR.out h1 h2; omega
          by_cases h4 : ac = 0
          · have h5 : ab = 0 ∧ bc = 0 := (HTR.out h1 h2).2 h4
            obtain ⟨h5, h6⟩ := h5
            have h4' : (ac == 0) = true := by simp [h4]
            have h5' : (ab != 0) = false := by simp [h5]
            have h6' : (bc != 0) = false := by simp [h6]
            clear h4 h5 h6
            go_wp2_with fail
            go_meet
            exact ⟨rfl, rfl⟩
          · have h4' : (ac == 0) = false := by simp [h4]
            clear h4
            go_wp2_with fail
            go_meet
            exact ⟨rfl, rfl⟩
        · skip
          go_wp2_with fail
          go_meet
          exact ⟨rfl, rfl⟩
      · skip
        go_wp2_with fail
        go_meet
        exact ⟨rfl, rfl⟩
    case rest =>
      obtain ⟨rfl, rfl⟩ := hcut
      obtain ⟨e0, HE0⟩ : ∃ e0, Hid ((ab == 0) = e0) := ⟨_, rfl⟩
      have HEV : Hid (e0 = true ↔ Eqv (mP a.P) (mP b.P)) := by show _ ↔ _; rw [← HE0.out, ← Hab.out.zero]; simp
      go_wp2_with fail
      refine wp_region_inv (by kernel_rfl) (fun l x W => ∃ v8x0 v8x1 v8x2 v8x3 v8x4 v8x5 v8x6 v8x7 v8x8 v8x9 v8x10 v8x11 v8x12 v8x13 v8x14 v8x15 v8x16 v8x17 v8x18 v8x19 v8x20 v8x21 v8x22 v8x23 v8x24 v8x25 v8x26 v8x27 v8x28 v8x29 v8x30 v8x31 v8x32, x = { tmps := #[CasV a b c dv rp ms, ptr w.heap.size, .bool false, .int .i64 ab, .int .i64 bc, .int .i64 ac, u6, u7, u8, u9, u10, u11, u12, u13, u14, u15, u16, u17, u18, u19, u20, u21, u22, u23, u24, u25, u26, u27, u28, u29, u30, u31, u32, u33, u34, u35, u36, u37, u38, u39, u40, u41, u42, u43, u44, u45, u46, u47, u48, u49, u50, u51, u52, u53, u54, u55, u56, u57, u58, u59, u60, u61, u62, u63, u64, u65, u66, u67, u68, u69, u70, u71, u72, u73, u74, u75, .bool false, v8x0, v8x1, v8x2, v8x3, v8x4, v8x5, v8x6, v8x7, v8x8, v8x9, v8x10, v8x11, v8x12, v8x13, v8x14, v8x15, v8x16, v8x17, v8x18, v8x19, v8x20, v8x21, v8x22, v8x23, v8x24, v8x25, v8x26, v8x27, v8x28, v8x29, v8x30, v8x31, v8x32, u110, u111, u112, u113, u114, u115, u116, u117, u118, u119, u120, u121, u122, u123], defers := [] } ∧ BI 33 40 z2 (PhO8 a b c w ab bc ac e0 z2) [] [(4, CanonOf (runsAt a.P)), (7, CanonOf (runsAt b.P)), (13, CanonOf (runsAt a.P)), (28, IsP (mP b.P))] [] l W [v8x0, v8x1, v8x2, v8x3, v8x4, v8x5, v8x6, v8x7, v8x8, v8x9, v8x10, v8x11, v8x12, v8x13, v8x14, v8x15, v8x16, v8x17, v8x18, v8x19, v8x20, v8x21, v8x22, v8x23, v8x24, v8x25, v8x26, v8x27, v8x28, v8x29, v8x30, v8x31, v8x32]) ⟨u77, u78, u79, u80, u81, u82, u83, u84, u85, u86, u87, u88, u89, u90, u91, u92, u93, u94, u95, u96, u97, u98, u99, u100, u101, u102, u103, u104, u105, u106, u107, u108, u109, rfl, BI.start _ _ _ _ _ _ _ _ rfl⟩ ?_ ?_ ?_
      · rintro l x W ⟨v8x0, v8x1, v8x2, v8x3, v8x4, v8x5, v8x6, v8x7, v8x8, v8x9, v8x10, v8x11, v8x12, v8x13, v8x14, v8x15, v8x16, v8x17, v8x18, v8x19, v8x20, v8x21, v8x22, v8x23, v8x24, v8x25, v8x26, v8x27, v8x28, v8x29, v8x30, v8x31, v8x32, rfl, T⟩
        exact T.sz
      · exact stO8 HCB HA HB HBL Hab HE0 HEV
      · rintro l x W ⟨v8x0, v8x1, v8x2, v8x3, v8x4, v8x5, v8x6, v8x7, v8x8, v8x9, v8x10, v8x11, v8x12, v8x13, v8x14, v8x15, v8x16, v8x17, v8x18, v8x19, v8x20, v8x21, v8x22, v8x23, v8x24, v8x25, v8x26, v8x27, v8x28, v8x29, v8x30, v8x31, v8x32, rfl, T⟩ hnil
        have hall := fun i (hi : i < 33) => ready_done (by kernel_rfl) T.sz hnil i hi
        have HT := hide T
        clear T hnil
        have e0 : v8x0 = .int .i64 ab := HT.out.h 0 (by decide) (hall 0 (by decide)) (fun hm => absurd hm (by decide))
        subst e0
        have e1 : v8x1 = .bool e0 := HT.out.h 1 (by decide) (hall 1 (by decide)) (fun hm => absurd hm (by decide))
        subst e1
        have e2 : v8x2 = .pointer (some ⟨w.heap.size, 0, none⟩) := HT.out.h 2 (by decide) (hall 2 (by decide)) (fun hm => absurd hm (by decide))
        subst e2
        have e3 : v8x3 = PV a := HT.out.h 3 (by decide) (hall 3 (by decide)) (fun hm => absurd hm (by decide))
        subst e3
        obtain ⟨p8_4, e4, Sp8_4, qp8_4, -⟩ := HT.out.r (4, CanonOf (runsAt a.P)) (by simp) (hall 4 (by decide))
        have f4 : v8x4 = PV p8_4 := e4
        subst f4
        have HSp8_4 := hide Sp8_4
        have HQp8_4 : Hid (CanonOf (runsAt a.P) p8_4.P) := qp8_4
        clear e4 Sp8_4 qp8_4
        have e5 : v8x5 = .pointer (some ⟨w.heap.size, 2, none⟩) := HT.out.h 5 (by decide) (hall 5 (by decide)) (fun hm => absurd hm (by decide))
        subst e5
        have e6 : v8x6 = PV b := HT.out.h 6 (by decide) (hall 6 (by decide)) (fun hm => absurd hm (by decide))
        subst e6
        obtain ⟨p8_7, e7, Sp8_7, qp8_7, -⟩ := HT.out.r (7, CanonOf (runsAt b.P)) (by simp) (hall 7 (by decide))
        have f7 : v8x7 = PV p8_7 := e7
        subst f7
        have HSp8_7 := hide Sp8_7
        have HQp8_7 : Hid (CanonOf (runsAt b.P) p8_7.P) := qp8_7
        clear e7 Sp8_7 qp8_7
        have e8 : v8x8 = .bool e0 := HT.out.h 8 (by decide) (hall 8 (by decide)) (fun hm => absurd hm (by decide))
        subst e8
        have e9 : v8x9 = .bool false := HT.out.h 9 (by decide) (hall 9 (by decide)) (fun hm => absurd hm (by decide))
        subst e9
        have e10 : v8x10 = .bool false := HT.out.h 10 (by decide) (hall 10 (by decide)) (fun hm => absurd hm (by decide))
        subst e10
        have e11 : v8x11 = .pointer (some ⟨w.heap.size, 0, none⟩) := HT.out.h 11 (by decide) (hall 11 (by decide)) (fun hm => absurd hm (by decide))
        subst e11
        have e12 : v8x12 = PV a := HT.out.h 12 (by decide) (hall 12 (by decide)) (fun hm => absurd hm (by decide))
        subst e12
        obtain ⟨p8_13, e13, Sp8_13, qp8_13, -⟩ := HT.out.r (13, CanonOf (runsAt a.P)) (by simp) (hall 13 (by decide))
        have f13 : v8x13 = PV p8_13 := e13
        subst f13
        have HSp8_13 := hide Sp8_13
        have HQp8_13 : Hid (CanonOf (runsAt a.P) p8_13.P) := qp8_13
        clear e13 Sp8_13 qp8_13
        have e14 : v8x14 = .pointer (some ⟨w.heap.size, 2, none⟩) := HT.out.h 14 (by decide) (hall 14 (by decide)) (fun hm => absurd hm (by decide))
        subst e14
        have e15 : v8x15 = PV b := HT.out.h 15 (by decide) (hall 15 (by decide)) (fun hm => absurd hm (by decide))
        subst e15
        have e16 : v8x16 = .int .i64 ab := HT.out.h 16 (by decide) (hall 16 (by decide)) (fun hm => absurd hm (by decide))
        subst e16
        have e17 : v8x17 = .int .i64 ab := HT.out.h 17 (by decide) (hall 17 (by decide)) (fun hm => absurd hm (by decide))
        subst e17
        have e18 : v8x18 = .bool false := HT.out.h 18 (by decide) (hall 18 (by decide)) (fun hm => absurd hm (by decide))
        subst e18
        have e19 : v8x19 = .bool false := HT.out.h 19 (by decide) (hall 19 (by decide)) (fun hm => absurd hm (by decide))
        subst e19
        have e20 : v8x20 = .bool false := HT.out.h 20 (by decide) (hall 20 (by decide)) (fun hm => absurd hm (by decide))
        subst e20
        have e21 : v8x21 = .pointer (some ⟨w.heap.size, 0, none⟩) := HT.out.h 21 (by decide) (hall 21 (by decide)) (fun hm => absurd hm (by decide))
        subst e21
        have e22 : v8x22 = PV a := HT.out.h 22 (by decide) (hall 22 (by decide)) (fun hm => absurd hm (by decide))
        subst e22
        have e23 : v8x23 = .pointer (some ⟨w.heap.size, 2, none⟩) := HT.out.h 23 (by decide) (hall 23 (by decide)) (fun hm => absurd hm (by decide))
        subst e23
        have e24 : v8x24 = PV b := HT.out.h 24 (by decide) (hall 24 (by decide)) (fun hm => absurd hm (by decide))
        subst e24
        have e25 : v8x25 = .pointer (some ⟨w.heap.size, 2, none⟩) := HT.out.h 25 (by decide) (hall 25 (by decide)) (fun hm => absurd hm (by decide))
        subst e25
        have e26 : v8x26 = PV b := HT.out.h 26 (by decide) (hall 26 (by decide)) (fun hm => absurd hm (by decide))
        subst e26
        obtain ⟨p8_28, e28, Sp8_28, qp8_28, -⟩ := HT.out.r (28, IsP (mP b.P)) (by simp) (hall 28 (by decide))
        have f28 : v8x28 = PV p8_28 := e28
        subst f28
        have HSp8_28 := hide Sp8_28
        have HQp8_28 : Hid (IsP (mP b.P) p8_28.P) := qp8_28
        clear e28 Sp8_28 qp8_28
        have e29 : v8x29 = .int .i64 ab := HT.out.h 29 (by decide) (hall 29 (by decide)) (fun hm => absurd hm (by decide))
        subst e29
        have e30 : v8x30 = .int .i64 ab := HT.out.h 30 (by decide) (hall 30 (by decide)) (fun hm => absurd hm (by decide))
        subst e30
        have e31 : v8x31 = .bool false := HT.out.h 31 (by decide) (hall 31 (by decide)) (fun hm => absurd hm (by decide))
        subst e31
        have e32 : v8x32 = .bool false := HT.out.h 32 (by decide) (hall 32 (by decide)) (fun hm => absurd hm (by decide))
        subst e32
        have by2 := HT.out.b
        rename World => y2
        clear hall HT l
        replace HCB := hide (HCB.out.below by2)
        replace HA := hide (HA.out.below by2)
        replace HB := hide (HB.out.below by2)
        replace HC := hide (HC.out.below by2)
        have HBWy2 := hide (HBWz2.out.trans (by2.mono HBWz2.out.size))
        clear HSp8_4 HQp8_4
        clear HSp8_7 HQp8_7
        clear HSp8_13 HQp8_13
        clear HSp8_28 HQp8_28
        clear by2
        go_wp2_with fail
        refine wp_region_inv (by kernel_rfl) (fun l x W => ∃ v10x0 v10x1 v10x2 v10x3 v10x4 v10x5 v10x6 v10x7 v10x8 v10x9 v10x10 v10x11 v10x12 v10x13 v10x14, x = { tmps := #[CasV a b c dv rp ms, ptr w.heap.size, v10x14, .int .i64 ab, .int .i64 bc, .int .i64 ac, u6, u7, u8, u9, u10, u11, u12, u13, u14, u15, u16, u17, u18, u19, u20, u21, u22, u23, u24, u25, u26, u27, u28, u29, u30, u31, u32, u33, u34, u35, u36, u37, u38, u39, u40, u41, u42, u43, u44, u45, u46, u47, u48, u49, u50, u51, u52, u53, u54, u55, u56, u57, u58, u59, u60, u61, u62, u63, u64, u65, u66, u67, u68, u69, u70, u71, u72, u73, u74, u75, .bool false, .int .i64 ab, .bool e0, .pointer (some ⟨w.heap.size, 0, none⟩), PV a, PV p8_4, .pointer (some ⟨w.heap.size, 2, none⟩), PV b, PV p8_7, .bool e0, .bool false, .bool false, .pointer (some ⟨w.heap.size, 0, none⟩), PV a, PV p8_13, .pointer (some ⟨w.heap.size, 2, none⟩), PV b, .int .i64 ab, .int .i64 ab, .bool false, .bool false, .bool false, .pointer (some ⟨w.heap.size, 0, none⟩), PV a, .pointer (some ⟨w.heap.size, 2, none⟩), PV b, .pointer (some ⟨w.heap.size, 2, none⟩), PV b, v8x27, PV p8_28, .int .i64 ab, .int .i64 ab, .bool false, .bool false, v10x0, v10x1, v10x2, v10x3, v10x4, v10x5, v10x6, v10x7, v10x8, v10x9, v10x10, v10x11, v10x12, v10x13], defers := [] } ∧ BI 15 22 y2 (PhO10 a b c w y2) [] [(2, CanonOf (runsAt a.P)), (7, CanonOf (runsAt a.P)), (8, IsP (mP a.P)), (11, CanonOf (runsAt a.P))] [] l W [v10x0, v10x1, v10x2, v10x3, v10x4, v10x5, v10x6, v10x7, v10x8, v10x9, v10x10, v10x11, v10x12, v10x13, v10x14]) ⟨u110, u111, u112, u113, u114, u115, u116, u117, u118, u119, u120, u121, u122, u123, .bool false, rfl, BI.start _ _ _ _ _ _ _ _ rfl⟩ ?_ ?_ ?_
        · rintro l x W ⟨v10x0, v10x1, v10x2, v10x3, v10x4, v10x5, v10x6, v10x7, v10x8, v10x9, v10x10, v10x11, v10x12, v10x13, v10x14, rfl, T⟩
          exact T.sz
        · exact stO10 HCB HA
        · rintro l x W ⟨v10x0, v10x1, v10x2, v10x3, v10x4, v10x5, v10x6, v10x7, v10x8, v10x9, v10x10, v10x11, v10x12, v10x13, v10x14, rfl, T⟩ hnil
          have hall := fun i (hi : i < 15) => ready_done (by kernel_rfl) T.sz hnil i hi
          have HT := hide T
          clear T hnil
          have e0 : v10x0 = .pointer (some ⟨w.heap.size, 0, none⟩) := HT.out.h 0 (by decide) (hall 0 (by decide)) (fun hm => absurd hm (by decide))
          subst e0
          have e1 : v10x1 = PV a := HT.out.h 1 (by decide) (hall 1 (by decide)) (fun hm => absurd hm (by decide))
          subst e1
          obtain ⟨p10_2, e2, Sp10_2, qp10_2, -⟩ := HT.out.r (2, CanonOf (runsAt a.P)) (by simp) (hall 2 (by decide))
          have f2 : v10x2 = PV p10_2 := e2
          subst f2
          have HSp10_2 := hide Sp10_2
          have HQp10_2 : Hid (CanonOf (runsAt a.P) p10_2.P) := qp10_2
          clear e2 Sp10_2 qp10_2
          have e3 : v10x3 = .bool true := HT.out.h 3 (by decide) (hall 3 (by decide)) (fun hm => absurd hm (by decide))
          subst e3
          have e4 : v10x4 = .bool true := HT.out.h 4 (by decide) (hall 4 (by decide)) (fun hm => absurd hm (by decide))
          subst e4
          have e5 : v10x5 = .pointer (some ⟨w.heap.size, 0, none⟩) := HT.out.h 5 (by decide) (hall 5 (by decide)) (fun hm => absurd hm (by decide))
          subst e5
          have e6 : v10x6 = PV a := HT.out.h 6 (by decide) (hall 6 (by decide)) (fun hm => absurd hm (by decide))
          subst e6
          obtain ⟨p10_7, e7, Sp10_7, qp10_7, -⟩ := HT.out.r (7, CanonOf (runsAt a.P)) (by simp) (hall 7 (by decide))
          have f7 : v10x7 = PV p10_7 := e7
          subst f7
          have HSp10_7 := hide Sp10_7
          have HQp10_7 : Hid (CanonOf (runsAt a.P) p10_7.P) := qp10_7
          clear e7 Sp10_7 qp10_7
          obtain ⟨p10_8, e8, Sp10_8, qp10_8, -⟩ := HT.out.r (8, IsP (mP a.P)) (by simp) (hall 8 (by decide))
          have f8 : v10x8 = PV p10_8 := e8
          subst f8
          have HSp10_8 := hide Sp10_8
          have HQp10_8 : Hid (IsP (mP a.P) p10_8.P) := qp10_8
          clear e8 Sp10_8 qp10_8
          have e9 : v10x9 = .pointer (some ⟨w.heap.size, 0, none⟩) := HT.out.h 9 (by decide) (hall 9 (by decide)) (fun hm => absurd hm (by decide))
          subst e9
          have e10 : v10x10 = PV a := HT.out.h 10 (by decide) (hall 10 (by decide)) (fun hm => absurd hm (by decide))
          subst e10
          obtain ⟨p10_11, e11, Sp10_11, qp10_11, -⟩ := HT.out.r (11, CanonOf (runsAt a.P)) (by simp) (hall 11 (by decide))
          have f11 : v10x11 = PV p10_11 := e11
          subst f11
          have HSp10_11 := hide Sp10_11
          have HQp10_11 : Hid (CanonOf (runsAt a.P) p10_11.P) := qp10_11
          clear e11 Sp10_11 qp10_11
          have e12 : v10x12 = .bool true := HT.out.h 12 (by decide) (hall 12 (by decide)) (fun hm => absurd hm (by decide))
          subst e12
          have e13 : v10x13 = .bool true := HT.out.h 13 (by decide) (hall 13 (by decide)) (fun hm => absurd hm (by decide))
          subst e13
          have e14 : v10x14 = .bool true := HT.out.h 14 (by decide) (hall 14 (by decide)) (fun hm => absurd hm (by decide))
          subst e14
          have by3 := HT.out.b
          rename World => y3
          clear hall HT l
          replace HCB := hide (HCB.out.below by3)
          replace HA := hide (HA.out.below by3)
          replace HB := hide (HB.out.below by3)
          replace HC := hide (HC.out.below by3)
          have HBWy3 := hide (HBWy2.out.trans (by3.mono HBWy2.out.size))
          clear HSp10_2 HQp10_2
          clear HSp10_7 HQp10_7
          clear HSp10_8 HQp10_8
          clear HSp10_11 HQp10_11
          clear by3
          go_wp2_with fail
          go_ret
          exact ⟨rfl, HBWy3.out⟩
end Go.Proofs.Ytlnhafjpmkopgaa
