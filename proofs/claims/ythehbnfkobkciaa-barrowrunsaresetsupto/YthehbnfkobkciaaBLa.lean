/- BarrowRunsAreSets: the law's walk. -/
import Derived.Test.YthehbnfkobkciaaBPm
import Derived.Test.YthehbnfkobkciaaBR18
import Derived.Test.YthehbnfkobkciaaRSm
import Derived.Test.YthehbnfkobkciaaRIn
import Derived.Test.YthehbnfkobkciaaRHs
import Derived.Deep.CutRange
import Derived.Deep.RegionHeld3
namespace Go.Proofs.Ythehbnfkobkciaa
open Go.RowKit
attribute [local go_sem ↓] ldR_eq stR_eq
attribute [local go_sem] zero_RC cells_RV RC_size fold_RC build_RC

theorem size_same {A : List Rn} {k l : Int} (h : SizeOf A k) (h' : SizeOf A l) : k = l := by
  obtain ⟨R, hR, e⟩ := h
  obtain ⟨R', hR', e'⟩ := h'
  rw [e, e', hR.unique hR']
theorem lit91 : (#[.int .i64 9, .int .i64 9, .int .i64 1, .int .i64 3] : Array Value) = (rcs [⟨9, 9⟩, ⟨1, 3⟩]).toArray := rfl
theorem lit19 : (#[.int .i64 1, .int .i64 6, .int .i64 9, .int .i64 9] : Array Value) = (rcs [⟨1, 6⟩, ⟨9, 9⟩]).toArray := rfl
set_option maxRecDepth 100000 in
set_option maxHeartbeats 16000000 in
theorem sets_law (ao bo co : Option Addr) (n cap m cap' l cap2 : Nat) (A B C : List Rn) (z : Int) (w : World) (hS : RSrc w ao n cap A) (hR : RSrc w bo m cap' B) (hT : RSrc w co l cap2 C) (hA : n ≤ 1048576) (hB : m ≤ 1048576) (hC : l ≤ 1048576) :
    Calls Try.prog 3 #[.agg #[.slice ao n cap, .slice bo m cap', .slice co l cap2, .int .i64 z]] w fun e w' => e = .returned (.bool true) ∧ Below w.heap.size w w' := by
  have HLA : Hid (A.length = n) := hS.len
  have HLB : Hid (B.length = m) := hR.len
  have HLC : Hid (C.length = l) := hT.len
  obtain ⟨w0, Hw0⟩ : ∃ w0, Hid (w.alloc (.cells #[.slice ao n cap, .slice bo m cap', .slice co l cap2, .int .i64 z] 24) = w0) := ⟨_, rfl⟩
  have HBX : Hid (Below w.heap.size w w0) := by rw [← Hw0.out]; exact below_new _ _
  have HS := hide (hS.below HBX.out)
  have HR := hide (hR.below HBX.out)
  have HT := hide (hT.below HBX.out)
  have HLT : Hid (w.heap.size < w0.heap.size) := by show _ < _; rw [← Hw0.out]; simp
  have Hz : Hid (w0.heap.size = w.heap.size + 1) := by show _ = _; rw [← Hw0.out]; simp
  have HC : Hid (w0.cell? ⟨w.heap.size, 0, none⟩ = some (.slice ao n cap) ∧ w0.cell? ⟨w.heap.size, 1, none⟩ = some (.slice bo m cap') ∧ w0.cell? ⟨w.heap.size, 2, none⟩ = some (.slice co l cap2) ∧ w0.cell? ⟨w.heap.size, 3, none⟩ = some (.int .i64 z)) := by rw [← Hw0.out]; exact ⟨by simp, by simp, by simp, by simp⟩
  clear hS hR hT
  go_enter Try.func3, Try.ntmps3
  go_wp2_with fail
  rw [Hw0.out]
  have HB0 : Hid (Below w0.heap.size w0 w0) := Below.refl _ _
  go_wp2_with fail
  have SL1 := (lit_rsrc w0 [⟨4, 6⟩] (RC ⟨4, 6⟩) rfl 28 1 rfl (by omega)).below (below_new _ (.cells (rcs [⟨9, 9⟩, ⟨1, 3⟩]).toArray 28))
  have SL2 := lit_rsrc (w0.alloc (.cells (RC ⟨4, 6⟩) 28)) [⟨9, 9⟩, ⟨1, 3⟩] _ rfl 28 2 rfl (by omega)
  have b0 : Below w0.heap.size w0 ((w0.alloc (.cells (RC ⟨4, 6⟩) 28)).alloc (.cells (rcs [⟨9, 9⟩, ⟨1, 3⟩]).toArray 28)) := (below_new _ _).trans ((below_new _ _).mono (below_new _ _).size)
  simp only [World.size_alloc] at SL2
  have HU := union2_any _ _ 1 1 2 2 [⟨4, 6⟩] [⟨9, 9⟩, ⟨1, 3⟩] _ SL1 SL2 (by omega)
  simp only [World.size_alloc] at HU
  rw [Hz.out] at HU
  refine HU.mono ?_
  rintro e w1 ⟨a1, n1, c1, X1, rfl, S1, b1, p1⟩
  obtain rfl := lit_union p1
  have HX1 := hide S1
  have HB1 := hide (b0.trans (b1.mono b0.size))
  clear b0 b1 SL1 SL2 S1 p1 HU HB0
  go_wp2_with fail
  refine (same_any a1 _ n1 c1 2 2 [⟨1, 6⟩, ⟨9, 9⟩] [⟨1, 6⟩, ⟨9, 9⟩] _ (HX1.out.below (below_new _ _)) (lit_rsrc w1 [⟨1, 6⟩, ⟨9, 9⟩] _ rfl _ 2 rfl (by omega)) rfl).mono ?_
  rintro e w2 ⟨rfl, b2⟩
  replace b2 := (below_new _ _).trans (b2.mono (below_new _ _).size)
  replace HX1 := hide (HX1.out.below b2)
  have HB2 := hide (HB1.out.trans (b2.mono HB1.out.size))
  clear b2 HB1
  clear HX1
  have HO := hide (own_lit w2)
  have HSC := hide ((HS.out.below HB2.out).below (below_new w2 (.cells #[] 28)))
  have kd0 : (w2.alloc (.cells #[] 28)).cell? ⟨w.heap.size, 0, none⟩ = some (.slice ao n cap) := by rw [(HB2.out.trans ((below_new _ _).mono HB2.out.size)).cell HLT.out]; exact HC.out.1
  have kd1 : (w2.alloc (.cells #[] 28)).cell? ⟨w.heap.size, 1, none⟩ = some (.slice bo m cap') := by rw [(HB2.out.trans ((below_new _ _).mono HB2.out.size)).cell HLT.out]; exact HC.out.2.1
  have kd2 : (w2.alloc (.cells #[] 28)).cell? ⟨w.heap.size, 2, none⟩ = some (.slice co l cap2) := by rw [(HB2.out.trans ((below_new _ _).mono HB2.out.size)).cell HLT.out]; exact HC.out.2.2.1
  have kd3 : (w2.alloc (.cells #[] 28)).cell? ⟨w.heap.size, 3, none⟩ = some (.int .i64 z) := by rw [(HB2.out.trans ((below_new _ _).mono HB2.out.size)).cell HLT.out]; exact HC.out.2.2.2
  go_wp2_with (at_builtin; refine HO.out.appendAll ao n cap A HSC.out (by rw [List.length_nil]; omega) rfl (.tmp 23) (.tmp 25) rfl 0 rfl rfl rfl ?_; intro ac2 cc2 wc2 OC)
  have HSD := hide (row_zero OC HLA.out hA)
  have HBC := hide OC.below
  clear OC HO HSC kd0 kd1 kd2 kd3
  have HBD := hide (HB2.out.trans (HBC.out.mono HB2.out.size))
  clear HB2 HBC
  refine (norm_any ac2 n cc2 A _ HSD.out).mono ?_
  rintro e w3 ⟨a3, n3, c3, X3, rfl, S3, b3, p3⟩
  have HB3 := hide (HBD.out.trans (b3.mono HBD.out.size))
  have HX3 := hide S3
  have HP3 := hide p3
  have hn3 : n3 ≤ 500000001 := by rw [← S3.len]; exact form_small (Int.le_refl _) p3.1
  clear HBD HSD S3 b3 p3
  have HO := hide (own_lit w3)
  have HSC := hide ((HR.out.below HB3.out).below (below_new w3 (.cells #[] 28)))
  have kd0 : (w3.alloc (.cells #[] 28)).cell? ⟨w.heap.size, 0, none⟩ = some (.slice ao n cap) := by rw [(HB3.out.trans ((below_new _ _).mono HB3.out.size)).cell HLT.out]; exact HC.out.1
  have kd1 : (w3.alloc (.cells #[] 28)).cell? ⟨w.heap.size, 1, none⟩ = some (.slice bo m cap') := by rw [(HB3.out.trans ((below_new _ _).mono HB3.out.size)).cell HLT.out]; exact HC.out.2.1
  have kd2 : (w3.alloc (.cells #[] 28)).cell? ⟨w.heap.size, 2, none⟩ = some (.slice co l cap2) := by rw [(HB3.out.trans ((below_new _ _).mono HB3.out.size)).cell HLT.out]; exact HC.out.2.2.1
  have kd3 : (w3.alloc (.cells #[] 28)).cell? ⟨w.heap.size, 3, none⟩ = some (.int .i64 z) := by rw [(HB3.out.trans ((below_new _ _).mono HB3.out.size)).cell HLT.out]; exact HC.out.2.2.2
  go_wp2_with (at_builtin; refine HO.out.appendAll bo m cap' B HSC.out (by rw [List.length_nil]; omega) rfl (.tmp 28) (.tmp 30) rfl 0 rfl rfl rfl ?_; intro ac3 cc3 wc3 OC)
  have HSD := hide (row_zero OC HLB.out hB)
  have HBC := hide OC.below
  clear OC HO HSC kd0 kd1 kd2 kd3
  replace HX3 := hide (HX3.out.below HBC.out)
  have HBD := hide (HB3.out.trans (HBC.out.mono HB3.out.size))
  clear HB3 HBC
  refine (norm_any ac3 m cc3 B _ HSD.out).mono ?_
  rintro e w4 ⟨a4, n4, c4, X4, rfl, S4, b4, p4⟩
  replace HX3 := hide (HX3.out.below b4)
  have HB4 := hide (HBD.out.trans (b4.mono HBD.out.size))
  have HX4 := hide S4
  have HP4 := hide p4
  have hn4 : n4 ≤ 500000001 := by rw [← S4.len]; exact form_small (Int.le_refl _) p4.1
  clear HBD HSD S4 b4 p4
  have HO := hide (own_lit w4)
  have HSC := hide ((HT.out.below HB4.out).below (below_new w4 (.cells #[] 28)))
  have kd0 : (w4.alloc (.cells #[] 28)).cell? ⟨w.heap.size, 0, none⟩ = some (.slice ao n cap) := by rw [(HB4.out.trans ((below_new _ _).mono HB4.out.size)).cell HLT.out]; exact HC.out.1
  have kd1 : (w4.alloc (.cells #[] 28)).cell? ⟨w.heap.size, 1, none⟩ = some (.slice bo m cap') := by rw [(HB4.out.trans ((below_new _ _).mono HB4.out.size)).cell HLT.out]; exact HC.out.2.1
  have kd2 : (w4.alloc (.cells #[] 28)).cell? ⟨w.heap.size, 2, none⟩ = some (.slice co l cap2) := by rw [(HB4.out.trans ((below_new _ _).mono HB4.out.size)).cell HLT.out]; exact HC.out.2.2.1
  have kd3 : (w4.alloc (.cells #[] 28)).cell? ⟨w.heap.size, 3, none⟩ = some (.int .i64 z) := by rw [(HB4.out.trans ((below_new _ _).mono HB4.out.size)).cell HLT.out]; exact HC.out.2.2.2
  go_wp2_with (at_builtin; refine HO.out.appendAll co l cap2 C HSC.out (by rw [List.length_nil]; omega) rfl (.tmp 33) (.tmp 35) rfl 0 rfl rfl rfl ?_; intro ac4 cc4 wc4 OC)
  have HSD := hide (row_zero OC HLC.out hC)
  have HBC := hide OC.below
  clear OC HO HSC kd0 kd1 kd2 kd3
  replace HX3 := hide (HX3.out.below HBC.out)
  replace HX4 := hide (HX4.out.below HBC.out)
  have HBD := hide (HB4.out.trans (HBC.out.mono HB4.out.size))
  clear HB4 HBC
  refine (norm_any ac4 l cc4 C _ HSD.out).mono ?_
  rintro e w5 ⟨a5, n5, c5, X5, rfl, S5, b5, p5⟩
  replace HX3 := hide (HX3.out.below b5)
  replace HX4 := hide (HX4.out.below b5)
  have HB5 := hide (HBD.out.trans (b5.mono HBD.out.size))
  have HX5 := hide S5
  have HP5 := hide p5
  have hn5 : n5 ≤ 500000001 := by rw [← S5.len]; exact form_small (Int.le_refl _) p5.1
  clear HBD HSD S5 b5 p5
  have kc0 : w5.cell? ⟨w.heap.size, 0, none⟩ = some (.slice ao n cap) := by rw [HB5.out.cell HLT.out]; exact HC.out.1
  have kc1 : w5.cell? ⟨w.heap.size, 1, none⟩ = some (.slice bo m cap') := by rw [HB5.out.cell HLT.out]; exact HC.out.2.1
  have kc2 : w5.cell? ⟨w.heap.size, 2, none⟩ = some (.slice co l cap2) := by rw [HB5.out.cell HLT.out]; exact HC.out.2.2.1
  have kc3 : w5.cell? ⟨w.heap.size, 3, none⟩ = some (.int .i64 z) := by rw [HB5.out.cell HLT.out]; exact HC.out.2.2.2
  go_wp2_with fail
  refine (union2_any ao bo n cap m cap' A B _ (HS.out.below HB5.out) (HR.out.below HB5.out) (by omega)).mono ?_
  rintro e w6 ⟨a6, n6, c6, X6, rfl, S6, b6, p6⟩
  replace HX3 := hide (HX3.out.below b6)
  replace HX4 := hide (HX4.out.below b6)
  replace HX5 := hide (HX5.out.below b6)
  have HB6 := hide (HB5.out.trans (b6.mono HB5.out.size))
  have HX6 := hide S6
  have HP6 := hide p6
  have hn6 : n6 ≤ 500000001 := by rw [← S6.len]; exact form_small (Int.le_refl _) p6.1
  clear b6 HB5 S6 p6 kc0 kc1 kc2 kc3
  have kc0 : w6.cell? ⟨w.heap.size, 0, none⟩ = some (.slice ao n cap) := by rw [HB6.out.cell HLT.out]; exact HC.out.1
  have kc1 : w6.cell? ⟨w.heap.size, 1, none⟩ = some (.slice bo m cap') := by rw [HB6.out.cell HLT.out]; exact HC.out.2.1
  have kc2 : w6.cell? ⟨w.heap.size, 2, none⟩ = some (.slice co l cap2) := by rw [HB6.out.cell HLT.out]; exact HC.out.2.2.1
  have kc3 : w6.cell? ⟨w.heap.size, 3, none⟩ = some (.int .i64 z) := by rw [HB6.out.cell HLT.out]; exact HC.out.2.2.2
  go_wp2_with fail
  refine (meet_any ao bo n cap m cap' A B _ (HS.out.below HB6.out) (HR.out.below HB6.out)).mono ?_
  rintro e w7 ⟨a7, n7, c7, X7, rfl, S7, b7, p7⟩
  replace HX3 := hide (HX3.out.below b7)
  replace HX4 := hide (HX4.out.below b7)
  replace HX5 := hide (HX5.out.below b7)
  replace HX6 := hide (HX6.out.below b7)
  have HB7 := hide (HB6.out.trans (b7.mono HB6.out.size))
  have HX7 := hide S7
  have HP7 := hide p7
  have hn7 : n7 ≤ 500000001 := by rw [← S7.len]; exact form_small (Int.le_refl _) p7.1
  clear b7 HB6 S7 p7 kc0 kc1 kc2 kc3
  have kc0 : w7.cell? ⟨w.heap.size, 0, none⟩ = some (.slice ao n cap) := by rw [HB7.out.cell HLT.out]; exact HC.out.1
  have kc1 : w7.cell? ⟨w.heap.size, 1, none⟩ = some (.slice bo m cap') := by rw [HB7.out.cell HLT.out]; exact HC.out.2.1
  have kc2 : w7.cell? ⟨w.heap.size, 2, none⟩ = some (.slice co l cap2) := by rw [HB7.out.cell HLT.out]; exact HC.out.2.2.1
  have kc3 : w7.cell? ⟨w.heap.size, 3, none⟩ = some (.int .i64 z) := by rw [HB7.out.cell HLT.out]; exact HC.out.2.2.2
  go_wp2_with fail
  refine (minus_any ao bo n cap m cap' A B _ (HS.out.below HB7.out) (HR.out.below HB7.out)).mono ?_
  rintro e w8 ⟨a8, n8, c8, X8, rfl, S8, b8, p8⟩
  replace HX3 := hide (HX3.out.below b8)
  replace HX4 := hide (HX4.out.below b8)
  replace HX5 := hide (HX5.out.below b8)
  replace HX6 := hide (HX6.out.below b8)
  replace HX7 := hide (HX7.out.below b8)
  have HB8 := hide (HB7.out.trans (b8.mono HB7.out.size))
  have HX8 := hide S8
  have HP8 := hide p8
  have hn8 : n8 ≤ 500000001 := by rw [← S8.len]; exact form_small (Int.le_refl _) p8.1
  clear b8 HB7 S8 p8 kc0 kc1 kc2 kc3
  have kc0 : w8.cell? ⟨w.heap.size, 0, none⟩ = some (.slice ao n cap) := by rw [HB8.out.cell HLT.out]; exact HC.out.1
  have kc1 : w8.cell? ⟨w.heap.size, 1, none⟩ = some (.slice bo m cap') := by rw [HB8.out.cell HLT.out]; exact HC.out.2.1
  have kc2 : w8.cell? ⟨w.heap.size, 2, none⟩ = some (.slice co l cap2) := by rw [HB8.out.cell HLT.out]; exact HC.out.2.2.1
  have kc3 : w8.cell? ⟨w.heap.size, 3, none⟩ = some (.int .i64 z) := by rw [HB8.out.cell HLT.out]; exact HC.out.2.2.2
  go_wp2_with fail
  refine (isNorm_any a3 n3 c3 X3 _ HX3.out).mono ?_
  rintro e w9 ⟨rfl, b9⟩
  replace HX3 := hide (HX3.out.below b9)
  replace HX4 := hide (HX4.out.below b9)
  replace HX5 := hide (HX5.out.below b9)
  replace HX6 := hide (HX6.out.below b9)
  replace HX7 := hide (HX7.out.below b9)
  replace HX8 := hide (HX8.out.below b9)
  have HB9 := hide (HB8.out.trans (b9.mono HB8.out.size))
  rw [(isForm_iff X3 1).2 HP3.out.1]
  clear b9 HB8 kc0 kc1 kc2 kc3
  have kc0 : w9.cell? ⟨w.heap.size, 0, none⟩ = some (.slice ao n cap) := by rw [HB9.out.cell HLT.out]; exact HC.out.1
  have kc1 : w9.cell? ⟨w.heap.size, 1, none⟩ = some (.slice bo m cap') := by rw [HB9.out.cell HLT.out]; exact HC.out.2.1
  have kc2 : w9.cell? ⟨w.heap.size, 2, none⟩ = some (.slice co l cap2) := by rw [HB9.out.cell HLT.out]; exact HC.out.2.2.1
  have kc3 : w9.cell? ⟨w.heap.size, 3, none⟩ = some (.int .i64 z) := by rw [HB9.out.cell HLT.out]; exact HC.out.2.2.2
  go_wp2_with fail
  refine (isNorm_any a6 n6 c6 X6 _ HX6.out).mono ?_
  rintro e w10 ⟨rfl, b10⟩
  replace HX3 := hide (HX3.out.below b10)
  replace HX4 := hide (HX4.out.below b10)
  replace HX5 := hide (HX5.out.below b10)
  replace HX6 := hide (HX6.out.below b10)
  replace HX7 := hide (HX7.out.below b10)
  replace HX8 := hide (HX8.out.below b10)
  have HB10 := hide (HB9.out.trans (b10.mono HB9.out.size))
  rw [(isForm_iff X6 1).2 HP6.out.1]
  clear b10 HB9 kc0 kc1 kc2 kc3
  have kc0 : w10.cell? ⟨w.heap.size, 0, none⟩ = some (.slice ao n cap) := by rw [HB10.out.cell HLT.out]; exact HC.out.1
  have kc1 : w10.cell? ⟨w.heap.size, 1, none⟩ = some (.slice bo m cap') := by rw [HB10.out.cell HLT.out]; exact HC.out.2.1
  have kc2 : w10.cell? ⟨w.heap.size, 2, none⟩ = some (.slice co l cap2) := by rw [HB10.out.cell HLT.out]; exact HC.out.2.2.1
  have kc3 : w10.cell? ⟨w.heap.size, 3, none⟩ = some (.int .i64 z) := by rw [HB10.out.cell HLT.out]; exact HC.out.2.2.2
  go_wp2_with fail
  refine (isNorm_any a7 n7 c7 X7 _ HX7.out).mono ?_
  rintro e w11 ⟨rfl, b11⟩
  replace HX3 := hide (HX3.out.below b11)
  replace HX4 := hide (HX4.out.below b11)
  replace HX5 := hide (HX5.out.below b11)
  replace HX6 := hide (HX6.out.below b11)
  replace HX7 := hide (HX7.out.below b11)
  replace HX8 := hide (HX8.out.below b11)
  have HB11 := hide (HB10.out.trans (b11.mono HB10.out.size))
  rw [(isForm_iff X7 1).2 HP7.out.1]
  clear b11 HB10 kc0 kc1 kc2 kc3
  have kc0 : w11.cell? ⟨w.heap.size, 0, none⟩ = some (.slice ao n cap) := by rw [HB11.out.cell HLT.out]; exact HC.out.1
  have kc1 : w11.cell? ⟨w.heap.size, 1, none⟩ = some (.slice bo m cap') := by rw [HB11.out.cell HLT.out]; exact HC.out.2.1
  have kc2 : w11.cell? ⟨w.heap.size, 2, none⟩ = some (.slice co l cap2) := by rw [HB11.out.cell HLT.out]; exact HC.out.2.2.1
  have kc3 : w11.cell? ⟨w.heap.size, 3, none⟩ = some (.int .i64 z) := by rw [HB11.out.cell HLT.out]; exact HC.out.2.2.2
  go_wp2_with fail
  refine (isNorm_any a8 n8 c8 X8 _ HX8.out).mono ?_
  rintro e w12 ⟨rfl, b12⟩
  replace HX3 := hide (HX3.out.below b12)
  replace HX4 := hide (HX4.out.below b12)
  replace HX5 := hide (HX5.out.below b12)
  replace HX6 := hide (HX6.out.below b12)
  replace HX7 := hide (HX7.out.below b12)
  replace HX8 := hide (HX8.out.below b12)
  have HB12 := hide (HB11.out.trans (b12.mono HB11.out.size))
  rw [(isForm_iff X8 1).2 HP8.out.1]
  clear b12 HB11 kc0 kc1 kc2 kc3
  have kc0 : w12.cell? ⟨w.heap.size, 0, none⟩ = some (.slice ao n cap) := by rw [HB12.out.cell HLT.out]; exact HC.out.1
  have kc1 : w12.cell? ⟨w.heap.size, 1, none⟩ = some (.slice bo m cap') := by rw [HB12.out.cell HLT.out]; exact HC.out.2.1
  have kc2 : w12.cell? ⟨w.heap.size, 2, none⟩ = some (.slice co l cap2) := by rw [HB12.out.cell HLT.out]; exact HC.out.2.2.1
  have kc3 : w12.cell? ⟨w.heap.size, 3, none⟩ = some (.int .i64 z) := by rw [HB12.out.cell HLT.out]; exact HC.out.2.2.2
  go_wp2_with fail
  refine (norm_any a6 n6 c6 X6 _ HX6.out).mono ?_
  rintro e w13 ⟨a13, n13, c13, X13, rfl, S13, b13, p13⟩
  replace HX3 := hide (HX3.out.below b13)
  replace HX4 := hide (HX4.out.below b13)
  replace HX5 := hide (HX5.out.below b13)
  replace HX6 := hide (HX6.out.below b13)
  replace HX7 := hide (HX7.out.below b13)
  replace HX8 := hide (HX8.out.below b13)
  have HB13 := hide (HB12.out.trans (b13.mono HB12.out.size))
  have HX13 := hide S13
  have HP13 := hide p13
  clear b13 HB12 S13 p13 kc0 kc1 kc2 kc3
  have HE : Hid (X13 = X6) := HP13.out.unique (NormOf.self HP6.out.1)
  have kc0 : w13.cell? ⟨w.heap.size, 0, none⟩ = some (.slice ao n cap) := by rw [HB13.out.cell HLT.out]; exact HC.out.1
  have kc1 : w13.cell? ⟨w.heap.size, 1, none⟩ = some (.slice bo m cap') := by rw [HB13.out.cell HLT.out]; exact HC.out.2.1
  have kc2 : w13.cell? ⟨w.heap.size, 2, none⟩ = some (.slice co l cap2) := by rw [HB13.out.cell HLT.out]; exact HC.out.2.2.1
  have kc3 : w13.cell? ⟨w.heap.size, 3, none⟩ = some (.int .i64 z) := by rw [HB13.out.cell HLT.out]; exact HC.out.2.2.2
  go_wp2_with fail
  refine (same_any a13 a6 n13 c13 n6 c6 X13 X6 _ HX13.out HX6.out HE.out).mono ?_
  rintro e w14 ⟨rfl, b14⟩
  replace HX3 := hide (HX3.out.below b14)
  replace HX4 := hide (HX4.out.below b14)
  replace HX5 := hide (HX5.out.below b14)
  replace HX6 := hide (HX6.out.below b14)
  replace HX7 := hide (HX7.out.below b14)
  replace HX8 := hide (HX8.out.below b14)
  replace HX13 := hide (HX13.out.below b14)
  have HB14 := hide (HB13.out.trans (b14.mono HB13.out.size))
  clear b14 HB13 HE kc0 kc1 kc2 kc3
  clear HX13
  obtain ⟨p, Hp⟩ : ∃ p : Bool, Hid (p = true ↔ mem A z) := ⟨@decide (mem A z) (Classical.propDecidable _), by show _ ↔ _; simp⟩
  obtain ⟨q, Hq⟩ : ∃ q : Bool, Hid (q = true ↔ mem B z) := ⟨@decide (mem B z) (Classical.propDecidable _), by show _ ↔ _; simp⟩
  have cA : ∀ d os, Calls Try.prog 10 #[.slice ao n cap, .int .i64 z] (Sort.grow (redrawn w14 d) os) fun x w'' => x = .returned (.bool p) ∧ ∃ r : Regrown, w'' = Sort.grow (redrawn w14 r.d) r.os := fun d os => Calls.regrown_of ((has_any ao n cap A z _ ((HS.out.below HB14.out).below (below_regrown w14 d os))).mono (by rintro e w' ⟨y, rfl, hy, b⟩; exact ⟨by rw [Bool.eq_iff_iff.2 (hy.trans Hp.out.symm)], b⟩))
  have cB : ∀ d os, Calls Try.prog 10 #[.slice bo m cap', .int .i64 z] (Sort.grow (redrawn w14 d) os) fun x w'' => x = .returned (.bool q) ∧ ∃ r : Regrown, w'' = Sort.grow (redrawn w14 r.d) r.os := fun d os => Calls.regrown_of ((has_any bo m cap' B z _ ((HR.out.below HB14.out).below (below_regrown w14 d os))).mono (by rintro e w' ⟨y, rfl, hy, b⟩; exact ⟨by rw [Bool.eq_iff_iff.2 (hy.trans Hq.out.symm)], b⟩))
  have kc0 : w14.cell? ⟨w.heap.size, 0, none⟩ = some (.slice ao n cap) := by rw [HB14.out.cell HLT.out]; exact HC.out.1
  have kc1 : w14.cell? ⟨w.heap.size, 1, none⟩ = some (.slice bo m cap') := by rw [HB14.out.cell HLT.out]; exact HC.out.2.1
  have kc2 : w14.cell? ⟨w.heap.size, 2, none⟩ = some (.slice co l cap2) := by rw [HB14.out.cell HLT.out]; exact HC.out.2.2.1
  have kc3 : w14.cell? ⟨w.heap.size, 3, none⟩ = some (.int .i64 z) := by rw [HB14.out.cell HLT.out]; exact HC.out.2.2.2
  have kr0 := cell_regrown kc0
  have kr1 := cell_regrown kc1
  have kr3 := cell_regrown kc3
  clear kc0 kc1 kc2 kc3
  go_wp2_with fail
  refine wp_region_quiet_below (by kernel_rfl) (by kernel_rfl) ?_
  repeat (with_reducible (refine wpQuiet_step ?_); intro K hK; go_simp; (try rw [if_neg (by unfold undef; simp)]); first | (with_reducible (refine hK _ ?_); clear hK K) | (apply Exists.intro; refine ⟨fun _ => ?_, hK _ ?_⟩; (first | (go_at_call_of 10 (Value.slice ao n cap); exact cA _ _) | (go_at_call_of 10 (Value.slice bo m cap'); exact cB _ _)); clear hK K))
  with_reducible (refine wpQuiet_nil ?_)
  intro w15 hw'
  obtain ⟨⟨dq, osq⟩, hw''⟩ := hw'
  have b15 : Below w14.heap.size w14 w15 := by rw [hw'']; exact below_regrown w14 dq osq
  clear hw'' dq osq cA cB kr0 kr1 kr3
  replace HX3 := hide (HX3.out.below b15)
  replace HX4 := hide (HX4.out.below b15)
  replace HX5 := hide (HX5.out.below b15)
  replace HX6 := hide (HX6.out.below b15)
  replace HX7 := hide (HX7.out.below b15)
  replace HX8 := hide (HX8.out.below b15)
  have HB15 := hide (HB14.out.trans (b15.mono HB14.out.size))
  clear b15 HB14
  go_upto_region 12 with fail
  go_cut [128] from 11 (fun s wx => s = .bool false ∧ Hid (Below w15.heap.size w15 wx))
  case first =>
    as_aux_lemma =>
      cases p with
      | true =>
        cases q with
        | true =>
          have HD15 : Hid (Below w15.heap.size w15 w15) := Below.refl _ _
          have kc0 : w15.cell? ⟨w.heap.size, 0, none⟩ = some (.slice ao n cap) := by rw [HB15.out.cell HLT.out]; exact HC.out.1
          have kc1 : w15.cell? ⟨w.heap.size, 1, none⟩ = some (.slice bo m cap') := by rw [HB15.out.cell HLT.out]; exact HC.out.2.1
          have kc2 : w15.cell? ⟨w.heap.size, 2, none⟩ = some (.slice co l cap2) := by rw [HB15.out.cell HLT.out]; exact HC.out.2.2.1
          have kc3 : w15.cell? ⟨w.heap.size, 3, none⟩ = some (.int .i64 z) := by rw [HB15.out.cell HLT.out]; exact HC.out.2.2.2
          go_wp2_with fail
          refine (has_any a3 n3 c3 X3 z _ HX3.out).mono ?_
          rintro e w16 ⟨y16, rfl, hy16, b16⟩
          obtain rfl : y16 = true := Bool.eq_iff_iff.2 (hy16.trans ((HP3.out.2 z).trans (by rw [← Hp.out] <;> simp)))
          replace HX3 := hide (HX3.out.below b16)
          replace HX4 := hide (HX4.out.below b16)
          replace HX5 := hide (HX5.out.below b16)
          replace HX6 := hide (HX6.out.below b16)
          replace HX7 := hide (HX7.out.below b16)
          replace HX8 := hide (HX8.out.below b16)
          have HB16 := hide (HB15.out.trans (b16.mono HB15.out.size))
          have HD16 := hide (HD15.out.trans (b16.mono HD15.out.size))
          clear b16 hy16 HB15 HD15 kc0 kc1 kc2 kc3
          have kc0 : w16.cell? ⟨w.heap.size, 0, none⟩ = some (.slice ao n cap) := by rw [HB16.out.cell HLT.out]; exact HC.out.1
          have kc1 : w16.cell? ⟨w.heap.size, 1, none⟩ = some (.slice bo m cap') := by rw [HB16.out.cell HLT.out]; exact HC.out.2.1
          have kc2 : w16.cell? ⟨w.heap.size, 2, none⟩ = some (.slice co l cap2) := by rw [HB16.out.cell HLT.out]; exact HC.out.2.2.1
          have kc3 : w16.cell? ⟨w.heap.size, 3, none⟩ = some (.int .i64 z) := by rw [HB16.out.cell HLT.out]; exact HC.out.2.2.2
          go_wp2_with fail
          refine (has_any a6 n6 c6 X6 z _ HX6.out).mono ?_
          rintro e w17 ⟨y17, rfl, hy17, b17⟩
          obtain rfl : y17 = true := Bool.eq_iff_iff.2 (hy17.trans ((HP6.out.2 z).trans (by rw [← Hp.out, ← Hq.out]; simp)))
          replace HX3 := hide (HX3.out.below b17)
          replace HX4 := hide (HX4.out.below b17)
          replace HX5 := hide (HX5.out.below b17)
          replace HX6 := hide (HX6.out.below b17)
          replace HX7 := hide (HX7.out.below b17)
          replace HX8 := hide (HX8.out.below b17)
          have HB17 := hide (HB16.out.trans (b17.mono HB16.out.size))
          have HD17 := hide (HD16.out.trans (b17.mono HD16.out.size))
          clear b17 hy17 HB16 HD16 kc0 kc1 kc2 kc3
          have kc0 : w17.cell? ⟨w.heap.size, 0, none⟩ = some (.slice ao n cap) := by rw [HB17.out.cell HLT.out]; exact HC.out.1
          have kc1 : w17.cell? ⟨w.heap.size, 1, none⟩ = some (.slice bo m cap') := by rw [HB17.out.cell HLT.out]; exact HC.out.2.1
          have kc2 : w17.cell? ⟨w.heap.size, 2, none⟩ = some (.slice co l cap2) := by rw [HB17.out.cell HLT.out]; exact HC.out.2.2.1
          have kc3 : w17.cell? ⟨w.heap.size, 3, none⟩ = some (.int .i64 z) := by rw [HB17.out.cell HLT.out]; exact HC.out.2.2.2
          go_wp2_with fail
          refine (has_any a7 n7 c7 X7 z _ HX7.out).mono ?_
          rintro e w18 ⟨y18, rfl, hy18, b18⟩
          obtain rfl : y18 = true := Bool.eq_iff_iff.2 (hy18.trans ((HP7.out.2 z).trans (by rw [← Hp.out, ← Hq.out]; simp)))
          replace HX3 := hide (HX3.out.below b18)
          replace HX4 := hide (HX4.out.below b18)
          replace HX5 := hide (HX5.out.below b18)
          replace HX6 := hide (HX6.out.below b18)
          replace HX7 := hide (HX7.out.below b18)
          replace HX8 := hide (HX8.out.below b18)
          have HB18 := hide (HB17.out.trans (b18.mono HB17.out.size))
          have HD18 := hide (HD17.out.trans (b18.mono HD17.out.size))
          clear b18 hy18 HB17 HD17 kc0 kc1 kc2 kc3
          have kc0 : w18.cell? ⟨w.heap.size, 0, none⟩ = some (.slice ao n cap) := by rw [HB18.out.cell HLT.out]; exact HC.out.1
          have kc1 : w18.cell? ⟨w.heap.size, 1, none⟩ = some (.slice bo m cap') := by rw [HB18.out.cell HLT.out]; exact HC.out.2.1
          have kc2 : w18.cell? ⟨w.heap.size, 2, none⟩ = some (.slice co l cap2) := by rw [HB18.out.cell HLT.out]; exact HC.out.2.2.1
          have kc3 : w18.cell? ⟨w.heap.size, 3, none⟩ = some (.int .i64 z) := by rw [HB18.out.cell HLT.out]; exact HC.out.2.2.2
          go_wp2_with fail
          refine (has_any a8 n8 c8 X8 z _ HX8.out).mono ?_
          rintro e w19 ⟨y19, rfl, hy19, b19⟩
          obtain rfl : y19 = false := Bool.eq_iff_iff.2 (hy19.trans ((HP8.out.2 z).trans (by rw [← Hp.out, ← Hq.out]; simp)))
          replace HX3 := hide (HX3.out.below b19)
          replace HX4 := hide (HX4.out.below b19)
          replace HX5 := hide (HX5.out.below b19)
          replace HX6 := hide (HX6.out.below b19)
          replace HX7 := hide (HX7.out.below b19)
          replace HX8 := hide (HX8.out.below b19)
          have HB19 := hide (HB18.out.trans (b19.mono HB18.out.size))
          have HD19 := hide (HD18.out.trans (b19.mono HD18.out.size))
          clear b19 hy19 HB18 HD18 kc0 kc1 kc2 kc3
          go_wp2_with fail
          go_meet
          case rel => exact ⟨rfl, HD19.out⟩
        | false =>
          have HD15 : Hid (Below w15.heap.size w15 w15) := Below.refl _ _
          have kc0 : w15.cell? ⟨w.heap.size, 0, none⟩ = some (.slice ao n cap) := by rw [HB15.out.cell HLT.out]; exact HC.out.1
          have kc1 : w15.cell? ⟨w.heap.size, 1, none⟩ = some (.slice bo m cap') := by rw [HB15.out.cell HLT.out]; exact HC.out.2.1
          have kc2 : w15.cell? ⟨w.heap.size, 2, none⟩ = some (.slice co l cap2) := by rw [HB15.out.cell HLT.out]; exact HC.out.2.2.1
          have kc3 : w15.cell? ⟨w.heap.size, 3, none⟩ = some (.int .i64 z) := by rw [HB15.out.cell HLT.out]; exact HC.out.2.2.2
          go_wp2_with fail
          refine (has_any a3 n3 c3 X3 z _ HX3.out).mono ?_
          rintro e w16 ⟨y16, rfl, hy16, b16⟩
          obtain rfl : y16 = true := Bool.eq_iff_iff.2 (hy16.trans ((HP3.out.2 z).trans (by rw [← Hp.out] <;> simp)))
          replace HX3 := hide (HX3.out.below b16)
          replace HX4 := hide (HX4.out.below b16)
          replace HX5 := hide (HX5.out.below b16)
          replace HX6 := hide (HX6.out.below b16)
          replace HX7 := hide (HX7.out.below b16)
          replace HX8 := hide (HX8.out.below b16)
          have HB16 := hide (HB15.out.trans (b16.mono HB15.out.size))
          have HD16 := hide (HD15.out.trans (b16.mono HD15.out.size))
          clear b16 hy16 HB15 HD15 kc0 kc1 kc2 kc3
          have kc0 : w16.cell? ⟨w.heap.size, 0, none⟩ = some (.slice ao n cap) := by rw [HB16.out.cell HLT.out]; exact HC.out.1
          have kc1 : w16.cell? ⟨w.heap.size, 1, none⟩ = some (.slice bo m cap') := by rw [HB16.out.cell HLT.out]; exact HC.out.2.1
          have kc2 : w16.cell? ⟨w.heap.size, 2, none⟩ = some (.slice co l cap2) := by rw [HB16.out.cell HLT.out]; exact HC.out.2.2.1
          have kc3 : w16.cell? ⟨w.heap.size, 3, none⟩ = some (.int .i64 z) := by rw [HB16.out.cell HLT.out]; exact HC.out.2.2.2
          go_wp2_with fail
          refine (has_any a6 n6 c6 X6 z _ HX6.out).mono ?_
          rintro e w17 ⟨y17, rfl, hy17, b17⟩
          obtain rfl : y17 = true := Bool.eq_iff_iff.2 (hy17.trans ((HP6.out.2 z).trans (by rw [← Hp.out, ← Hq.out]; simp)))
          replace HX3 := hide (HX3.out.below b17)
          replace HX4 := hide (HX4.out.below b17)
          replace HX5 := hide (HX5.out.below b17)
          replace HX6 := hide (HX6.out.below b17)
          replace HX7 := hide (HX7.out.below b17)
          replace HX8 := hide (HX8.out.below b17)
          have HB17 := hide (HB16.out.trans (b17.mono HB16.out.size))
          have HD17 := hide (HD16.out.trans (b17.mono HD16.out.size))
          clear b17 hy17 HB16 HD16 kc0 kc1 kc2 kc3
          have kc0 : w17.cell? ⟨w.heap.size, 0, none⟩ = some (.slice ao n cap) := by rw [HB17.out.cell HLT.out]; exact HC.out.1
          have kc1 : w17.cell? ⟨w.heap.size, 1, none⟩ = some (.slice bo m cap') := by rw [HB17.out.cell HLT.out]; exact HC.out.2.1
          have kc2 : w17.cell? ⟨w.heap.size, 2, none⟩ = some (.slice co l cap2) := by rw [HB17.out.cell HLT.out]; exact HC.out.2.2.1
          have kc3 : w17.cell? ⟨w.heap.size, 3, none⟩ = some (.int .i64 z) := by rw [HB17.out.cell HLT.out]; exact HC.out.2.2.2
          go_wp2_with fail
          refine (has_any a7 n7 c7 X7 z _ HX7.out).mono ?_
          rintro e w18 ⟨y18, rfl, hy18, b18⟩
          obtain rfl : y18 = false := Bool.eq_iff_iff.2 (hy18.trans ((HP7.out.2 z).trans (by rw [← Hp.out, ← Hq.out]; simp)))
          replace HX3 := hide (HX3.out.below b18)
          replace HX4 := hide (HX4.out.below b18)
          replace HX5 := hide (HX5.out.below b18)
          replace HX6 := hide (HX6.out.below b18)
          replace HX7 := hide (HX7.out.below b18)
          replace HX8 := hide (HX8.out.below b18)
          have HB18 := hide (HB17.out.trans (b18.mono HB17.out.size))
          have HD18 := hide (HD17.out.trans (b18.mono HD17.out.size))
          clear b18 hy18 HB17 HD17 kc0 kc1 kc2 kc3
          have kc0 : w18.cell? ⟨w.heap.size, 0, none⟩ = some (.slice ao n cap) := by rw [HB18.out.cell HLT.out]; exact HC.out.1
          have kc1 : w18.cell? ⟨w.heap.size, 1, none⟩ = some (.slice bo m cap') := by rw [HB18.out.cell HLT.out]; exact HC.out.2.1
          have kc2 : w18.cell? ⟨w.heap.size, 2, none⟩ = some (.slice co l cap2) := by rw [HB18.out.cell HLT.out]; exact HC.out.2.2.1
          have kc3 : w18.cell? ⟨w.heap.size, 3, none⟩ = some (.int .i64 z) := by rw [HB18.out.cell HLT.out]; exact HC.out.2.2.2
          go_wp2_with fail
          refine (has_any a8 n8 c8 X8 z _ HX8.out).mono ?_
          rintro e w19 ⟨y19, rfl, hy19, b19⟩
          obtain rfl : y19 = true := Bool.eq_iff_iff.2 (hy19.trans ((HP8.out.2 z).trans (by rw [← Hp.out, ← Hq.out]; simp)))
          replace HX3 := hide (HX3.out.below b19)
          replace HX4 := hide (HX4.out.below b19)
          replace HX5 := hide (HX5.out.below b19)
          replace HX6 := hide (HX6.out.below b19)
          replace HX7 := hide (HX7.out.below b19)
          replace HX8 := hide (HX8.out.below b19)
          have HB19 := hide (HB18.out.trans (b19.mono HB18.out.size))
          have HD19 := hide (HD18.out.trans (b19.mono HD18.out.size))
          clear b19 hy19 HB18 HD18 kc0 kc1 kc2 kc3
          go_wp2_with fail
          go_meet
          case rel => exact ⟨rfl, HD19.out⟩
      | false =>
        cases q with
        | true =>
          have HD15 : Hid (Below w15.heap.size w15 w15) := Below.refl _ _
          have kc0 : w15.cell? ⟨w.heap.size, 0, none⟩ = some (.slice ao n cap) := by rw [HB15.out.cell HLT.out]; exact HC.out.1
          have kc1 : w15.cell? ⟨w.heap.size, 1, none⟩ = some (.slice bo m cap') := by rw [HB15.out.cell HLT.out]; exact HC.out.2.1
          have kc2 : w15.cell? ⟨w.heap.size, 2, none⟩ = some (.slice co l cap2) := by rw [HB15.out.cell HLT.out]; exact HC.out.2.2.1
          have kc3 : w15.cell? ⟨w.heap.size, 3, none⟩ = some (.int .i64 z) := by rw [HB15.out.cell HLT.out]; exact HC.out.2.2.2
          go_wp2_with fail
          refine (has_any a3 n3 c3 X3 z _ HX3.out).mono ?_
          rintro e w16 ⟨y16, rfl, hy16, b16⟩
          obtain rfl : y16 = false := Bool.eq_iff_iff.2 (hy16.trans ((HP3.out.2 z).trans (by rw [← Hp.out] <;> simp)))
          replace HX3 := hide (HX3.out.below b16)
          replace HX4 := hide (HX4.out.below b16)
          replace HX5 := hide (HX5.out.below b16)
          replace HX6 := hide (HX6.out.below b16)
          replace HX7 := hide (HX7.out.below b16)
          replace HX8 := hide (HX8.out.below b16)
          have HB16 := hide (HB15.out.trans (b16.mono HB15.out.size))
          have HD16 := hide (HD15.out.trans (b16.mono HD15.out.size))
          clear b16 hy16 HB15 HD15 kc0 kc1 kc2 kc3
          have kc0 : w16.cell? ⟨w.heap.size, 0, none⟩ = some (.slice ao n cap) := by rw [HB16.out.cell HLT.out]; exact HC.out.1
          have kc1 : w16.cell? ⟨w.heap.size, 1, none⟩ = some (.slice bo m cap') := by rw [HB16.out.cell HLT.out]; exact HC.out.2.1
          have kc2 : w16.cell? ⟨w.heap.size, 2, none⟩ = some (.slice co l cap2) := by rw [HB16.out.cell HLT.out]; exact HC.out.2.2.1
          have kc3 : w16.cell? ⟨w.heap.size, 3, none⟩ = some (.int .i64 z) := by rw [HB16.out.cell HLT.out]; exact HC.out.2.2.2
          go_wp2_with fail
          refine (has_any a6 n6 c6 X6 z _ HX6.out).mono ?_
          rintro e w17 ⟨y17, rfl, hy17, b17⟩
          obtain rfl : y17 = true := Bool.eq_iff_iff.2 (hy17.trans ((HP6.out.2 z).trans (by rw [← Hp.out, ← Hq.out]; simp)))
          replace HX3 := hide (HX3.out.below b17)
          replace HX4 := hide (HX4.out.below b17)
          replace HX5 := hide (HX5.out.below b17)
          replace HX6 := hide (HX6.out.below b17)
          replace HX7 := hide (HX7.out.below b17)
          replace HX8 := hide (HX8.out.below b17)
          have HB17 := hide (HB16.out.trans (b17.mono HB16.out.size))
          have HD17 := hide (HD16.out.trans (b17.mono HD16.out.size))
          clear b17 hy17 HB16 HD16 kc0 kc1 kc2 kc3
          have kc0 : w17.cell? ⟨w.heap.size, 0, none⟩ = some (.slice ao n cap) := by rw [HB17.out.cell HLT.out]; exact HC.out.1
          have kc1 : w17.cell? ⟨w.heap.size, 1, none⟩ = some (.slice bo m cap') := by rw [HB17.out.cell HLT.out]; exact HC.out.2.1
          have kc2 : w17.cell? ⟨w.heap.size, 2, none⟩ = some (.slice co l cap2) := by rw [HB17.out.cell HLT.out]; exact HC.out.2.2.1
          have kc3 : w17.cell? ⟨w.heap.size, 3, none⟩ = some (.int .i64 z) := by rw [HB17.out.cell HLT.out]; exact HC.out.2.2.2
          go_wp2_with fail
          refine (has_any a7 n7 c7 X7 z _ HX7.out).mono ?_
          rintro e w18 ⟨y18, rfl, hy18, b18⟩
          obtain rfl : y18 = false := Bool.eq_iff_iff.2 (hy18.trans ((HP7.out.2 z).trans (by rw [← Hp.out, ← Hq.out]; simp)))
          replace HX3 := hide (HX3.out.below b18)
          replace HX4 := hide (HX4.out.below b18)
          replace HX5 := hide (HX5.out.below b18)
          replace HX6 := hide (HX6.out.below b18)
          replace HX7 := hide (HX7.out.below b18)
          replace HX8 := hide (HX8.out.below b18)
          have HB18 := hide (HB17.out.trans (b18.mono HB17.out.size))
          have HD18 := hide (HD17.out.trans (b18.mono HD17.out.size))
          clear b18 hy18 HB17 HD17 kc0 kc1 kc2 kc3
          have kc0 : w18.cell? ⟨w.heap.size, 0, none⟩ = some (.slice ao n cap) := by rw [HB18.out.cell HLT.out]; exact HC.out.1
          have kc1 : w18.cell? ⟨w.heap.size, 1, none⟩ = some (.slice bo m cap') := by rw [HB18.out.cell HLT.out]; exact HC.out.2.1
          have kc2 : w18.cell? ⟨w.heap.size, 2, none⟩ = some (.slice co l cap2) := by rw [HB18.out.cell HLT.out]; exact HC.out.2.2.1
          have kc3 : w18.cell? ⟨w.heap.size, 3, none⟩ = some (.int .i64 z) := by rw [HB18.out.cell HLT.out]; exact HC.out.2.2.2
          go_wp2_with fail
          refine (has_any a8 n8 c8 X8 z _ HX8.out).mono ?_
          rintro e w19 ⟨y19, rfl, hy19, b19⟩
          obtain rfl : y19 = false := Bool.eq_iff_iff.2 (hy19.trans ((HP8.out.2 z).trans (by rw [← Hp.out, ← Hq.out]; simp)))
          replace HX3 := hide (HX3.out.below b19)
          replace HX4 := hide (HX4.out.below b19)
          replace HX5 := hide (HX5.out.below b19)
          replace HX6 := hide (HX6.out.below b19)
          replace HX7 := hide (HX7.out.below b19)
          replace HX8 := hide (HX8.out.below b19)
          have HB19 := hide (HB18.out.trans (b19.mono HB18.out.size))
          have HD19 := hide (HD18.out.trans (b19.mono HD18.out.size))
          clear b19 hy19 HB18 HD18 kc0 kc1 kc2 kc3
          go_wp2_with fail
          go_meet
          case rel => exact ⟨rfl, HD19.out⟩
        | false =>
          have HD15 : Hid (Below w15.heap.size w15 w15) := Below.refl _ _
          have kc0 : w15.cell? ⟨w.heap.size, 0, none⟩ = some (.slice ao n cap) := by rw [HB15.out.cell HLT.out]; exact HC.out.1
          have kc1 : w15.cell? ⟨w.heap.size, 1, none⟩ = some (.slice bo m cap') := by rw [HB15.out.cell HLT.out]; exact HC.out.2.1
          have kc2 : w15.cell? ⟨w.heap.size, 2, none⟩ = some (.slice co l cap2) := by rw [HB15.out.cell HLT.out]; exact HC.out.2.2.1
          have kc3 : w15.cell? ⟨w.heap.size, 3, none⟩ = some (.int .i64 z) := by rw [HB15.out.cell HLT.out]; exact HC.out.2.2.2
          go_wp2_with fail
          refine (has_any a3 n3 c3 X3 z _ HX3.out).mono ?_
          rintro e w16 ⟨y16, rfl, hy16, b16⟩
          obtain rfl : y16 = false := Bool.eq_iff_iff.2 (hy16.trans ((HP3.out.2 z).trans (by rw [← Hp.out] <;> simp)))
          replace HX3 := hide (HX3.out.below b16)
          replace HX4 := hide (HX4.out.below b16)
          replace HX5 := hide (HX5.out.below b16)
          replace HX6 := hide (HX6.out.below b16)
          replace HX7 := hide (HX7.out.below b16)
          replace HX8 := hide (HX8.out.below b16)
          have HB16 := hide (HB15.out.trans (b16.mono HB15.out.size))
          have HD16 := hide (HD15.out.trans (b16.mono HD15.out.size))
          clear b16 hy16 HB15 HD15 kc0 kc1 kc2 kc3
          have kc0 : w16.cell? ⟨w.heap.size, 0, none⟩ = some (.slice ao n cap) := by rw [HB16.out.cell HLT.out]; exact HC.out.1
          have kc1 : w16.cell? ⟨w.heap.size, 1, none⟩ = some (.slice bo m cap') := by rw [HB16.out.cell HLT.out]; exact HC.out.2.1
          have kc2 : w16.cell? ⟨w.heap.size, 2, none⟩ = some (.slice co l cap2) := by rw [HB16.out.cell HLT.out]; exact HC.out.2.2.1
          have kc3 : w16.cell? ⟨w.heap.size, 3, none⟩ = some (.int .i64 z) := by rw [HB16.out.cell HLT.out]; exact HC.out.2.2.2
          go_wp2_with fail
          refine (has_any a6 n6 c6 X6 z _ HX6.out).mono ?_
          rintro e w17 ⟨y17, rfl, hy17, b17⟩
          obtain rfl : y17 = false := Bool.eq_iff_iff.2 (hy17.trans ((HP6.out.2 z).trans (by rw [← Hp.out, ← Hq.out]; simp)))
          replace HX3 := hide (HX3.out.below b17)
          replace HX4 := hide (HX4.out.below b17)
          replace HX5 := hide (HX5.out.below b17)
          replace HX6 := hide (HX6.out.below b17)
          replace HX7 := hide (HX7.out.below b17)
          replace HX8 := hide (HX8.out.below b17)
          have HB17 := hide (HB16.out.trans (b17.mono HB16.out.size))
          have HD17 := hide (HD16.out.trans (b17.mono HD16.out.size))
          clear b17 hy17 HB16 HD16 kc0 kc1 kc2 kc3
          have kc0 : w17.cell? ⟨w.heap.size, 0, none⟩ = some (.slice ao n cap) := by rw [HB17.out.cell HLT.out]; exact HC.out.1
          have kc1 : w17.cell? ⟨w.heap.size, 1, none⟩ = some (.slice bo m cap') := by rw [HB17.out.cell HLT.out]; exact HC.out.2.1
          have kc2 : w17.cell? ⟨w.heap.size, 2, none⟩ = some (.slice co l cap2) := by rw [HB17.out.cell HLT.out]; exact HC.out.2.2.1
          have kc3 : w17.cell? ⟨w.heap.size, 3, none⟩ = some (.int .i64 z) := by rw [HB17.out.cell HLT.out]; exact HC.out.2.2.2
          go_wp2_with fail
          refine (has_any a7 n7 c7 X7 z _ HX7.out).mono ?_
          rintro e w18 ⟨y18, rfl, hy18, b18⟩
          obtain rfl : y18 = false := Bool.eq_iff_iff.2 (hy18.trans ((HP7.out.2 z).trans (by rw [← Hp.out, ← Hq.out]; simp)))
          replace HX3 := hide (HX3.out.below b18)
          replace HX4 := hide (HX4.out.below b18)
          replace HX5 := hide (HX5.out.below b18)
          replace HX6 := hide (HX6.out.below b18)
          replace HX7 := hide (HX7.out.below b18)
          replace HX8 := hide (HX8.out.below b18)
          have HB18 := hide (HB17.out.trans (b18.mono HB17.out.size))
          have HD18 := hide (HD17.out.trans (b18.mono HD17.out.size))
          clear b18 hy18 HB17 HD17 kc0 kc1 kc2 kc3
          have kc0 : w18.cell? ⟨w.heap.size, 0, none⟩ = some (.slice ao n cap) := by rw [HB18.out.cell HLT.out]; exact HC.out.1
          have kc1 : w18.cell? ⟨w.heap.size, 1, none⟩ = some (.slice bo m cap') := by rw [HB18.out.cell HLT.out]; exact HC.out.2.1
          have kc2 : w18.cell? ⟨w.heap.size, 2, none⟩ = some (.slice co l cap2) := by rw [HB18.out.cell HLT.out]; exact HC.out.2.2.1
          have kc3 : w18.cell? ⟨w.heap.size, 3, none⟩ = some (.int .i64 z) := by rw [HB18.out.cell HLT.out]; exact HC.out.2.2.2
          go_wp2_with fail
          refine (has_any a8 n8 c8 X8 z _ HX8.out).mono ?_
          rintro e w19 ⟨y19, rfl, hy19, b19⟩
          obtain rfl : y19 = false := Bool.eq_iff_iff.2 (hy19.trans ((HP8.out.2 z).trans (by rw [← Hp.out, ← Hq.out]; simp)))
          replace HX3 := hide (HX3.out.below b19)
          replace HX4 := hide (HX4.out.below b19)
          replace HX5 := hide (HX5.out.below b19)
          replace HX6 := hide (HX6.out.below b19)
          replace HX7 := hide (HX7.out.below b19)
          replace HX8 := hide (HX8.out.below b19)
          have HB19 := hide (HB18.out.trans (b19.mono HB18.out.size))
          have HD19 := hide (HD18.out.trans (b19.mono HD18.out.size))
          clear b19 hy19 HB18 HD18 kc0 kc1 kc2 kc3
          go_wp2_with fail
          go_meet
          case rel => exact ⟨rfl, HD19.out⟩
  case rest =>
    obtain ⟨rfl, HCUT⟩ := hcut
    have b16 := HCUT.out
    rename World => w16
    replace HX3 := hide (HX3.out.below b16)
    replace HX4 := hide (HX4.out.below b16)
    replace HX5 := hide (HX5.out.below b16)
    replace HX6 := hide (HX6.out.below b16)
    replace HX7 := hide (HX7.out.below b16)
    replace HX8 := hide (HX8.out.below b16)
    have HB16 := hide (HB15.out.trans (b16.mono HB15.out.size))
    clear b16 HB15
    clear HCUT
    have kc0 : w16.cell? ⟨w.heap.size, 0, none⟩ = some (.slice ao n cap) := by rw [HB16.out.cell HLT.out]; exact HC.out.1
    have kc1 : w16.cell? ⟨w.heap.size, 1, none⟩ = some (.slice bo m cap') := by rw [HB16.out.cell HLT.out]; exact HC.out.2.1
    have kc2 : w16.cell? ⟨w.heap.size, 2, none⟩ = some (.slice co l cap2) := by rw [HB16.out.cell HLT.out]; exact HC.out.2.2.1
    have kc3 : w16.cell? ⟨w.heap.size, 3, none⟩ = some (.int .i64 z) := by rw [HB16.out.cell HLT.out]; exact HC.out.2.2.2
    go_wp2_with fail
    refine (union2_any bo ao m cap' n cap B A _ (HR.out.below HB16.out) (HS.out.below HB16.out) (by omega)).mono ?_
    rintro e w17 ⟨a17, n17, c17, X17, rfl, S17, b17, p17⟩
    replace HX3 := hide (HX3.out.below b17)
    replace HX4 := hide (HX4.out.below b17)
    replace HX5 := hide (HX5.out.below b17)
    replace HX6 := hide (HX6.out.below b17)
    replace HX7 := hide (HX7.out.below b17)
    replace HX8 := hide (HX8.out.below b17)
    have HB17 := hide (HB16.out.trans (b17.mono HB16.out.size))
    have HX17 := hide S17
    have HP17 := hide p17
    have hn17 : n17 ≤ 500000001 := by rw [← S17.len]; exact form_small (Int.le_refl _) p17.1
    clear b17 HB16 S17 p17 kc0 kc1 kc2 kc3
    have HE : Hid (X17 = X6) := law_uc HP6.out HP17.out
    have kc0 : w17.cell? ⟨w.heap.size, 0, none⟩ = some (.slice ao n cap) := by rw [HB17.out.cell HLT.out]; exact HC.out.1
    have kc1 : w17.cell? ⟨w.heap.size, 1, none⟩ = some (.slice bo m cap') := by rw [HB17.out.cell HLT.out]; exact HC.out.2.1
    have kc2 : w17.cell? ⟨w.heap.size, 2, none⟩ = some (.slice co l cap2) := by rw [HB17.out.cell HLT.out]; exact HC.out.2.2.1
    have kc3 : w17.cell? ⟨w.heap.size, 3, none⟩ = some (.int .i64 z) := by rw [HB17.out.cell HLT.out]; exact HC.out.2.2.2
    go_wp2_with fail
    refine (same_any a17 a6 n17 c17 n6 c6 X17 X6 _ HX17.out HX6.out HE.out).mono ?_
    rintro e w18 ⟨rfl, b18⟩
    replace HX3 := hide (HX3.out.below b18)
    replace HX4 := hide (HX4.out.below b18)
    replace HX5 := hide (HX5.out.below b18)
    replace HX6 := hide (HX6.out.below b18)
    replace HX7 := hide (HX7.out.below b18)
    replace HX8 := hide (HX8.out.below b18)
    replace HX17 := hide (HX17.out.below b18)
    have HB18 := hide (HB17.out.trans (b18.mono HB17.out.size))
    clear b18 HB17 HE kc0 kc1 kc2 kc3
    clear HX17
    have kc0 : w18.cell? ⟨w.heap.size, 0, none⟩ = some (.slice ao n cap) := by rw [HB18.out.cell HLT.out]; exact HC.out.1
    have kc1 : w18.cell? ⟨w.heap.size, 1, none⟩ = some (.slice bo m cap') := by rw [HB18.out.cell HLT.out]; exact HC.out.2.1
    have kc2 : w18.cell? ⟨w.heap.size, 2, none⟩ = some (.slice co l cap2) := by rw [HB18.out.cell HLT.out]; exact HC.out.2.2.1
    have kc3 : w18.cell? ⟨w.heap.size, 3, none⟩ = some (.int .i64 z) := by rw [HB18.out.cell HLT.out]; exact HC.out.2.2.2
    go_wp2_with fail
    refine (meet_any bo ao m cap' n cap B A _ (HR.out.below HB18.out) (HS.out.below HB18.out)).mono ?_
    rintro e w19 ⟨a19, n19, c19, X19, rfl, S19, b19, p19⟩
    replace HX3 := hide (HX3.out.below b19)
    replace HX4 := hide (HX4.out.below b19)
    replace HX5 := hide (HX5.out.below b19)
    replace HX6 := hide (HX6.out.below b19)
    replace HX7 := hide (HX7.out.below b19)
    replace HX8 := hide (HX8.out.below b19)
    have HB19 := hide (HB18.out.trans (b19.mono HB18.out.size))
    have HX19 := hide S19
    have HP19 := hide p19
    have hn19 : n19 ≤ 500000001 := by rw [← S19.len]; exact form_small (Int.le_refl _) p19.1
    clear b19 HB18 S19 p19 kc0 kc1 kc2 kc3
    have HE : Hid (X19 = X7) := law_mc HP7.out HP19.out
    have kc0 : w19.cell? ⟨w.heap.size, 0, none⟩ = some (.slice ao n cap) := by rw [HB19.out.cell HLT.out]; exact HC.out.1
    have kc1 : w19.cell? ⟨w.heap.size, 1, none⟩ = some (.slice bo m cap') := by rw [HB19.out.cell HLT.out]; exact HC.out.2.1
    have kc2 : w19.cell? ⟨w.heap.size, 2, none⟩ = some (.slice co l cap2) := by rw [HB19.out.cell HLT.out]; exact HC.out.2.2.1
    have kc3 : w19.cell? ⟨w.heap.size, 3, none⟩ = some (.int .i64 z) := by rw [HB19.out.cell HLT.out]; exact HC.out.2.2.2
    go_wp2_with fail
    refine (same_any a19 a7 n19 c19 n7 c7 X19 X7 _ HX19.out HX7.out HE.out).mono ?_
    rintro e w20 ⟨rfl, b20⟩
    replace HX3 := hide (HX3.out.below b20)
    replace HX4 := hide (HX4.out.below b20)
    replace HX5 := hide (HX5.out.below b20)
    replace HX6 := hide (HX6.out.below b20)
    replace HX7 := hide (HX7.out.below b20)
    replace HX8 := hide (HX8.out.below b20)
    replace HX19 := hide (HX19.out.below b20)
    have HB20 := hide (HB19.out.trans (b20.mono HB19.out.size))
    clear b20 HB19 HE kc0 kc1 kc2 kc3
    clear HX19
    have kc0 : w20.cell? ⟨w.heap.size, 0, none⟩ = some (.slice ao n cap) := by rw [HB20.out.cell HLT.out]; exact HC.out.1
    have kc1 : w20.cell? ⟨w.heap.size, 1, none⟩ = some (.slice bo m cap') := by rw [HB20.out.cell HLT.out]; exact HC.out.2.1
    have kc2 : w20.cell? ⟨w.heap.size, 2, none⟩ = some (.slice co l cap2) := by rw [HB20.out.cell HLT.out]; exact HC.out.2.2.1
    have kc3 : w20.cell? ⟨w.heap.size, 3, none⟩ = some (.int .i64 z) := by rw [HB20.out.cell HLT.out]; exact HC.out.2.2.2
    go_wp2_with fail
    refine (union2_any a8 a7 n8 c8 n7 c7 X8 X7 _ HX8.out HX7.out (by omega)).mono ?_
    rintro e w21 ⟨a21, n21, c21, X21, rfl, S21, b21, p21⟩
    replace HX3 := hide (HX3.out.below b21)
    replace HX4 := hide (HX4.out.below b21)
    replace HX5 := hide (HX5.out.below b21)
    replace HX6 := hide (HX6.out.below b21)
    replace HX7 := hide (HX7.out.below b21)
    replace HX8 := hide (HX8.out.below b21)
    have HB21 := hide (HB20.out.trans (b21.mono HB20.out.size))
    have HX21 := hide S21
    have HP21 := hide p21
    have hn21 : n21 ≤ 500000001 := by rw [← S21.len]; exact form_small (Int.le_refl _) p21.1
    clear b21 HB20 S21 p21 kc0 kc1 kc2 kc3
    have HE : Hid (X21 = X3) := law_dm HP3.out HP8.out HP7.out HP21.out
    have kc0 : w21.cell? ⟨w.heap.size, 0, none⟩ = some (.slice ao n cap) := by rw [HB21.out.cell HLT.out]; exact HC.out.1
    have kc1 : w21.cell? ⟨w.heap.size, 1, none⟩ = some (.slice bo m cap') := by rw [HB21.out.cell HLT.out]; exact HC.out.2.1
    have kc2 : w21.cell? ⟨w.heap.size, 2, none⟩ = some (.slice co l cap2) := by rw [HB21.out.cell HLT.out]; exact HC.out.2.2.1
    have kc3 : w21.cell? ⟨w.heap.size, 3, none⟩ = some (.int .i64 z) := by rw [HB21.out.cell HLT.out]; exact HC.out.2.2.2
    go_wp2_with fail
    refine (same_any a21 a3 n21 c21 n3 c3 X21 X3 _ HX21.out HX3.out HE.out).mono ?_
    rintro e w22 ⟨rfl, b22⟩
    replace HX3 := hide (HX3.out.below b22)
    replace HX4 := hide (HX4.out.below b22)
    replace HX5 := hide (HX5.out.below b22)
    replace HX6 := hide (HX6.out.below b22)
    replace HX7 := hide (HX7.out.below b22)
    replace HX8 := hide (HX8.out.below b22)
    replace HX21 := hide (HX21.out.below b22)
    have HB22 := hide (HB21.out.trans (b22.mono HB21.out.size))
    clear b22 HB21 HE kc0 kc1 kc2 kc3
    clear HX21
    have kc0 : w22.cell? ⟨w.heap.size, 0, none⟩ = some (.slice ao n cap) := by rw [HB22.out.cell HLT.out]; exact HC.out.1
    have kc1 : w22.cell? ⟨w.heap.size, 1, none⟩ = some (.slice bo m cap') := by rw [HB22.out.cell HLT.out]; exact HC.out.2.1
    have kc2 : w22.cell? ⟨w.heap.size, 2, none⟩ = some (.slice co l cap2) := by rw [HB22.out.cell HLT.out]; exact HC.out.2.2.1
    have kc3 : w22.cell? ⟨w.heap.size, 3, none⟩ = some (.int .i64 z) := by rw [HB22.out.cell HLT.out]; exact HC.out.2.2.2
    go_wp2_with fail
    refine (meet_any a8 bo n8 c8 m cap' X8 B _ HX8.out (HR.out.below HB22.out)).mono ?_
    rintro e w23 ⟨a23, n23, c23, X23, rfl, S23, b23, p23⟩
    replace HX3 := hide (HX3.out.below b23)
    replace HX4 := hide (HX4.out.below b23)
    replace HX5 := hide (HX5.out.below b23)
    replace HX6 := hide (HX6.out.below b23)
    replace HX7 := hide (HX7.out.below b23)
    replace HX8 := hide (HX8.out.below b23)
    have HB23 := hide (HB22.out.trans (b23.mono HB22.out.size))
    have HX23 := hide S23
    have HP23 := hide p23
    obtain rfl := law_db HP8.out p23
    obtain rfl : n23 = 0 := S23.len.symm
    clear b23 HB22 S23 p23 kc0 kc1 kc2 kc3
    clear HX23
    go_upto_region 16 with fail
    go_cut [179] from 11 (fun s wx => s = .bool false ∧ Hid (Below w23.heap.size w23 wx))
    case first =>
      as_aux_lemma =>
        have SB : Hid (∀ W, Below w23.heap.size w23 W → Below w23.heap.size w23 W ∧ W.cell? ⟨w.heap.size, 0, none⟩ = some (.slice ao n cap) ∧ W.cell? ⟨w.heap.size, 1, none⟩ = some (.slice bo m cap') ∧ W.cell? ⟨w.heap.size, 2, none⟩ = some (.slice co l cap2)) := fun W hW => by
          have e : ∀ i, W.cell? ⟨w.heap.size, i, none⟩ = w0.cell? ⟨w.heap.size, i, none⟩ := fun i => (HB23.out.trans (hW.mono HB23.out.size)).cell HLT.out
          exact ⟨hW, by rw [e]; exact HC.out.1, by rw [e]; exact HC.out.2.1, by rw [e]; exact HC.out.2.2.1⟩
        have HSk := hide (HS.out.below HB23.out)
        have HRk := hide (HR.out.below HB23.out)
        have HTk := hide (HT.out.below HB23.out)
        clear HX3 HX4 HX5 HX6 HX7 HP3 HP4 HP5 HP6 HP7 hn3 hn4 hn5 hn6 hn7 Hp Hq HLA HLB HLC HBX Hz
        go_wp2_with fail
        go_region_held3 (fun W => Below w23.heap.size w23 W ∧ W.cell? ⟨w.heap.size, 0, none⟩ = some (.slice ao n cap) ∧ W.cell? ⟨w.heap.size, 1, none⟩ = some (.slice bo m cap') ∧ W.cell? ⟨w.heap.size, 2, none⟩ = some (.slice co l cap2))  ((refine SB.out _ ?_; (repeat (with_reducible (first | assumption | exact Below.refl _ _ | refine below_dr ?_ | refine below_al ?_))))) (first | (go_at_call 5; refine (union_any _ bo co m cap' l cap2 B C _ ?_ ?_ ?_ ?_ (by omega)).mono ?_; (focus (refine RSrc.below HRk.out ?_; (repeat (with_reducible (first | assumption | exact Below.refl _ _ | refine below_dr ?_ | refine below_al ?_))))); (focus (refine RSrc.below HTk.out ?_; (repeat (with_reducible (first | assumption | exact Below.refl _ _ | refine below_dr ?_ | refine below_al ?_))))); (focus (first | ((with_reducible (refine top_cell _ _ _ _ _ _ ?_ ?_)); all_goals (first | rfl | omega | (simp only [World.size_drew, World.size_alloc]; done) | (simp only [World.size_drew, World.size_alloc]; omega) | (dsimp only; omega))) | ((with_reducible (refine old_cell _ _ _ _ ?_ (top_cell _ _ _ _ _ _ ?_ ?_))); all_goals (first | rfl | omega | (simp only [World.size_drew, World.size_alloc]; done) | (simp only [World.size_drew, World.size_alloc]; omega) | (dsimp only; omega))))); (focus (first | ((with_reducible (refine top_cell _ _ _ _ _ _ ?_ ?_)); all_goals (first | rfl | omega | (simp only [World.size_drew, World.size_alloc]; done) | (simp only [World.size_drew, World.size_alloc]; omega) | (dsimp only; omega))) | ((with_reducible (refine old_cell _ _ _ _ ?_ (top_cell _ _ _ _ _ _ ?_ ?_))); all_goals (first | rfl | omega | (simp only [World.size_drew, World.size_alloc]; done) | (simp only [World.size_drew, World.size_alloc]; omega) | (dsimp only; omega))))); rintro e wU ⟨aU, nU, cU, U, rfl, SU, bU, pU⟩; have HWwU : Below w23.heap.size w23 wU := below_chain (by (repeat (with_reducible (first | assumption | exact Below.refl _ _ | refine below_dr ?_ | refine below_al ?_)))) bU) | (go_at_call_of 8 (Value.slice ao n cap); refine (minus_any ao aU n cap nU cU A U _ ?_ ?_).mono ?_; (focus (refine RSrc.below HSk.out ?_; (repeat (with_reducible (first | assumption | exact Below.refl _ _ | refine below_dr ?_ | refine below_al ?_))))); (focus (refine RSrc.below SU ?_; (repeat (with_reducible (first | assumption | exact Below.refl _ _ | refine below_dr ?_ | refine below_al ?_))))); rintro e wV ⟨aV, nV, cV, V, rfl, SV, bV, pV⟩; have HWwV : Below w23.heap.size w23 wV := below_chain (by (repeat (with_reducible (first | assumption | exact Below.refl _ _ | refine below_dr ?_ | refine below_al ?_)))) bV; have hnV : nV ≤ 500000001 := (by rw [← SV.len]; exact form_small (Int.le_refl _) pV.1)) | (go_at_call_of 8 (Value.slice a8 n8 c8); refine (minus_any a8 co n8 c8 l cap2 X8 C _ ?_ ?_).mono ?_; (focus (refine RSrc.below HX8.out ?_; (repeat (with_reducible (first | assumption | exact Below.refl _ _ | refine below_dr ?_ | refine below_al ?_))))); (focus (refine RSrc.below HTk.out ?_; (repeat (with_reducible (first | assumption | exact Below.refl _ _ | refine below_dr ?_ | refine below_al ?_))))); rintro e wY ⟨aY, nY, cY, Y, rfl, SY, bY, pY⟩; have HWwY : Below w23.heap.size w23 wY := below_chain (by (repeat (with_reducible (first | assumption | exact Below.refl _ _ | refine below_dr ?_ | refine below_al ?_)))) bY; have hnY : nY ≤ 500000001 := (by rw [← SY.len]; exact form_small (Int.le_refl _) pY.1); have hwVwY : Below wV.heap.size wV wY := below_chain (by (repeat (with_reducible (first | assumption | exact Below.refl _ _ | refine below_dr ?_ | refine below_al ?_)))) bY) | (go_at_call_of 4 (Value.slice aV nV cV); refine (same_any aV aY nV cV nY cY V Y _ ?_ ?_ ?_).mono ?_; (focus (refine RSrc.below SV ?_; (repeat (with_reducible (first | assumption | exact Below.refl _ _ | refine below_dr ?_ | refine below_al ?_))))); (focus (refine RSrc.below SY ?_; (repeat (with_reducible (first | assumption | exact Below.refl _ _ | refine below_dr ?_ | refine below_al ?_))))); (focus (exact law_mu pU pV HP8.out pY)); rintro e wL ⟨rfl, bwL⟩; have HWwL : Below w23.heap.size w23 wL := below_chain (by (repeat (with_reducible (first | assumption | exact Below.refl _ _ | refine below_dr ?_ | refine below_al ?_)))) bwL))
        all_goals (go_wp2_with fail)
        all_goals go_meet
        all_goals exact ⟨rfl, HWwL⟩
    case rest =>
      obtain ⟨rfl, HCUT⟩ := hcut
      have b24 := HCUT.out
      rename World => w24
      replace HX3 := hide (HX3.out.below b24)
      replace HX4 := hide (HX4.out.below b24)
      replace HX5 := hide (HX5.out.below b24)
      replace HX6 := hide (HX6.out.below b24)
      replace HX7 := hide (HX7.out.below b24)
      replace HX8 := hide (HX8.out.below b24)
      have HB24 := hide (HB23.out.trans (b24.mono HB23.out.size))
      clear b24 HB23
      clear HCUT
      go_upto_region 18 with fail
      go_cut [198] from 11 (fun s wx => s = .bool false ∧ Hid (Below w24.heap.size w24 wx))
      case first =>
        as_aux_lemma =>
          have SB : Hid (∀ W, Below w24.heap.size w24 W → Below w24.heap.size w24 W ∧ W.cell? ⟨w.heap.size, 0, none⟩ = some (.slice ao n cap) ∧ W.cell? ⟨w.heap.size, 1, none⟩ = some (.slice bo m cap') ∧ W.cell? ⟨w.heap.size, 2, none⟩ = some (.slice co l cap2)) := fun W hW => by
            have e : ∀ i, W.cell? ⟨w.heap.size, i, none⟩ = w0.cell? ⟨w.heap.size, i, none⟩ := fun i => (HB24.out.trans (hW.mono HB24.out.size)).cell HLT.out
            exact ⟨hW, by rw [e]; exact HC.out.1, by rw [e]; exact HC.out.2.1, by rw [e]; exact HC.out.2.2.1⟩
          have HSk := hide (HS.out.below HB24.out)
          have HRk := hide (HR.out.below HB24.out)
          have HTk := hide (HT.out.below HB24.out)
          clear HX3 HX4 HX5 HX6 HX8 HP3 HP4 HP5 HP6 HP8 hn3 hn4 hn5 hn6 hn8 Hp Hq HLA HLB HLC HBX Hz
          have HKC := hide (SB.out _ (Below.refl _ _)).2
          clear SB
          go_wp2_with fail
          refine wp_region_inv (by kernel_rfl) (fun fl x W => ∃ v0 v1 v2 v3 v4 v5 v6 v7 v8 v9 v10 v11 v12 v13 v14 v15 v16 v17 v18, x = { tmps := #[Value.agg #[Value.slice ao n cap, Value.slice bo m cap', Value.slice co l cap2, Value.int IntKind.i64 z], Value.pointer (some { block := w.heap.size, off := 0 }), Value.bool false, Value.slice a3 n3 c3, Value.slice a4 n4 c4, Value.slice a5 n5 c5, Value.slice a6 n6 c6, Value.slice a7 n7 c7, Value.slice a8 n8 c8, Value.bool p, Value.bool q, u11, u12, u13, u14, u15, u16, u17, u18, u19, u20, u21, u22, u23, u24, u25, u26, u27, u28, u29, u30, u31, u32, u33, u34, u35, u36, u37, u38, u39, u40, u41, u42, u43, u44, u45, u46, u47, u48, u49, u50, u51, u52, u53, u54, u55, u56, u57, u58, u59, u60, u61, u62, u63, u64, u65, u66, u67, u68, u69, u70, u71, u72, u73, u74, u75, u76, u77, u78, u79, u80, u81, u82, u83, u84, u85, u86, u87, u88, u89, u90, u91, u92, u93, u94, u95, u96, u97, u98, u99, u100, u101, u102, u103, u104, u105, u106, u107, u108, u109, u110, u111, u112, u113, u114, u115, u116, u117, u118, u119, u120, u121, u122, u123, u124, u125, u126, u127, u128, u129, u130, u131, u132, u133, u134, u135, u136, u137, u138, u139, u140, u141, u142, u143, u144, u145, u146, u147, u148, u149, u150, u151, u152, u153, u154, u155, u156, u157, u158, u159, u160, u161, u162, u163, u164, u165, u166, u167, u168, u169, u170, u171, u172, u173, u174, u175, u176, u177, u178, Value.bool false, v0, v1, v2, v3, v4, v5, v6, v7, v8, v9, v10, v11, v12, v13, v14, v15, v16, v17, v18, u199, u200, u201, u202, u203, u204, u205, u206, u207, u208, u209, u210, u211, u212, u213, u214, u215, u216, u217, u218, u219, u220, u221, u222, u223, u224, u225, u226, u227, u228, u229, u230, u231, u232, u233, u234, u235, u236, u237, u238, u239, u240, u241, u242, u243, u244, u245, u246, u247, u248, u249, u250, u251, u252, u253, u254, u255, u256, u257, u258, u259, u260, u261, u262, u263, u264, u265, u266, u267, u268, u269, u270, u271, u272, u273, u274, u275, u276], defers := [] } ∧ RI 19 w24 (Ph18 ao bo co a7 n cap m cap' l cap2 n7 c7 A B C X7 w) fl W [v0, v1, v2, v3, v4, v5, v6, v7, v8, v9, v10, v11, v12, v13, v14, v15, v16, v17, v18]) ⟨u180, u181, u182, u183, u184, u185, u186, u187, u188, u189, u190, u191, u192, u193, u194, u195, u196, u197, u198, rfl, RI.start _ _ _ _ rfl⟩ ?_ (st18 HSk HRk HTk HX7 HP7 HKC hA hB hC hn7) ?_
          · rintro fl x W ⟨v0, v1, v2, v3, v4, v5, v6, v7, v8, v9, v10, v11, v12, v13, v14, v15, v16, v17, v18, rfl, T⟩
            exact T.sz
          · rintro fl x W ⟨v0, v1, v2, v3, v4, v5, v6, v7, v8, v9, v10, v11, v12, v13, v14, v15, v16, v17, v18, rfl, T⟩ hnil
            have e18 : v18 = .bool false := T.h 18 (by decide) (ready_done (by kernel_rfl) T.sz hnil 18 (by decide))
            subst e18
            have HWwL := T.b
            clear T hnil
            go_wp2_with fail
            go_meet
            exact ⟨rfl, HWwL⟩
      case rest =>
        obtain ⟨rfl, HCUT⟩ := hcut
        have b25 := HCUT.out
        rename World => w25
        replace HX3 := hide (HX3.out.below b25)
        replace HX4 := hide (HX4.out.below b25)
        replace HX5 := hide (HX5.out.below b25)
        replace HX6 := hide (HX6.out.below b25)
        replace HX7 := hide (HX7.out.below b25)
        replace HX8 := hide (HX8.out.below b25)
        have HB25 := hide (HB24.out.trans (b25.mono HB24.out.size))
        clear b25 HB24
        clear HCUT
        go_upto_region 20 with fail
        go_cut [233] from 11 (fun s wx => s = .bool false ∧ Hid (Below w25.heap.size w25 wx))
        case first =>
          as_aux_lemma =>
            have SB : Hid (∀ W, Below w25.heap.size w25 W → Below w25.heap.size w25 W ∧ W.cell? ⟨w.heap.size, 0, none⟩ = some (.slice ao n cap) ∧ W.cell? ⟨w.heap.size, 1, none⟩ = some (.slice bo m cap') ∧ W.cell? ⟨w.heap.size, 2, none⟩ = some (.slice co l cap2)) := fun W hW => by
              have e : ∀ i, W.cell? ⟨w.heap.size, i, none⟩ = w0.cell? ⟨w.heap.size, i, none⟩ := fun i => (HB25.out.trans (hW.mono HB25.out.size)).cell HLT.out
              exact ⟨hW, by rw [e]; exact HC.out.1, by rw [e]; exact HC.out.2.1, by rw [e]; exact HC.out.2.2.1⟩
            have HSk := hide (HS.out.below HB25.out)
            have HRk := hide (HR.out.below HB25.out)
            have HTk := hide (HT.out.below HB25.out)
            clear HX3 HX4 HX7 HX8 HP3 HP4 HP7 HP8 hn3 hn4 hn7 hn8 Hp Hq HLA HLB HLC HBX Hz
            have HKC := hide (SB.out _ (Below.refl _ _)).2
            clear SB
            go_wp2_with fail
            refine wp_region_inv (by kernel_rfl) (fun fl x W => ∃ v0 v1 v2 v3 v4 v5 v6 v7 v8 v9 v10 v11 v12 v13 v14 v15 v16 v17 v18 v19 v20 v21 v22 v23 v24 v25 v26 v27 v28 v29 v30 v31 v32 v33 v34, x = { tmps := #[Value.agg #[Value.slice ao n cap, Value.slice bo m cap', Value.slice co l cap2, Value.int IntKind.i64 z], Value.pointer (some { block := w.heap.size, off := 0 }), Value.bool false, Value.slice a3 n3 c3, Value.slice a4 n4 c4, Value.slice a5 n5 c5, Value.slice a6 n6 c6, Value.slice a7 n7 c7, Value.slice a8 n8 c8, Value.bool p, Value.bool q, u11, u12, u13, u14, u15, u16, u17, u18, u19, u20, u21, u22, u23, u24, u25, u26, u27, u28, u29, u30, u31, u32, u33, u34, u35, u36, u37, u38, u39, u40, u41, u42, u43, u44, u45, u46, u47, u48, u49, u50, u51, u52, u53, u54, u55, u56, u57, u58, u59, u60, u61, u62, u63, u64, u65, u66, u67, u68, u69, u70, u71, u72, u73, u74, u75, u76, u77, u78, u79, u80, u81, u82, u83, u84, u85, u86, u87, u88, u89, u90, u91, u92, u93, u94, u95, u96, u97, u98, u99, u100, u101, u102, u103, u104, u105, u106, u107, u108, u109, u110, u111, u112, u113, u114, u115, u116, u117, u118, u119, u120, u121, u122, u123, u124, u125, u126, u127, u128, u129, u130, u131, u132, u133, u134, u135, u136, u137, u138, u139, u140, u141, u142, u143, u144, u145, u146, u147, u148, u149, u150, u151, u152, u153, u154, u155, u156, u157, u158, u159, u160, u161, u162, u163, u164, u165, u166, u167, u168, u169, u170, u171, u172, u173, u174, u175, u176, u177, u178, u179, u180, u181, u182, u183, u184, u185, u186, u187, u188, u189, u190, u191, u192, u193, u194, u195, u196, u197, Value.bool false, v0, v1, v2, v3, v4, v5, v6, v7, v8, v9, v10, v11, v12, v13, v14, v15, v16, v17, v18, v19, v20, v21, v22, v23, v24, v25, v26, v27, v28, v29, v30, v31, v32, v33, v34, u234, u235, u236, u237, u238, u239, u240, u241, u242, u243, u244, u245, u246, u247, u248, u249, u250, u251, u252, u253, u254, u255, u256, u257, u258, u259, u260, u261, u262, u263, u264, u265, u266, u267, u268, u269, u270, u271, u272, u273, u274, u275, u276], defers := [] } ∧ RI 35 w25 (Ph20 ao bo co a5 a6 n cap m cap' l cap2 n5 c5 n6 c6 A B C X5 X6 w) fl W [v0, v1, v2, v3, v4, v5, v6, v7, v8, v9, v10, v11, v12, v13, v14, v15, v16, v17, v18, v19, v20, v21, v22, v23, v24, v25, v26, v27, v28, v29, v30, v31, v32, v33, v34]) ⟨u199, u200, u201, u202, u203, u204, u205, u206, u207, u208, u209, u210, u211, u212, u213, u214, u215, u216, u217, u218, u219, u220, u221, u222, u223, u224, u225, u226, u227, u228, u229, u230, u231, u232, u233, rfl, RI.start _ _ _ _ rfl⟩ ?_ (st20 HSk HRk HTk HX6 HX5 HP6 HP5 HKC hA hB hC hn5 hn6) ?_
            · rintro fl x W ⟨v0, v1, v2, v3, v4, v5, v6, v7, v8, v9, v10, v11, v12, v13, v14, v15, v16, v17, v18, v19, v20, v21, v22, v23, v24, v25, v26, v27, v28, v29, v30, v31, v32, v33, v34, rfl, T⟩
              exact T.sz
            · rintro fl x W ⟨v0, v1, v2, v3, v4, v5, v6, v7, v8, v9, v10, v11, v12, v13, v14, v15, v16, v17, v18, v19, v20, v21, v22, v23, v24, v25, v26, v27, v28, v29, v30, v31, v32, v33, v34, rfl, T⟩ hnil
              have e34 : v34 = .bool false := T.h 34 (by decide) (ready_done (by kernel_rfl) T.sz hnil 34 (by decide))
              subst e34
              have HWwL := T.b
              clear T hnil
              go_wp2_with fail
              go_meet
              exact ⟨rfl, HWwL⟩
        case rest =>
          obtain ⟨rfl, HCUT⟩ := hcut
          have b26 := HCUT.out
          rename World => w26
          replace HX3 := hide (HX3.out.below b26)
          replace HX4 := hide (HX4.out.below b26)
          replace HX5 := hide (HX5.out.below b26)
          replace HX6 := hide (HX6.out.below b26)
          replace HX7 := hide (HX7.out.below b26)
          replace HX8 := hide (HX8.out.below b26)
          have HB26 := hide (HB25.out.trans (b26.mono HB25.out.size))
          clear b26 HB25
          clear HCUT
          obtain ⟨s1, Hs1⟩ : ∃ s, Hid (SizeOf X6 s) := ⟨sz X6, X6, NormOf.self HP6.out.1, rfl⟩
          obtain ⟨s2, Hs2⟩ : ∃ s, Hid (SizeOf X7 s) := ⟨sz X7, X7, NormOf.self HP7.out.1, rfl⟩
          obtain ⟨s3, Hs3⟩ : ∃ s, Hid (SizeOf X3 s) := ⟨sz X3, X3, NormOf.self HP3.out.1, rfl⟩
          obtain ⟨s4, Hs4⟩ : ∃ s, Hid (SizeOf X4 s) := ⟨sz X4, X4, NormOf.self HP4.out.1, rfl⟩
          obtain ⟨s5, Hs5⟩ : ∃ s, Hid (SizeOf X8 s) := ⟨sz X8, X8, NormOf.self HP8.out.1, rfl⟩
          obtain ⟨s6, Hs6⟩ : ∃ s, Hid (SizeOf A s) := ⟨sz X3, X3, HP3.out, rfl⟩
          obtain ⟨e1, r1, r2, r3, r4, r5, r6, r7, r8⟩ := law_s1 HP3.out HP4.out HP6.out HP7.out Hs1.out Hs2.out Hs3.out Hs4.out
          obtain ⟨e2, r9, r10, r11, r12⟩ := law_s2 HP8.out HP7.out Hs5.out Hs2.out Hs6.out
          have q1 : (s1 + s2 != s3 + s4) = false := by rw [e1]; simp
          have q2 : (s5 + s2 != s6) = false := by rw [e2]; simp
          have v1 : IntKind.i64.wrap (s1 + s2) = s1 + s2 := by rw [IntKind.wrap_i64]; omega
          have v2 : IntKind.i64.wrap (s3 + s4) = s3 + s4 := by rw [IntKind.wrap_i64]; omega
          have v3 : IntKind.i64.wrap (s5 + s2) = s5 + s2 := by rw [IntKind.wrap_i64]; omega
          clear e1 e2 r1 r2 r3 r4 r5 r6 r7 r8 r9 r10 r11 r12
          have z1 : ∀ d os, Calls Try.prog 11 #[.slice a6 n6 c6] (Sort.grow (redrawn w26 d) os) fun x w'' => x = .returned (.int .i64 s1) ∧ ∃ r : Regrown, w'' = Sort.grow (redrawn w26 r.d) r.os := fun d os => Calls.regrown_of ((size_any a6 n6 c6 X6 _ (HX6.out.below (below_regrown w26 d os))).mono (by rintro e w' ⟨y, rfl, hy, b⟩; exact ⟨by rw [size_same hy Hs1.out], b⟩))
          have z2 : ∀ d os, Calls Try.prog 11 #[.slice a7 n7 c7] (Sort.grow (redrawn w26 d) os) fun x w'' => x = .returned (.int .i64 s2) ∧ ∃ r : Regrown, w'' = Sort.grow (redrawn w26 r.d) r.os := fun d os => Calls.regrown_of ((size_any a7 n7 c7 X7 _ (HX7.out.below (below_regrown w26 d os))).mono (by rintro e w' ⟨y, rfl, hy, b⟩; exact ⟨by rw [size_same hy Hs2.out], b⟩))
          have z3 : ∀ d os, Calls Try.prog 11 #[.slice a3 n3 c3] (Sort.grow (redrawn w26 d) os) fun x w'' => x = .returned (.int .i64 s3) ∧ ∃ r : Regrown, w'' = Sort.grow (redrawn w26 r.d) r.os := fun d os => Calls.regrown_of ((size_any a3 n3 c3 X3 _ (HX3.out.below (below_regrown w26 d os))).mono (by rintro e w' ⟨y, rfl, hy, b⟩; exact ⟨by rw [size_same hy Hs3.out], b⟩))
          have z4 : ∀ d os, Calls Try.prog 11 #[.slice a4 n4 c4] (Sort.grow (redrawn w26 d) os) fun x w'' => x = .returned (.int .i64 s4) ∧ ∃ r : Regrown, w'' = Sort.grow (redrawn w26 r.d) r.os := fun d os => Calls.regrown_of ((size_any a4 n4 c4 X4 _ (HX4.out.below (below_regrown w26 d os))).mono (by rintro e w' ⟨y, rfl, hy, b⟩; exact ⟨by rw [size_same hy Hs4.out], b⟩))
          have z5 : ∀ d os, Calls Try.prog 11 #[.slice a8 n8 c8] (Sort.grow (redrawn w26 d) os) fun x w'' => x = .returned (.int .i64 s5) ∧ ∃ r : Regrown, w'' = Sort.grow (redrawn w26 r.d) r.os := fun d os => Calls.regrown_of ((size_any a8 n8 c8 X8 _ (HX8.out.below (below_regrown w26 d os))).mono (by rintro e w' ⟨y, rfl, hy, b⟩; exact ⟨by rw [size_same hy Hs5.out], b⟩))
          have z6 : ∀ d os, Calls Try.prog 11 #[.slice ao n cap] (Sort.grow (redrawn w26 d) os) fun x w'' => x = .returned (.int .i64 s6) ∧ ∃ r : Regrown, w'' = Sort.grow (redrawn w26 r.d) r.os := fun d os => Calls.regrown_of ((size_any ao n cap A _ ((HS.out.below HB26.out).below (below_regrown w26 d os))).mono (by rintro e w' ⟨y, rfl, hy, b⟩; exact ⟨by rw [size_same hy Hs6.out], b⟩))
          have kc0 : w26.cell? ⟨w.heap.size, 0, none⟩ = some (.slice ao n cap) := by rw [HB26.out.cell HLT.out]; exact HC.out.1
          have kc1 : w26.cell? ⟨w.heap.size, 1, none⟩ = some (.slice bo m cap') := by rw [HB26.out.cell HLT.out]; exact HC.out.2.1
          have kc2 : w26.cell? ⟨w.heap.size, 2, none⟩ = some (.slice co l cap2) := by rw [HB26.out.cell HLT.out]; exact HC.out.2.2.1
          have kc3 : w26.cell? ⟨w.heap.size, 3, none⟩ = some (.int .i64 z) := by rw [HB26.out.cell HLT.out]; exact HC.out.2.2.2
          have kr0 := cell_regrown kc0
          clear kc0 kc1 kc2 kc3
          go_wp2_with fail
          refine wp_region_quiet_below (by kernel_rfl) (by kernel_rfl) ?_
          repeat (with_reducible (refine wpQuiet_step ?_); intro K hK; go_simp; (try rw [if_neg (by unfold undef; simp)]); first | (with_reducible (refine hK _ ?_); clear hK K) | (apply Exists.intro; refine ⟨fun _ => ?_, hK _ ?_⟩; (first | (go_at_call_of 11 (Value.slice a6 n6 c6); exact z1 _ _) | (go_at_call_of 11 (Value.slice a7 n7 c7); exact z2 _ _) | (go_at_call_of 11 (Value.slice a3 n3 c3); exact z3 _ _) | (go_at_call_of 11 (Value.slice a4 n4 c4); exact z4 _ _) | (go_at_call_of 11 (Value.slice a8 n8 c8); exact z5 _ _) | (go_at_call_of 11 (Value.slice ao n cap); exact z6 _ _)); clear hK K))
          with_reducible (refine wpQuiet_nil ?_)
          intro w27 hw'
          obtain ⟨⟨dq, osq⟩, hw''⟩ := hw'
          have b27 : Below w26.heap.size w26 w27 := by rw [hw'']; exact below_regrown w26 dq osq
          clear hw'' dq osq z1 z2 z3 z4 z5 z6 kr0 q1 q2 v1 v2 v3
          replace HX3 := hide (HX3.out.below b27)
          replace HX4 := hide (HX4.out.below b27)
          replace HX5 := hide (HX5.out.below b27)
          replace HX6 := hide (HX6.out.below b27)
          replace HX7 := hide (HX7.out.below b27)
          replace HX8 := hide (HX8.out.below b27)
          have HB27 := hide (HB26.out.trans (b27.mono HB26.out.size))
          clear b27 HB26
          have kc0 : w27.cell? ⟨w.heap.size, 0, none⟩ = some (.slice ao n cap) := by rw [HB27.out.cell HLT.out]; exact HC.out.1
          have kc1 : w27.cell? ⟨w.heap.size, 1, none⟩ = some (.slice bo m cap') := by rw [HB27.out.cell HLT.out]; exact HC.out.2.1
          have kc2 : w27.cell? ⟨w.heap.size, 2, none⟩ = some (.slice co l cap2) := by rw [HB27.out.cell HLT.out]; exact HC.out.2.2.1
          have kc3 : w27.cell? ⟨w.heap.size, 3, none⟩ = some (.int .i64 z) := by rw [HB27.out.cell HLT.out]; exact HC.out.2.2.2
          go_wp2_with fail
          refine (within_any a7 ao n7 c7 n cap X7 A _ HX7.out (HS.out.below HB27.out)).mono ?_
          rintro e w28 ⟨y28, rfl, hy28, b28⟩
          replace HX3 := hide (HX3.out.below b28)
          replace HX4 := hide (HX4.out.below b28)
          replace HX5 := hide (HX5.out.below b28)
          replace HX6 := hide (HX6.out.below b28)
          replace HX7 := hide (HX7.out.below b28)
          replace HX8 := hide (HX8.out.below b28)
          have HB28 := hide (HB27.out.trans (b28.mono HB27.out.size))
          obtain rfl : y28 = true := hy28.2 (fun x hx => ((HP7.out.2 x).1 hx).1)
          clear b28 HB27 hy28 kc0 kc1 kc2 kc3
          have kc0 : w28.cell? ⟨w.heap.size, 0, none⟩ = some (.slice ao n cap) := by rw [HB28.out.cell HLT.out]; exact HC.out.1
          have kc1 : w28.cell? ⟨w.heap.size, 1, none⟩ = some (.slice bo m cap') := by rw [HB28.out.cell HLT.out]; exact HC.out.2.1
          have kc2 : w28.cell? ⟨w.heap.size, 2, none⟩ = some (.slice co l cap2) := by rw [HB28.out.cell HLT.out]; exact HC.out.2.2.1
          have kc3 : w28.cell? ⟨w.heap.size, 3, none⟩ = some (.int .i64 z) := by rw [HB28.out.cell HLT.out]; exact HC.out.2.2.2
          go_wp2_with fail
          refine (within_any ao a6 n cap n6 c6 A X6 _ (HS.out.below HB28.out) HX6.out).mono ?_
          rintro e w29 ⟨y29, rfl, hy29, b29⟩
          replace HX3 := hide (HX3.out.below b29)
          replace HX4 := hide (HX4.out.below b29)
          replace HX5 := hide (HX5.out.below b29)
          replace HX6 := hide (HX6.out.below b29)
          replace HX7 := hide (HX7.out.below b29)
          replace HX8 := hide (HX8.out.below b29)
          have HB29 := hide (HB28.out.trans (b29.mono HB28.out.size))
          obtain rfl : y29 = true := hy29.2 (fun x hx => (HP6.out.2 x).2 (Or.inl hx))
          clear b29 HB28 hy29 kc0 kc1 kc2 kc3
          have HMN := hide (minus_nil HP8.out)
          rw [HX8.out.len] at HMN
          have kc0 : w29.cell? ⟨w.heap.size, 0, none⟩ = some (.slice ao n cap) := by rw [HB29.out.cell HLT.out]; exact HC.out.1
          have kc1 : w29.cell? ⟨w.heap.size, 1, none⟩ = some (.slice bo m cap') := by rw [HB29.out.cell HLT.out]; exact HC.out.2.1
          have kc2 : w29.cell? ⟨w.heap.size, 2, none⟩ = some (.slice co l cap2) := by rw [HB29.out.cell HLT.out]; exact HC.out.2.2.1
          have kc3 : w29.cell? ⟨w.heap.size, 3, none⟩ = some (.int .i64 z) := by rw [HB29.out.cell HLT.out]; exact HC.out.2.2.2
          go_wp2_with fail
          refine (within_any ao bo n cap m cap' A B _ (HS.out.below HB29.out) (HR.out.below HB29.out)).mono ?_
          rintro e w30 ⟨y30, rfl, hy30, b30⟩
          have HBF := hide (HBX.out.trans ((HB29.out.trans (b30.mono HB29.out.size)).mono HBX.out.size))
          have HYN : Hid (y30 = true ↔ n8 = 0) := Iff.trans hy30 HMN.out.symm
          clear b30 hy30 kc0 kc1 kc2 kc3
          by_cases hd0 : n8 = 0
          · obtain rfl : y30 = true := HYN.out.2 hd0
            subst hd0
            go_wp2_with fail
            go_ret
            exact ⟨rfl, HBF.out⟩
          · obtain rfl : y30 = false := by cases y30 with | false => rfl | true => exact absurd (HYN.out.1 rfl) hd0
            have hdz : ((n8 : Int) == 0) = false := by simp; omega
            clear hd0
            go_wp2_with fail
            go_ret
            exact ⟨rfl, HBF.out⟩
end Go.Proofs.Ythehbnfkobkciaa
