/- awake; SpanUnique's law. -/
import Derived.Test.YtahlchijgfillaaROs
namespace Go.Proofs.Ytahlchijgfillaa
open Go.RowKit
attribute [local go_sem ↓] ldR_eq stR_eq
attribute [local go_sem] zero_RC cells_RV RC_size fold_RC build_RC

theorem aw_norm : NormOf [⟨3, 5⟩, ⟨1, 2⟩] [⟨1, 5⟩] := by
  refine ⟨⟨by decide, by decide, by decide, trivial⟩, fun n => ?_⟩
  rw [mem_one, mem_cons, mem_one]
  simp only
  omega
set_option maxRecDepth 100000 in
set_option maxHeartbeats 1000000 in
theorem awake_any (w : World) : Calls Try.prog 7 #[] w fun e w' => e = .returned (.bool true) ∧ Below w.heap.size w w' := by
  go_enter Try.func7, Try.ntmps7
  go_wp2_with fail
  refine (norm_any _ 2 2 [⟨3, 5⟩, ⟨1, 2⟩] _ (lit_rsrc w [⟨3, 5⟩, ⟨1, 2⟩] _ rfl _ 2 rfl (by omega))).mono ?_
  rintro e w1 ⟨a1, n1, c1, X, rfl, S1, b1, p1⟩
  obtain rfl := p1.unique aw_norm
  obtain rfl : n1 = 1 := S1.len.symm
  have HB1 := hide ((below_new _ _).trans (b1.mono (below_new _ _).size))
  obtain ⟨ad, rfl, _⟩ := S1.at 0 (by omega)
  obtain ⟨b, o, rfl⟩ := S1.spot (by omega)
  obtain ⟨q0, q1⟩ := S1.nums 0 (by omega)
  have k0 : w1.cell? ⟨b, o, none⟩ = some (.int .i64 1) := by simpa using q0
  have k1 : w1.cell? ⟨b, o + 1, none⟩ = some (.int .i64 5) := by simpa using q1
  clear S1 b1 p1 q0 q1
  go_wp2_with fail
  go_ret
  exact ⟨rfl, HB1.out⟩
theorem nums_nil {A B R S : List Rn} {k l : Int} (h : MinusOf A B R) (h' : MinusOf B A S) (hk : SizeOf R k) (hl : SizeOf S l) : 0 ≤ k ∧ k ≤ 1000000000 ∧ 0 ≤ l ∧ l ≤ 1000000000 ∧ (k + l = 0 ↔ ∀ n, mem A n ↔ mem B n) := by
  obtain ⟨R', hR, rfl⟩ := hk
  obtain ⟨S', hS, rfl⟩ := hl
  obtain rfl := hR.unique (NormOf.self h.1)
  obtain rfl := hS.unique (NormOf.self h'.1)
  have z1 := sz_bd h.1
  have z2 := sz_bd h'.1
  have l1 : sz R' ≤ 1000000000 := by
    rcases z1.2.1 with e | e
    · rw [e]; simp [sz]
    · omega
  have l2 : sz S' ≤ 1000000000 := by
    rcases z2.2.1 with e | e
    · rw [e]; simp [sz]
    · omega
  refine ⟨z1.1, l1, z2.1, l2, ?_⟩
  constructor
  · intro e
    have e1 := z1.2.2 (by omega)
    have e2 := z2.2.2 (by omega)
    have f1 := (minus_nil h).1 (by rw [e1]; rfl)
    have f2 := (minus_nil h').1 (by rw [e2]; rfl)
    exact fun n => ⟨f1 n, f2 n⟩
  · intro e
    have f1 := List.eq_nil_of_length_eq_zero ((minus_nil h).2 (fun n hn => (e n).1 hn))
    have f2 := List.eq_nil_of_length_eq_zero ((minus_nil h').2 (fun n hn => (e n).2 hn))
    rw [f1, f2]; rfl
theorem norm_same {A B X Y : List Rn} (h : NormOf A X) (h' : NormOf B Y) : X = Y ↔ ∀ n, mem A n ↔ mem B n := by
  constructor
  · rintro rfl n
    exact (h.2 n).symm.trans (h'.2 n)
  · exact fun e => form_unique (Int.le_refl _) h.1 h'.1 (fun n => (h.2 n).trans ((e n).trans (h'.2 n).symm))
set_option maxRecDepth 100000 in
set_option maxHeartbeats 2000000 in
theorem unique_any (ao bo : Option Addr) (n cap m cap' : Nat) (A B : List Rn) (w : World) (hS : RSrc w ao n cap A) (hR : RSrc w bo m cap' B) :
    Calls Try.prog 4 #[.slice ao n cap, .slice bo m cap'] w fun e w' => e = .returned (.bool true) ∧ Below w.heap.size w w' := by
  have HS := hide hS
  have HR := hide hR
  clear hS hR
  go_enter Try.func4, Try.ntmps4
  go_wp2_with fail
  refine (awake_any _).mono ?_
  rintro e w1 ⟨rfl, b1⟩
  have HB1 := hide b1
  clear b1
  go_wp2_with fail
  refine (norm_any ao n cap A _ (HS.out.below HB1.out)).mono ?_
  rintro e w2 ⟨a2, n2, c2, X, rfl, S2, b2, p2⟩
  have HX2 := hide S2
  have HPX := hide p2
  have HB2 := hide (HB1.out.trans (b2.mono HB1.out.size))
  clear S2 b2 p2 HB1
  go_wp2_with fail
  refine (norm_any bo m cap' B _ (HR.out.below HB2.out)).mono ?_
  rintro e w3 ⟨a3, n3, c3, Y, rfl, S3, b3, p3⟩
  have HY3 := hide S3
  have HPY := hide p3
  have HX3 := hide (HX2.out.below b3)
  have HB3 := hide (HB2.out.trans (b3.mono HB2.out.size))
  clear S3 b3 p3 HB2 HX2
  go_wp2_with fail
  refine (isNorm_any a2 n2 c2 X _ HX3.out).mono ?_
  rintro e w4 ⟨rfl, b4⟩
  have e4 := (isForm_iff X 1).2 HPX.out.1
  have HX4 := hide (HX3.out.below b4)
  have HY4 := hide (HY3.out.below b4)
  have HB4 := hide (HB3.out.trans (b4.mono HB3.out.size))
  clear b4 HB3 HX3 HY3
  rw [e4]
  clear e4
  go_wp2_with fail
  refine (norm_any a2 n2 c2 X _ HX4.out).mono ?_
  rintro e w5 ⟨a5, n5, c5, Z, rfl, S5, b5, p5⟩
  obtain rfl := p5.unique (NormOf.self HPX.out.1)
  have HZ5 := hide S5
  have HX5 := hide (HX4.out.below b5)
  have HY5 := hide (HY4.out.below b5)
  have HB5 := hide (HB4.out.trans (b5.mono HB4.out.size))
  clear S5 b5 p5 HB4 HX4 HY4
  go_wp2_with fail
  refine (equal_any a5 a2 n5 c5 n2 c2 Z Z _ HZ5.out HX5.out).mono ?_
  rintro e w6 ⟨rfl, b6⟩
  have HX6 := hide (HX5.out.below b6)
  have HY6 := hide (HY5.out.below b6)
  have HB6 := hide (HB5.out.trans (b6.mono HB5.out.size))
  clear b6 HB5 HX5 HY5 HZ5
  rw [decide_eq_true (rfl : Z = Z)]
  go_wp2_with fail
  refine (isNorm_any ao n cap A _ (HS.out.below HB6.out)).mono ?_
  rintro e w7 ⟨rfl, b7⟩
  have HX7 := hide (HX6.out.below b7)
  have HY7 := hide (HY6.out.below b7)
  have HB7 := hide (HB6.out.trans (b7.mono HB6.out.size))
  clear b7 HB6 HX6 HY6
  cases hf : isForm 1 A with
  | true =>
    obtain rfl := HPX.out.unique (NormOf.self ((isForm_iff A 1).1 hf))
    clear hf
    go_wp2_with fail
    refine (equal_any a2 ao n2 c2 n cap Z Z _ HX7.out (HS.out.below HB7.out)).mono ?_
    rintro e w70 ⟨rfl, b7⟩
    rw [decide_eq_true (rfl : Z = Z)]
    replace HX7 := hide (HX7.out.below b7)
    replace HY7 := hide (HY7.out.below b7)
    replace HB7 := hide (HB7.out.trans (b7.mono HB7.out.size))
    clear b7
    go_wp2_with fail
    refine (equal_any a2 a3 n2 c2 n3 c3 Z Y _ HX7.out HY7.out).mono ?_
    rintro e w8 ⟨rfl, b8⟩
    have HB8 := hide (HB7.out.trans (b8.mono HB7.out.size))
    clear b8 HB7 HX7 HY7
    go_wp2_with fail
    refine (minus_any ao bo n cap m cap' Z B _ (HS.out.below HB8.out) (HR.out.below HB8.out)).mono ?_
    rintro e w9 ⟨a9, n9, c9, R1, rfl, S9, b9, p9⟩
    have HM1 := hide p9
    have HB9 := hide (HB8.out.trans (b9.mono HB8.out.size))
    have HS9 := hide S9
    clear S9 b9 p9 HB8
    go_wp2_with fail
    refine (size_any a9 n9 c9 R1 _ HS9.out).mono ?_
    rintro e w10 ⟨k1, rfl, z1, b10⟩
    have HZ1 := hide z1
    have HB10 := hide (HB9.out.trans (b10.mono HB9.out.size))
    clear b10 z1 HB9 HS9
    go_wp2_with fail
    refine (minus_any bo ao m cap' n cap B Z _ (HR.out.below HB10.out) (HS.out.below HB10.out)).mono ?_
    rintro e w11 ⟨a11, n11, c11, R2, rfl, S11, b11, p11⟩
    have HM2 := hide p11
    have HB11 := hide (HB10.out.trans (b11.mono HB10.out.size))
    have HS11 := hide S11
    clear S11 b11 p11 HB10
    go_wp2_with fail
    refine (size_any a11 n11 c11 R2 _ HS11.out).mono ?_
    rintro e w12 ⟨k2, rfl, z2, b12⟩
    obtain ⟨g1, g2, g3, g4, g5⟩ := nums_nil HM1.out HM2.out HZ1.out z2
    have HG := hide g5
    have HB12 := hide (HB11.out.trans (b12.mono HB11.out.size))
    have hw : IntKind.i64.wrap (k1 + k2) = k1 + k2 := by rw [IntKind.wrap_i64]; omega
    clear b12 z2 HB11 HS11 HZ1 HM1 HM2 g5
    go_wp2_with fail
    refine (order_any ao bo n cap m cap' Z B _ (HS.out.below HB12.out) (HR.out.below HB12.out)).mono ?_
    rintro e w13 ⟨k3, rfl, o3, b13⟩
    have HB13 := hide (HB12.out.trans (b13.mono HB12.out.size))
    have HO := hide o3
    clear b13 o3 HB12
    by_cases hs : ∀ n, mem Z n ↔ mem B n
    · have e1 : k1 + k2 = 0 := HG.out.2 hs
      obtain rfl : k3 = 0 := HO.out.2 hs
      have e2 : decide (Z = Y) = true := decide_eq_true ((norm_same HPX.out HPY.out).2 hs)
      rw [e1] at hw
      rw [e2]
      clear e2 hs
      go_wp2_with fail
      go_ret
      exact ⟨rfl, HB13.out⟩
    · have e1 : ¬ k1 + k2 = 0 := fun h => hs (HG.out.1 h)
      have e3 : ¬ k3 = 0 := fun h => hs (HO.out.1 h)
      have d1 : (k1 + k2 == 0) = false := by simpa using e1
      have d3 : (k3 == 0) = false := by simpa using e3
      have e2 : decide (Z = Y) = false := decide_eq_false (fun h => hs ((norm_same HPX.out HPY.out).1 h))
      rw [e2]
      clear e2 hs e1 e3
      go_wp2_with fail
      go_ret
      exact ⟨rfl, HB13.out⟩
  | false =>
    clear hf
    go_wp2_with fail
    refine (equal_any a2 a3 n2 c2 n3 c3 Z Y _ HX7.out HY7.out).mono ?_
    rintro e w8 ⟨rfl, b8⟩
    have HB8 := hide (HB7.out.trans (b8.mono HB7.out.size))
    clear b8 HB7 HX7 HY7
    go_wp2_with fail
    refine (minus_any ao bo n cap m cap' A B _ (HS.out.below HB8.out) (HR.out.below HB8.out)).mono ?_
    rintro e w9 ⟨a9, n9, c9, R1, rfl, S9, b9, p9⟩
    have HM1 := hide p9
    have HB9 := hide (HB8.out.trans (b9.mono HB8.out.size))
    have HS9 := hide S9
    clear S9 b9 p9 HB8
    go_wp2_with fail
    refine (size_any a9 n9 c9 R1 _ HS9.out).mono ?_
    rintro e w10 ⟨k1, rfl, z1, b10⟩
    have HZ1 := hide z1
    have HB10 := hide (HB9.out.trans (b10.mono HB9.out.size))
    clear b10 z1 HB9 HS9
    go_wp2_with fail
    refine (minus_any bo ao m cap' n cap B A _ (HR.out.below HB10.out) (HS.out.below HB10.out)).mono ?_
    rintro e w11 ⟨a11, n11, c11, R2, rfl, S11, b11, p11⟩
    have HM2 := hide p11
    have HB11 := hide (HB10.out.trans (b11.mono HB10.out.size))
    have HS11 := hide S11
    clear S11 b11 p11 HB10
    go_wp2_with fail
    refine (size_any a11 n11 c11 R2 _ HS11.out).mono ?_
    rintro e w12 ⟨k2, rfl, z2, b12⟩
    obtain ⟨g1, g2, g3, g4, g5⟩ := nums_nil HM1.out HM2.out HZ1.out z2
    have HG := hide g5
    have HB12 := hide (HB11.out.trans (b12.mono HB11.out.size))
    have hw : IntKind.i64.wrap (k1 + k2) = k1 + k2 := by rw [IntKind.wrap_i64]; omega
    clear b12 z2 HB11 HS11 HZ1 HM1 HM2 g5
    go_wp2_with fail
    refine (order_any ao bo n cap m cap' A B _ (HS.out.below HB12.out) (HR.out.below HB12.out)).mono ?_
    rintro e w13 ⟨k3, rfl, o3, b13⟩
    have HB13 := hide (HB12.out.trans (b13.mono HB12.out.size))
    have HO := hide o3
    clear b13 o3 HB12
    by_cases hs : ∀ n, mem A n ↔ mem B n
    · have e1 : k1 + k2 = 0 := HG.out.2 hs
      obtain rfl : k3 = 0 := HO.out.2 hs
      have e2 : decide (Z = Y) = true := decide_eq_true ((norm_same HPX.out HPY.out).2 hs)
      rw [e1] at hw
      rw [e2]
      clear e2 hs
      go_wp2_with fail
      go_ret
      exact ⟨rfl, HB13.out⟩
    · have e1 : ¬ k1 + k2 = 0 := fun h => hs (HG.out.1 h)
      have e3 : ¬ k3 = 0 := fun h => hs (HO.out.1 h)
      have d1 : (k1 + k2 == 0) = false := by simpa using e1
      have d3 : (k3 == 0) = false := by simpa using e3
      have e2 : decide (Z = Y) = false := decide_eq_false (fun h => hs ((norm_same HPX.out HPY.out).1 h))
      rw [e2]
      clear e2 hs e1 e3
      go_wp2_with fail
      go_ret
      exact ⟨rfl, HB13.out⟩
end Go.Proofs.Ytahlchijgfillaa
