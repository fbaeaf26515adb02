/- LinesSettles: the law's walk. -/
import Derived.Test.YtmhdhedjeaaciaaLSp
import Derived.Test.YtmhdhedjeaaciaaLAw
import Derived.Test.YtmhdhedjeaaciaaLSame
namespace Go.Proofs.Ytmhdhedjeaaciaa
open Go.RowKit Go.Lib
attribute [local go_sem ↓] ld28_eq st28_eq
attribute [local go_sem] zero_EC cells_EV EC_size

theorem ESrc.take {w : World} {ad : Addr} {m c : Nat} {L : List En} (h : ESrc w (some ad) m c L) (k : Nat) (hk : k ≤ m) : ESrc w (some ad) k c (L.take k) := by
  refine ⟨by rw [List.length_take, h.1]; omega, (fun e => by cases e), fun ad' ha t ht => ?_, fun e he => h.2.2.2.1 e (List.mem_of_mem_take he), by have := h.2.2.2.2; omega⟩
  obtain rfl := Option.some.inj ha
  have := h.2.2.1 ad rfl t (by omega)
  rwa [show (L.take k).getD t en0 = L.getD t en0 by simp [List.getD, ht]]
theorem ESrc.zero (w : World) (ad : Addr) (c : Nat) (L : List En) (h : L = []) : ESrc w (some ad) 0 c L := by
  subst h
  exact ⟨rfl, fun e => (by cases e), (fun ad h t ht => absurd ht (by omega)), (fun e he => by cases he), by omega⟩
theorem ESrc.drop {w : World} {ad : Addr} {m c : Nat} {L : List En} (h : ESrc w (some ad) m c L) (k : Nat) (hk : k ≤ m) : ESrc w (some (ad.add (k * 4))) (m - k) (c - k) (L.drop k) := by
  refine ⟨by rw [List.length_drop, h.1], fun e => (by cases e), fun ad' ha t ht => ?_, fun e he => h.2.2.2.1 e (List.mem_of_mem_drop he), by have := h.2.2.2.2; omega⟩
  obtain rfl := Option.some.inj ha
  have := h.2.2.1 ad rfl (k + t) (by omega)
  rw [add_add, ← Nat.add_mul]
  rwa [show (L.drop k).getD t en0 = L.getD (k + t) en0 by simp [List.getD, List.getElem?_drop]]
set_option maxRecDepth 100000 in
set_option maxHeartbeats 16000000 in
theorem settles_nil (L : List En) (z : Int) (w : World) (hS : ESrc w none 0 0 L) :
    Calls Try.prog 6 #[.slice none 0 0, .int .i64 z] w fun y w' => y = .returned (.bool true) ∧ Below w.heap.size w w' := by
  have HS := hide hS
  have HL : Hid (L.length = 0) := hS.1
  have HNL : Hid (L = []) := List.eq_nil_of_length_eq_zero hS.1
  have hw1 : IntKind.i64.wrap ((0 : Int) - 1) = -1 := by rw [IntKind.wrap_i64]; omega
  clear hS
  go_enter Try.func6, Try.ntmps6
  go_wp2_with fail
  refine (awake_any _).mono ?_
  rintro y w1 ⟨rfl, b1⟩
  have B1 := hide b1
  clear b1
  go_wp2_with fail
  refine (sort_any none 0 0 L _ (HS.out.below B1.out)).mono ?_
  rintro y w2 ⟨a2, n2, c2, R, er, rfl, S2, b2, f2, t2⟩
  have HS2 := hide S2
  have HT2 := hide t2
  have B2 := hide (B1.out.trans (b2.mono B1.out.size))
  have HSL := hide (HS.out.below B2.out)
  clear S2 b2 f2 t2 B1
  go_wp2_with fail
  go_loopw [7, 8] (fun v i wr => ∃ (j : Nat) (ap : Option Addr) (c : Nat), j ≤ 0 ∧ v = .slice ap (0 - j) c ∧ i = .int .i64 ((j : Int) - 1) ∧ Hid (OwnE w2.heap.size w2.heap.size w2 wr ap c (L.drop j).reverse)) (fun _ i _ => (intOf i + 1).toNat)
  case atStart => exact ⟨0, none, 0, Nat.le_refl _, by simp, rfl, by rw [List.drop_eq_nil_of_le (by rw [HL.out]; exact Nat.le_refl _)]; exact OwnE.nil (Below.refl _ _) (Nat.le_refl _) (Nat.le_refl _)⟩
  case round =>
    obtain ⟨j, ap, c, hj, rfl, rfl, HO⟩ := hrel
    cases j with
    | succ j =>
      exact absurd hj (by omega)
    | zero =>
      have HO6 := HO
      rw [List.drop_zero] at HO6
      clear HO hj
      have HW3 := hide HO6.out.below
      by_cases her : er = 0
      · subst her
        obtain ⟨hce, hcl, hasc, hmem⟩ := sorted_zero HT2.out rfl
        have HCE := hide hce
        have HCL := hide hcl
        have HASC := hide hasc
        have HMEM := hide hmem
        have HCR : Hid (∀ e ∈ R, ceE e = 0) := fun e he => hce e ((hmem e).1 he)
        have hck : chk R = 0 := chk_asc hasc HCR.out
        have HUN := hide (sorted_mk HCR.out (asc_noclash hasc (fun _ => Iff.rfl)) hasc (fun _ => Iff.rfl))
        clear hce hcl hasc hmem HT2
        go_wp2_with fail
        refine (lcheck_any a2 n2 c2 R _ (HS2.out.below HW3.out)).mono ?_
        rintro y w4 ⟨rfl, b4⟩
        rw [hck]
        have HO4 := hide (HO6.out.later b4)
        have HW4 := hide (HW3.out.trans (b4.mono HW3.out.size))
        clear b4 hck HO6 HW3
        go_wp2_with fail
        refine (sort_any a2 n2 c2 R _ (HS2.out.below HW4.out)).mono ?_
        rintro y w5 ⟨a5, n5, c5, R5, er5, rfl, S5, b5, f5, t5⟩
        obtain ⟨h5, h5'⟩ := t5.unique HUN.out
        obtain rfl := h5.symm
        subst h5'
        have HS5 := hide S5
        have HO5 := hide (HO4.out.later b5)
        have HW5 := hide (HW4.out.trans (b5.mono HW4.out.size))
        clear S5 b5 f5 t5 HO4 HW4 HUN
        go_wp2_with fail
        refine (same_any a5 a2 n5 c5 n2 c2 _ _ _ HS5.out (HS2.out.below HW5.out) rfl).mono ?_
        rintro y w6 ⟨rfl, b6⟩
        have HO6 := hide (HO5.out.later b6)
        have HW6 := hide (HW5.out.trans (b6.mono HW5.out.size))
        clear b6 HS5 HO5 HW5
        rcases (show z < 0 ∨ z = 0 ∨ 0 < z by omega) with hz | hz | hz
        · have g1 : decide (0 < z) = false := by simp; omega
          have g2 : decide (z < 0) = true := by simpa using hz
          clear hz
          have HSB := hide (HO6.out.src (fun x hx => HS.out.2.2.2.1 x (by simpa using hx)) (by rw [List.length_reverse, HL.out]; omega)).1
          have HBM : Hid (∀ x, x ∈ L.reverse ↔ x ∈ L) := fun x => List.mem_reverse
          have HW7 := hide HO6.out.below
          have hbl : L.reverse.length = 0 := by simp [HL.out]
          rw [hbl] at HSB
          clear HO6 HW6
          go_wp2_with fail
          refine (sort_any ap 0 c L.reverse _ HSB.out).mono ?_
          rintro y w8 ⟨a8, n8, c8, R8, er8, rfl, S8, b8, f8, t8⟩
          obtain ⟨h8, h8'⟩ := t8.unique (sorted_mk (fun e he => HCE.out e ((HBM.out e).1 he)) (fun h => HCL.out (h.sub (fun x hx => (HBM.out x).1 hx))) HASC.out (fun x => (HMEM.out x).trans (HBM.out x).symm))
          obtain rfl := h8.symm
          subst h8'
          have HW8 := hide (HW7.out.trans (b8.mono HW7.out.size))
          have HS8 := hide S8
          clear S8 b8 f8 t8 HW7 HSB hbl
          go_wp2_with fail
          refine (same_any a8 a2 n8 c8 n2 c2 _ _ _ HS8.out (HS2.out.below HW8.out) rfl).mono ?_
          rintro y w9 ⟨rfl, b9⟩
          have HW9 := hide (HW8.out.trans (b9.mono HW8.out.size))
          clear b9 HW8 HS8
          go_wp2_with fail
          refine (sort_any none 0 0 [] _ (ESrc.none _)).mono ?_
          rintro y w10 ⟨a10, n10, c10, X, er10, rfl, S10, b10, f10, t10⟩
          obtain ⟨h10, ax, mx⟩ := sorted_good (fun e he => HCE.out e (by cases he)) (fun h => HCL.out (h.sub (fun x hx => by cases hx))) t10
          subst h10
          have HAX := hide ax
          have HMX := hide mx
          have HS10 := hide S10
          have HW10 := hide (HW9.out.trans (b10.mono HW9.out.size))
          clear S10 b10 f10 t10 ax mx HW9
          go_wp2_with fail
          refine (sort_any none 0 0 [] _ (ESrc.none _)).mono ?_
          rintro y w11 ⟨a11, n11, c11, Y, er11, rfl, S11, b11, f11, t11⟩
          obtain ⟨h11, ay, my⟩ := sorted_good (fun e he => HCE.out e (by cases he)) (fun h => HCL.out (h.sub (fun x hx => by cases hx))) t11
          subst h11
          have HXY : Hid (∀ x, x ∈ R ↔ x ∈ X ∨ x ∈ Y) := fun x => by
            rw [HMEM.out x, HMX.out x, my x, HNL.out]; simp
          have HAY := hide ay
          have HS11 := hide S11
          have HS10' := hide (HS10.out.below b11)
          have HW11 := hide (HW10.out.trans (b11.mono HW10.out.size))
          clear S11 b11 f11 t11 ay my HW10 HS10 HMX
          go_wp2_with fail
          refine (union_any a10 a11 n10 c10 n11 c11 X Y _ HS10'.out HS11.out).mono ?_
          rintro y w12 ⟨a12, n12, c12, U, er12, rfl, S12, b12, t12⟩
          obtain ⟨h12, hU⟩ := union_of HAX.out HAY.out HCR.out HASC.out HXY.out t12
          subst h12
          obtain rfl := hU.symm
          have HS12 := hide S12
          have HSX := hide (HS10'.out.below b12)
          have HSY := hide (HS11.out.below b12)
          have HW12 := hide (HW11.out.trans (b12.mono HW11.out.size))
          clear S12 b12 t12 HW11 HS10' HS11
          go_wp2_with fail
          refine (union_any a11 a10 n11 c11 n10 c10 Y X _ HSY.out HSX.out).mono ?_
          rintro y w13 ⟨a13, n13, c13, V, er13, rfl, S13, b13, t13⟩
          obtain ⟨h13, hV⟩ := union_of HAY.out HAX.out HCR.out HASC.out (fun x => (HXY.out x).trans Or.comm) t13
          subst h13
          obtain rfl := hV.symm
          have HS13 := hide S13
          have HS12' := hide (HS12.out.below b13)
          have HW13 := hide (HW12.out.trans (b13.mono HW12.out.size))
          clear S13 b13 t13 HW12 HS12 HSX HSY
          go_wp2_with fail
          refine (same_any a12 a2 n12 c12 n2 c2 _ _ _ HS12'.out (HS2.out.below HW13.out) rfl).mono ?_
          rintro y w14 ⟨rfl, b14⟩
          have HW14 := hide (HW13.out.trans (b14.mono HW13.out.size))
          have HS13' := hide (HS13.out.below b14)
          clear b14 HW13 HS12' HS13
          go_wp2_with fail
          refine (same_any a13 a2 n13 c13 n2 c2 _ _ _ HS13'.out (HS2.out.below HW14.out) rfl).mono ?_
          rintro y w15 ⟨rfl, b15⟩
          have HW15 := hide (B2.out.trans ((HW14.out.trans (b15.mono HW14.out.size)).mono B2.out.size))
          clear b15 HW14 HS13'
          go_wp2_with fail
          go_ret
          exact ⟨rfl, HW15.out⟩
        · subst hz
          have HSB := hide (HO6.out.src (fun x hx => HS.out.2.2.2.1 x (by simpa using hx)) (by rw [List.length_reverse, HL.out]; omega)).1
          have HBM : Hid (∀ x, x ∈ L.reverse ↔ x ∈ L) := fun x => List.mem_reverse
          have HW7 := hide HO6.out.below
          have hbl : L.reverse.length = 0 := by simp [HL.out]
          rw [hbl] at HSB
          clear HO6 HW6
          go_wp2_with fail
          refine (sort_any ap 0 c L.reverse _ HSB.out).mono ?_
          rintro y w8 ⟨a8, n8, c8, R8, er8, rfl, S8, b8, f8, t8⟩
          obtain ⟨h8, h8'⟩ := t8.unique (sorted_mk (fun e he => HCE.out e ((HBM.out e).1 he)) (fun h => HCL.out (h.sub (fun x hx => (HBM.out x).1 hx))) HASC.out (fun x => (HMEM.out x).trans (HBM.out x).symm))
          obtain rfl := h8.symm
          subst h8'
          have HW8 := hide (HW7.out.trans (b8.mono HW7.out.size))
          have HS8 := hide S8
          clear S8 b8 f8 t8 HW7 HSB hbl
          go_wp2_with fail
          refine (same_any a8 a2 n8 c8 n2 c2 _ _ _ HS8.out (HS2.out.below HW8.out) rfl).mono ?_
          rintro y w9 ⟨rfl, b9⟩
          have HW9 := hide (HW8.out.trans (b9.mono HW8.out.size))
          clear b9 HW8 HS8
          go_wp2_with fail
          refine (sort_any none 0 0 [] _ (ESrc.none _)).mono ?_
          rintro y w10 ⟨a10, n10, c10, X, er10, rfl, S10, b10, f10, t10⟩
          obtain ⟨h10, ax, mx⟩ := sorted_good (fun e he => HCE.out e (by cases he)) (fun h => HCL.out (h.sub (fun x hx => by cases hx))) t10
          subst h10
          have HAX := hide ax
          have HMX := hide mx
          have HS10 := hide S10
          have HW10 := hide (HW9.out.trans (b10.mono HW9.out.size))
          clear S10 b10 f10 t10 ax mx HW9
          go_wp2_with fail
          refine (sort_any none 0 0 [] _ (ESrc.none _)).mono ?_
          rintro y w11 ⟨a11, n11, c11, Y, er11, rfl, S11, b11, f11, t11⟩
          obtain ⟨h11, ay, my⟩ := sorted_good (fun e he => HCE.out e (by cases he)) (fun h => HCL.out (h.sub (fun x hx => by cases hx))) t11
          subst h11
          have HXY : Hid (∀ x, x ∈ R ↔ x ∈ X ∨ x ∈ Y) := fun x => by
            rw [HMEM.out x, HMX.out x, my x, HNL.out]; simp
          have HAY := hide ay
          have HS11 := hide S11
          have HS10' := hide (HS10.out.below b11)
          have HW11 := hide (HW10.out.trans (b11.mono HW10.out.size))
          clear S11 b11 f11 t11 ay my HW10 HS10 HMX
          go_wp2_with fail
          refine (union_any a10 a11 n10 c10 n11 c11 X Y _ HS10'.out HS11.out).mono ?_
          rintro y w12 ⟨a12, n12, c12, U, er12, rfl, S12, b12, t12⟩
          obtain ⟨h12, hU⟩ := union_of HAX.out HAY.out HCR.out HASC.out HXY.out t12
          subst h12
          obtain rfl := hU.symm
          have HS12 := hide S12
          have HSX := hide (HS10'.out.below b12)
          have HSY := hide (HS11.out.below b12)
          have HW12 := hide (HW11.out.trans (b12.mono HW11.out.size))
          clear S12 b12 t12 HW11 HS10' HS11
          go_wp2_with fail
          refine (union_any a11 a10 n11 c11 n10 c10 Y X _ HSY.out HSX.out).mono ?_
          rintro y w13 ⟨a13, n13, c13, V, er13, rfl, S13, b13, t13⟩
          obtain ⟨h13, hV⟩ := union_of HAY.out HAX.out HCR.out HASC.out (fun x => (HXY.out x).trans Or.comm) t13
          subst h13
          obtain rfl := hV.symm
          have HS13 := hide S13
          have HS12' := hide (HS12.out.below b13)
          have HW13 := hide (HW12.out.trans (b13.mono HW12.out.size))
          clear S13 b13 t13 HW12 HS12 HSX HSY
          go_wp2_with fail
          refine (same_any a12 a2 n12 c12 n2 c2 _ _ _ HS12'.out (HS2.out.below HW13.out) rfl).mono ?_
          rintro y w14 ⟨rfl, b14⟩
          have HW14 := hide (HW13.out.trans (b14.mono HW13.out.size))
          have HS13' := hide (HS13.out.below b14)
          clear b14 HW13 HS12' HS13
          go_wp2_with fail
          refine (same_any a13 a2 n13 c13 n2 c2 _ _ _ HS13'.out (HS2.out.below HW14.out) rfl).mono ?_
          rintro y w15 ⟨rfl, b15⟩
          have HW15 := hide (B2.out.trans ((HW14.out.trans (b15.mono HW14.out.size)).mono B2.out.size))
          clear b15 HW14 HS13'
          go_wp2_with fail
          go_ret
          exact ⟨rfl, HW15.out⟩
        · have g1 : decide (0 < z) = true := by simp; omega
          have g2 : decide (z < 0) = false := by simp; omega
          have g3 : decide (z < 0) = false := by simp; omega
          have HSB := hide (HO6.out.src (fun x hx => HS.out.2.2.2.1 x (by simpa using hx)) (by rw [List.length_reverse, HL.out]; omega)).1
          have HBM : Hid (∀ x, x ∈ L.reverse ↔ x ∈ L) := fun x => List.mem_reverse
          have HW7 := hide HO6.out.below
          have hbl : L.reverse.length = 0 := by simp [HL.out]
          rw [hbl] at HSB
          clear HO6 HW6
          go_wp2_with fail
          refine (sort_any ap 0 c L.reverse _ HSB.out).mono ?_
          rintro y w8 ⟨a8, n8, c8, R8, er8, rfl, S8, b8, f8, t8⟩
          obtain ⟨h8, h8'⟩ := t8.unique (sorted_mk (fun e he => HCE.out e ((HBM.out e).1 he)) (fun h => HCL.out (h.sub (fun x hx => (HBM.out x).1 hx))) HASC.out (fun x => (HMEM.out x).trans (HBM.out x).symm))
          obtain rfl := h8.symm
          subst h8'
          have HW8 := hide (HW7.out.trans (b8.mono HW7.out.size))
          have HS8 := hide S8
          clear S8 b8 f8 t8 HW7 HSB hbl
          go_wp2_with fail
          refine (same_any a8 a2 n8 c8 n2 c2 _ _ _ HS8.out (HS2.out.below HW8.out) rfl).mono ?_
          rintro y w9 ⟨rfl, b9⟩
          have HW9 := hide (HW8.out.trans (b9.mono HW8.out.size))
          clear b9 HW8 HS8
          go_wp2_with fail
          refine (sort_any none 0 0 [] _ (ESrc.none _)).mono ?_
          rintro y w10 ⟨a10, n10, c10, X, er10, rfl, S10, b10, f10, t10⟩
          obtain ⟨h10, ax, mx⟩ := sorted_good (fun e he => HCE.out e (by cases he)) (fun h => HCL.out (h.sub (fun x hx => by cases hx))) t10
          subst h10
          have HAX := hide ax
          have HMX := hide mx
          have HS10 := hide S10
          have HW10 := hide (HW9.out.trans (b10.mono HW9.out.size))
          clear S10 b10 f10 t10 ax mx HW9
          go_wp2_with fail
          refine (sort_any none 0 0 [] _ (ESrc.none _)).mono ?_
          rintro y w11 ⟨a11, n11, c11, Y, er11, rfl, S11, b11, f11, t11⟩
          obtain ⟨h11, ay, my⟩ := sorted_good (fun e he => HCE.out e (by cases he)) (fun h => HCL.out (h.sub (fun x hx => by cases hx))) t11
          subst h11
          have HXY : Hid (∀ x, x ∈ R ↔ x ∈ X ∨ x ∈ Y) := fun x => by
            rw [HMEM.out x, HMX.out x, my x, HNL.out]; simp
          have HAY := hide ay
          have HS11 := hide S11
          have HS10' := hide (HS10.out.below b11)
          have HW11 := hide (HW10.out.trans (b11.mono HW10.out.size))
          clear S11 b11 f11 t11 ay my HW10 HS10 HMX
          go_wp2_with fail
          refine (union_any a10 a11 n10 c10 n11 c11 X Y _ HS10'.out HS11.out).mono ?_
          rintro y w12 ⟨a12, n12, c12, U, er12, rfl, S12, b12, t12⟩
          obtain ⟨h12, hU⟩ := union_of HAX.out HAY.out HCR.out HASC.out HXY.out t12
          subst h12
          obtain rfl := hU.symm
          have HS12 := hide S12
          have HSX := hide (HS10'.out.below b12)
          have HSY := hide (HS11.out.below b12)
          have HW12 := hide (HW11.out.trans (b12.mono HW11.out.size))
          clear S12 b12 t12 HW11 HS10' HS11
          go_wp2_with fail
          refine (union_any a11 a10 n11 c11 n10 c10 Y X _ HSY.out HSX.out).mono ?_
          rintro y w13 ⟨a13, n13, c13, V, er13, rfl, S13, b13, t13⟩
          obtain ⟨h13, hV⟩ := union_of HAY.out HAX.out HCR.out HASC.out (fun x => (HXY.out x).trans Or.comm) t13
          subst h13
          obtain rfl := hV.symm
          have HS13 := hide S13
          have HS12' := hide (HS12.out.below b13)
          have HW13 := hide (HW12.out.trans (b13.mono HW12.out.size))
          clear S13 b13 t13 HW12 HS12 HSX HSY
          go_wp2_with fail
          refine (same_any a12 a2 n12 c12 n2 c2 _ _ _ HS12'.out (HS2.out.below HW13.out) rfl).mono ?_
          rintro y w14 ⟨rfl, b14⟩
          have HW14 := hide (HW13.out.trans (b14.mono HW13.out.size))
          have HS13' := hide (HS13.out.below b14)
          clear b14 HW13 HS12' HS13
          go_wp2_with fail
          refine (same_any a13 a2 n13 c13 n2 c2 _ _ _ HS13'.out (HS2.out.below HW14.out) rfl).mono ?_
          rintro y w15 ⟨rfl, b15⟩
          have HW15 := hide (B2.out.trans ((HW14.out.trans (b15.mono HW14.out.size)).mono B2.out.size))
          clear b15 HW14 HS13'
          go_wp2_with fail
          go_ret
          exact ⟨rfl, HW15.out⟩
      · have hR := sorted_none HT2.out her
        have hn2 : n2 = 0 := by have := HS2.out.1; rw [hR] at this; exact this.symm
        subst hn2
        have he : (er != 0) = true := by simpa using her
        have HW := hide (B2.out.trans (HW3.out.mono B2.out.size))
        clear her hR
        go_wp2_with fail
        go_ret
        exact ⟨rfl, HW.out⟩
set_option maxRecDepth 100000 in
set_option maxHeartbeats 16000000 in
theorem settles_some (ad : Addr) (n cap : Nat) (L : List En) (z : Int) (w : World) (hS : ESrc w (some ad) n cap L) (hcap : n ≤ cap) (hn : n ≤ 3518437208780) :
    Calls Try.prog 6 #[.slice (some ad) n cap, .int .i64 z] w fun y w' => y = .returned (.bool true) ∧ Below w.heap.size w w' := by
  have HS := hide hS
  have HL : Hid (L.length = n) := hS.1
  have hw1 : IntKind.i64.wrap ((n : Int) - 1) = (n : Int) - 1 := by rw [IntKind.wrap_i64]; omega
  clear hS
  go_enter Try.func6, Try.ntmps6
  go_wp2_with fail
  refine (awake_any _).mono ?_
  rintro y w1 ⟨rfl, b1⟩
  have B1 := hide b1
  clear b1
  go_wp2_with fail
  refine (sort_any (some ad) n cap L _ (HS.out.below B1.out)).mono ?_
  rintro y w2 ⟨a2, n2, c2, R, er, rfl, S2, b2, f2, t2⟩
  have HS2 := hide S2
  have HT2 := hide t2
  have B2 := hide (B1.out.trans (b2.mono B1.out.size))
  have HSL := hide (HS.out.below B2.out)
  clear S2 b2 f2 t2 B1
  go_wp2_with fail
  go_loopw [7, 8] (fun v i wr => ∃ (j : Nat) (ap : Option Addr) (c : Nat), j ≤ n ∧ v = .slice ap (n - j) c ∧ i = .int .i64 ((j : Int) - 1) ∧ Hid (OwnE w2.heap.size w2.heap.size w2 wr ap c (L.drop j).reverse)) (fun _ i _ => (intOf i + 1).toNat)
  case atStart => exact ⟨n, none, 0, Nat.le_refl _, by simp, rfl, by rw [List.drop_eq_nil_of_le (by rw [HL.out]; exact Nat.le_refl _)]; exact OwnE.nil (Below.refl _ _) (Nat.le_refl _) (Nat.le_refl _)⟩
  case round =>
    obtain ⟨j, ap, c, hj, rfl, rfl, HO⟩ := hrel
    cases j with
    | succ j =>
      have hji : ((j + 1 : Nat) : Int) - 1 = (j : Int) := by omega
      rw [hji]
      obtain ⟨_, e0, A0⟩ := (HSL.out.below HO.out.below).at j (by omega)
      obtain rfl := Option.some.inj e0
      have hld := run_ld28 A0
      have HD : Hid (L.drop j = L.getD j en0 :: L.drop (j + 1)) := by show _ = _; rw [List.drop_eq_getElem_cons (by rw [HL.out]; omega)]; simp [List.getD, HL.out, show j < n by omega]
      obtain ⟨e, He⟩ : ∃ e, Hid (L.getD j en0 = e) := ⟨_, rfl⟩
      rw [He.out] at hld A0 HD
      have HN : Hid ((L.drop j).reverse = (L.drop (j + 1)).reverse ++ [e]) := by show _ = _; rw [HD.out, List.reverse_cons]
      have hal : (L.drop (j + 1)).reverse.length = n - (j + 1) := by rw [List.length_reverse, List.length_drop, HL.out]
      have hwj : IntKind.i64.wrap ((j : Int) - 1) = (j : Int) - 1 := by rw [IntKind.wrap_i64]; omega
      have O2 := HO.out
      clear e0 A0 hji
      go_wp2_with (at_builtin; refine O2.append e _ rfl (by omega) rfl (.tmp 30) (.tmp 35) rfl (n - (j + 1)) hal rfl rfl ?_; intro g4 c4 w4 O4 hk4)
      go_roundw
      case rel => exact ⟨j, some ⟨g4, 0, none⟩, c4, by omega, by rw [show n - j = n - (j + 1) + 1 by omega], rfl, by rw [HN.out]; exact O4⟩
      case measure => simp [intOf]
    | zero =>
      have HO6 := HO
      rw [List.drop_zero] at HO6
      clear HO hj
      have HW3 := hide HO6.out.below
      by_cases her : er = 0
      · subst her
        obtain ⟨hce, hcl, hasc, hmem⟩ := sorted_zero HT2.out rfl
        have HCE := hide hce
        have HCL := hide hcl
        have HASC := hide hasc
        have HMEM := hide hmem
        have HCR : Hid (∀ e ∈ R, ceE e = 0) := fun e he => hce e ((hmem e).1 he)
        have hck : chk R = 0 := chk_asc hasc HCR.out
        have HUN := hide (sorted_mk HCR.out (asc_noclash hasc (fun _ => Iff.rfl)) hasc (fun _ => Iff.rfl))
        clear hce hcl hasc hmem HT2
        go_wp2_with fail
        refine (lcheck_any a2 n2 c2 R _ (HS2.out.below HW3.out)).mono ?_
        rintro y w4 ⟨rfl, b4⟩
        rw [hck]
        have HO4 := hide (HO6.out.later b4)
        have HW4 := hide (HW3.out.trans (b4.mono HW3.out.size))
        clear b4 hck HO6 HW3
        go_wp2_with fail
        refine (sort_any a2 n2 c2 R _ (HS2.out.below HW4.out)).mono ?_
        rintro y w5 ⟨a5, n5, c5, R5, er5, rfl, S5, b5, f5, t5⟩
        obtain ⟨h5, h5'⟩ := t5.unique HUN.out
        obtain rfl := h5.symm
        subst h5'
        have HS5 := hide S5
        have HO5 := hide (HO4.out.later b5)
        have HW5 := hide (HW4.out.trans (b5.mono HW4.out.size))
        clear S5 b5 f5 t5 HO4 HW4 HUN
        go_wp2_with fail
        refine (same_any a5 a2 n5 c5 n2 c2 _ _ _ HS5.out (HS2.out.below HW5.out) rfl).mono ?_
        rintro y w6 ⟨rfl, b6⟩
        have HO6 := hide (HO5.out.later b6)
        have HW6 := hide (HW5.out.trans (b6.mono HW5.out.size))
        clear b6 HS5 HO5 HW5
        rcases (show z < 0 ∨ z = 0 ∨ (0 < z ∧ z < n) ∨ (0 < z ∧ z = n) ∨ (0 < z ∧ (n : Int) < z) by omega) with hz | hz | hz | hz | hz
        · have g1 : decide (0 < z) = false := by simp; omega
          have g2 : decide (z < 0) = true := by simpa using hz
          clear hz
          have HSB := hide (HO6.out.src (fun x hx => HS.out.2.2.2.1 x (by simpa using hx)) (by rw [List.length_reverse, HL.out]; omega)).1
          have HBM : Hid (∀ x, x ∈ L.reverse ↔ x ∈ L) := fun x => List.mem_reverse
          have HW7 := hide HO6.out.below
          have hbl : L.reverse.length = n := by simp [HL.out]
          rw [hbl] at HSB
          clear HO6 HW6
          go_wp2_with fail
          refine (sort_any ap n c L.reverse _ HSB.out).mono ?_
          rintro y w8 ⟨a8, n8, c8, R8, er8, rfl, S8, b8, f8, t8⟩
          obtain ⟨h8, h8'⟩ := t8.unique (sorted_mk (fun e he => HCE.out e ((HBM.out e).1 he)) (fun h => HCL.out (h.sub (fun x hx => (HBM.out x).1 hx))) HASC.out (fun x => (HMEM.out x).trans (HBM.out x).symm))
          obtain rfl := h8.symm
          subst h8'
          have HW8 := hide (HW7.out.trans (b8.mono HW7.out.size))
          have HS8 := hide S8
          clear S8 b8 f8 t8 HW7 HSB hbl
          go_wp2_with fail
          refine (same_any a8 a2 n8 c8 n2 c2 _ _ _ HS8.out (HS2.out.below HW8.out) rfl).mono ?_
          rintro y w9 ⟨rfl, b9⟩
          have HW9 := hide (HW8.out.trans (b9.mono HW8.out.size))
          clear b9 HW8 HS8
          go_wp2_with fail
          refine (sort_any (some ad) 0 cap (L.take 0) _ ((HSL.out.below HW9.out).take 0 (by omega))).mono ?_
          rintro y w10 ⟨a10, n10, c10, X, er10, rfl, S10, b10, f10, t10⟩
          obtain ⟨h10, ax, mx⟩ := sorted_good (fun e he => HCE.out e (List.mem_of_mem_take he)) (fun h => HCL.out (h.sub (fun x hx => List.mem_of_mem_take hx))) t10
          subst h10
          have HAX := hide ax
          have HMX := hide mx
          have HS10 := hide S10
          have HW10 := hide (HW9.out.trans (b10.mono HW9.out.size))
          clear S10 b10 f10 t10 ax mx HW9
          go_wp2_with fail
          refine (sort_any _ _ _ (L.drop 0) _ (by have h := (HSL.out.below HW10.out).drop 0 (by omega); simpa [add_zero] using h)).mono ?_
          rintro y w11 ⟨a11, n11, c11, Y, er11, rfl, S11, b11, f11, t11⟩
          obtain ⟨h11, ay, my⟩ := sorted_good (fun e he => HCE.out e (List.mem_of_mem_drop he)) (fun h => HCL.out (h.sub (fun x hx => List.mem_of_mem_drop hx))) t11
          subst h11
          have HXY : Hid (∀ x, x ∈ R ↔ x ∈ X ∨ x ∈ Y) := fun x => by
            rw [HMEM.out x, HMX.out x, my x]; constructor
            · intro h; rw [← List.take_append_drop 0 L] at h; exact List.mem_append.1 h
            · intro h; exact h.elim List.mem_of_mem_take List.mem_of_mem_drop
          have HAY := hide ay
          have HS11 := hide S11
          have HS10' := hide (HS10.out.below b11)
          have HW11 := hide (HW10.out.trans (b11.mono HW10.out.size))
          clear S11 b11 f11 t11 ay my HW10 HS10 HMX
          go_wp2_with fail
          refine (union_any a10 a11 n10 c10 n11 c11 X Y _ HS10'.out HS11.out).mono ?_
          rintro y w12 ⟨a12, n12, c12, U, er12, rfl, S12, b12, t12⟩
          obtain ⟨h12, hU⟩ := union_of HAX.out HAY.out HCR.out HASC.out HXY.out t12
          subst h12
          obtain rfl := hU.symm
          have HS12 := hide S12
          have HSX := hide (HS10'.out.below b12)
          have HSY := hide (HS11.out.below b12)
          have HW12 := hide (HW11.out.trans (b12.mono HW11.out.size))
          clear S12 b12 t12 HW11 HS10' HS11
          go_wp2_with fail
          refine (union_any a11 a10 n11 c11 n10 c10 Y X _ HSY.out HSX.out).mono ?_
          rintro y w13 ⟨a13, n13, c13, V, er13, rfl, S13, b13, t13⟩
          obtain ⟨h13, hV⟩ := union_of HAY.out HAX.out HCR.out HASC.out (fun x => (HXY.out x).trans Or.comm) t13
          subst h13
          obtain rfl := hV.symm
          have HS13 := hide S13
          have HS12' := hide (HS12.out.below b13)
          have HW13 := hide (HW12.out.trans (b13.mono HW12.out.size))
          clear S13 b13 t13 HW12 HS12 HSX HSY
          go_wp2_with fail
          refine (same_any a12 a2 n12 c12 n2 c2 _ _ _ HS12'.out (HS2.out.below HW13.out) rfl).mono ?_
          rintro y w14 ⟨rfl, b14⟩
          have HW14 := hide (HW13.out.trans (b14.mono HW13.out.size))
          have HS13' := hide (HS13.out.below b14)
          clear b14 HW13 HS12' HS13
          go_wp2_with fail
          refine (same_any a13 a2 n13 c13 n2 c2 _ _ _ HS13'.out (HS2.out.below HW14.out) rfl).mono ?_
          rintro y w15 ⟨rfl, b15⟩
          have HW15 := hide (B2.out.trans ((HW14.out.trans (b15.mono HW14.out.size)).mono B2.out.size))
          clear b15 HW14 HS13'
          go_wp2_with fail
          go_ret
          exact ⟨rfl, HW15.out⟩
        · subst hz
          have HSB := hide (HO6.out.src (fun x hx => HS.out.2.2.2.1 x (by simpa using hx)) (by rw [List.length_reverse, HL.out]; omega)).1
          have HBM : Hid (∀ x, x ∈ L.reverse ↔ x ∈ L) := fun x => List.mem_reverse
          have HW7 := hide HO6.out.below
          have hbl : L.reverse.length = n := by simp [HL.out]
          rw [hbl] at HSB
          clear HO6 HW6
          go_wp2_with fail
          refine (sort_any ap n c L.reverse _ HSB.out).mono ?_
          rintro y w8 ⟨a8, n8, c8, R8, er8, rfl, S8, b8, f8, t8⟩
          obtain ⟨h8, h8'⟩ := t8.unique (sorted_mk (fun e he => HCE.out e ((HBM.out e).1 he)) (fun h => HCL.out (h.sub (fun x hx => (HBM.out x).1 hx))) HASC.out (fun x => (HMEM.out x).trans (HBM.out x).symm))
          obtain rfl := h8.symm
          subst h8'
          have HW8 := hide (HW7.out.trans (b8.mono HW7.out.size))
          have HS8 := hide S8
          clear S8 b8 f8 t8 HW7 HSB hbl
          go_wp2_with fail
          refine (same_any a8 a2 n8 c8 n2 c2 _ _ _ HS8.out (HS2.out.below HW8.out) rfl).mono ?_
          rintro y w9 ⟨rfl, b9⟩
          have HW9 := hide (HW8.out.trans (b9.mono HW8.out.size))
          clear b9 HW8 HS8
          go_wp2_with fail
          refine (sort_any (some ad) 0 cap (L.take 0) _ ((HSL.out.below HW9.out).take 0 (by omega))).mono ?_
          rintro y w10 ⟨a10, n10, c10, X, er10, rfl, S10, b10, f10, t10⟩
          obtain ⟨h10, ax, mx⟩ := sorted_good (fun e he => HCE.out e (List.mem_of_mem_take he)) (fun h => HCL.out (h.sub (fun x hx => List.mem_of_mem_take hx))) t10
          subst h10
          have HAX := hide ax
          have HMX := hide mx
          have HS10 := hide S10
          have HW10 := hide (HW9.out.trans (b10.mono HW9.out.size))
          clear S10 b10 f10 t10 ax mx HW9
          go_wp2_with fail
          refine (sort_any _ _ _ (L.drop 0) _ (by have h := (HSL.out.below HW10.out).drop 0 (by omega); simpa [add_zero] using h)).mono ?_
          rintro y w11 ⟨a11, n11, c11, Y, er11, rfl, S11, b11, f11, t11⟩
          obtain ⟨h11, ay, my⟩ := sorted_good (fun e he => HCE.out e (List.mem_of_mem_drop he)) (fun h => HCL.out (h.sub (fun x hx => List.mem_of_mem_drop hx))) t11
          subst h11
          have HXY : Hid (∀ x, x ∈ R ↔ x ∈ X ∨ x ∈ Y) := fun x => by
            rw [HMEM.out x, HMX.out x, my x]; constructor
            · intro h; rw [← List.take_append_drop 0 L] at h; exact List.mem_append.1 h
            · intro h; exact h.elim List.mem_of_mem_take List.mem_of_mem_drop
          have HAY := hide ay
          have HS11 := hide S11
          have HS10' := hide (HS10.out.below b11)
          have HW11 := hide (HW10.out.trans (b11.mono HW10.out.size))
          clear S11 b11 f11 t11 ay my HW10 HS10 HMX
          go_wp2_with fail
          refine (union_any a10 a11 n10 c10 n11 c11 X Y _ HS10'.out HS11.out).mono ?_
          rintro y w12 ⟨a12, n12, c12, U, er12, rfl, S12, b12, t12⟩
          obtain ⟨h12, hU⟩ := union_of HAX.out HAY.out HCR.out HASC.out HXY.out t12
          subst h12
          obtain rfl := hU.symm
          have HS12 := hide S12
          have HSX := hide (HS10'.out.below b12)
          have HSY := hide (HS11.out.below b12)
          have HW12 := hide (HW11.out.trans (b12.mono HW11.out.size))
          clear S12 b12 t12 HW11 HS10' HS11
          go_wp2_with fail
          refine (union_any a11 a10 n11 c11 n10 c10 Y X _ HSY.out HSX.out).mono ?_
          rintro y w13 ⟨a13, n13, c13, V, er13, rfl, S13, b13, t13⟩
          obtain ⟨h13, hV⟩ := union_of HAY.out HAX.out HCR.out HASC.out (fun x => (HXY.out x).trans Or.comm) t13
          subst h13
          obtain rfl := hV.symm
          have HS13 := hide S13
          have HS12' := hide (HS12.out.below b13)
          have HW13 := hide (HW12.out.trans (b13.mono HW12.out.size))
          clear S13 b13 t13 HW12 HS12 HSX HSY
          go_wp2_with fail
          refine (same_any a12 a2 n12 c12 n2 c2 _ _ _ HS12'.out (HS2.out.below HW13.out) rfl).mono ?_
          rintro y w14 ⟨rfl, b14⟩
          have HW14 := hide (HW13.out.trans (b14.mono HW13.out.size))
          have HS13' := hide (HS13.out.below b14)
          clear b14 HW13 HS12' HS13
          go_wp2_with fail
          refine (same_any a13 a2 n13 c13 n2 c2 _ _ _ HS13'.out (HS2.out.below HW14.out) rfl).mono ?_
          rintro y w15 ⟨rfl, b15⟩
          have HW15 := hide (B2.out.trans ((HW14.out.trans (b15.mono HW14.out.size)).mono B2.out.size))
          clear b15 HW14 HS13'
          go_wp2_with fail
          go_ret
          exact ⟨rfl, HW15.out⟩
        · obtain ⟨m, rfl⟩ : ∃ m : Nat, z = (m : Int) := ⟨z.toNat, by omega⟩
          have hm : 0 < m ∧ m < n := by omega
          clear hz
          obtain ⟨_, e0, A0⟩ := (HSL.out.below HW6.out).at m hm.2
          obtain rfl := Option.some.inj e0
          have hld := run_ld28 A0
          obtain ⟨e, He⟩ : ∃ e, Hid (L.getD m en0 = e) := ⟨_, rfl⟩
          have HeL : Hid (e ∈ L) := by show e ∈ L; rw [← He.out]; exact getD_mem L m (by rw [HL.out]; exact hm.2)
          rw [He.out] at hld A0
          have O2 := HO6.out
          clear e0
          go_wp2_with (at_builtin; refine O2.append e _ rfl (by rw [List.length_reverse, HL.out]; omega) rfl (.tmp 66) (.tmp 71) rfl n (by rw [List.length_reverse, HL.out]) rfl rfl ?_; intro g4 c4 w7 O4 hk4)
          have HO7 := hide O4
          have HSB := hide (O4.src (fun x hx => by rcases List.mem_append.1 hx with h | h; exact HS.out.2.2.2.1 x (by simpa using h); exact HS.out.2.2.2.1 x (by simp at h; rw [h]; exact HeL.out)) (by simp [HL.out]; omega)).1
          have HBM : Hid (∀ x, x ∈ L.reverse ++ [e] ↔ x ∈ L) := fun x => by rw [List.mem_append, List.mem_reverse]; constructor; exact fun h => h.elim id (fun h => by simp at h; rw [h]; exact HeL.out); exact Or.inl
          have HW7 := hide O4.below
          have hbl : (L.reverse ++ [e]).length = n + 1 := by simp [HL.out]
          rw [hbl] at HSB
          clear O4 O2 hk4 hld A0 HO6 HW6
          go_wp2_with fail
          refine (sort_any (some ⟨g4, 0, none⟩) (n + 1) c4 (L.reverse ++ [e]) _ HSB.out).mono ?_
          rintro y w8 ⟨a8, n8, c8, R8, er8, rfl, S8, b8, f8, t8⟩
          obtain ⟨h8, h8'⟩ := t8.unique (sorted_mk (fun e he => HCE.out e ((HBM.out e).1 he)) (fun h => HCL.out (h.sub (fun x hx => (HBM.out x).1 hx))) HASC.out (fun x => (HMEM.out x).trans (HBM.out x).symm))
          obtain rfl := h8.symm
          subst h8'
          have HW8 := hide (HW7.out.trans (b8.mono HW7.out.size))
          have HS8 := hide S8
          clear S8 b8 f8 t8 HW7 HSB hbl
          go_wp2_with fail
          refine (same_any a8 a2 n8 c8 n2 c2 _ _ _ HS8.out (HS2.out.below HW8.out) rfl).mono ?_
          rintro y w9 ⟨rfl, b9⟩
          have HW9 := hide (HW8.out.trans (b9.mono HW8.out.size))
          clear b9 HW8 HS8
          go_wp2_with fail
          refine (sort_any (some ad) m cap (L.take m) _ ((HSL.out.below HW9.out).take m (by omega))).mono ?_
          rintro y w10 ⟨a10, n10, c10, X, er10, rfl, S10, b10, f10, t10⟩
          obtain ⟨h10, ax, mx⟩ := sorted_good (fun e he => HCE.out e (List.mem_of_mem_take he)) (fun h => HCL.out (h.sub (fun x hx => List.mem_of_mem_take hx))) t10
          subst h10
          have HAX := hide ax
          have HMX := hide mx
          have HS10 := hide S10
          have HW10 := hide (HW9.out.trans (b10.mono HW9.out.size))
          clear S10 b10 f10 t10 ax mx HW9
          go_wp2_with fail
          refine (sort_any _ _ _ (L.drop m) _ (by have h := (HSL.out.below HW10.out).drop m (by omega); simpa [add_zero] using h)).mono ?_
          rintro y w11 ⟨a11, n11, c11, Y, er11, rfl, S11, b11, f11, t11⟩
          obtain ⟨h11, ay, my⟩ := sorted_good (fun e he => HCE.out e (List.mem_of_mem_drop he)) (fun h => HCL.out (h.sub (fun x hx => List.mem_of_mem_drop hx))) t11
          subst h11
          have HXY : Hid (∀ x, x ∈ R ↔ x ∈ X ∨ x ∈ Y) := fun x => by
            rw [HMEM.out x, HMX.out x, my x]; constructor
            · intro h; rw [← List.take_append_drop m L] at h; exact List.mem_append.1 h
            · intro h; exact h.elim List.mem_of_mem_take List.mem_of_mem_drop
          have HAY := hide ay
          have HS11 := hide S11
          have HS10' := hide (HS10.out.below b11)
          have HW11 := hide (HW10.out.trans (b11.mono HW10.out.size))
          clear S11 b11 f11 t11 ay my HW10 HS10 HMX
          go_wp2_with fail
          refine (union_any a10 a11 n10 c10 n11 c11 X Y _ HS10'.out HS11.out).mono ?_
          rintro y w12 ⟨a12, n12, c12, U, er12, rfl, S12, b12, t12⟩
          obtain ⟨h12, hU⟩ := union_of HAX.out HAY.out HCR.out HASC.out HXY.out t12
          subst h12
          obtain rfl := hU.symm
          have HS12 := hide S12
          have HSX := hide (HS10'.out.below b12)
          have HSY := hide (HS11.out.below b12)
          have HW12 := hide (HW11.out.trans (b12.mono HW11.out.size))
          clear S12 b12 t12 HW11 HS10' HS11
          go_wp2_with fail
          refine (union_any a11 a10 n11 c11 n10 c10 Y X _ HSY.out HSX.out).mono ?_
          rintro y w13 ⟨a13, n13, c13, V, er13, rfl, S13, b13, t13⟩
          obtain ⟨h13, hV⟩ := union_of HAY.out HAX.out HCR.out HASC.out (fun x => (HXY.out x).trans Or.comm) t13
          subst h13
          obtain rfl := hV.symm
          have HS13 := hide S13
          have HS12' := hide (HS12.out.below b13)
          have HW13 := hide (HW12.out.trans (b13.mono HW12.out.size))
          clear S13 b13 t13 HW12 HS12 HSX HSY
          go_wp2_with fail
          refine (same_any a12 a2 n12 c12 n2 c2 _ _ _ HS12'.out (HS2.out.below HW13.out) rfl).mono ?_
          rintro y w14 ⟨rfl, b14⟩
          have HW14 := hide (HW13.out.trans (b14.mono HW13.out.size))
          have HS13' := hide (HS13.out.below b14)
          clear b14 HW13 HS12' HS13
          go_wp2_with fail
          refine (same_any a13 a2 n13 c13 n2 c2 _ _ _ HS13'.out (HS2.out.below HW14.out) rfl).mono ?_
          rintro y w15 ⟨rfl, b15⟩
          have HW15 := hide (B2.out.trans ((HW14.out.trans (b15.mono HW14.out.size)).mono B2.out.size))
          clear b15 HW14 HS13'
          go_wp2_with fail
          go_ret
          exact ⟨rfl, HW15.out⟩
        · obtain ⟨hz0, rfl⟩ := hz
          have HSB := hide (HO6.out.src (fun x hx => HS.out.2.2.2.1 x (by simpa using hx)) (by rw [List.length_reverse, HL.out]; omega)).1
          have HBM : Hid (∀ x, x ∈ L.reverse ↔ x ∈ L) := fun x => List.mem_reverse
          have HW7 := hide HO6.out.below
          have hbl : L.reverse.length = n := by simp [HL.out]
          rw [hbl] at HSB
          clear HO6 HW6
          go_wp2_with fail
          refine (sort_any ap n c L.reverse _ HSB.out).mono ?_
          rintro y w8 ⟨a8, n8, c8, R8, er8, rfl, S8, b8, f8, t8⟩
          obtain ⟨h8, h8'⟩ := t8.unique (sorted_mk (fun e he => HCE.out e ((HBM.out e).1 he)) (fun h => HCL.out (h.sub (fun x hx => (HBM.out x).1 hx))) HASC.out (fun x => (HMEM.out x).trans (HBM.out x).symm))
          obtain rfl := h8.symm
          subst h8'
          have HW8 := hide (HW7.out.trans (b8.mono HW7.out.size))
          have HS8 := hide S8
          clear S8 b8 f8 t8 HW7 HSB hbl
          go_wp2_with fail
          refine (same_any a8 a2 n8 c8 n2 c2 _ _ _ HS8.out (HS2.out.below HW8.out) rfl).mono ?_
          rintro y w9 ⟨rfl, b9⟩
          have HW9 := hide (HW8.out.trans (b9.mono HW8.out.size))
          clear b9 HW8 HS8
          go_wp2_with fail
          refine (sort_any (some ad) n cap (L.take n) _ ((HSL.out.below HW9.out).take n (by omega))).mono ?_
          rintro y w10 ⟨a10, n10, c10, X, er10, rfl, S10, b10, f10, t10⟩
          obtain ⟨h10, ax, mx⟩ := sorted_good (fun e he => HCE.out e (List.mem_of_mem_take he)) (fun h => HCL.out (h.sub (fun x hx => List.mem_of_mem_take hx))) t10
          subst h10
          have HAX := hide ax
          have HMX := hide mx
          have HS10 := hide S10
          have HW10 := hide (HW9.out.trans (b10.mono HW9.out.size))
          clear S10 b10 f10 t10 ax mx HW9
          go_wp2_with fail
          skip
          · refine (sort_any _ _ _ (L.drop n) _ (by have h := (HSL.out.below HW10.out).drop n (by omega); exact ESrc.zero _ _ _ _ (List.drop_eq_nil_of_le (by rw [HL.out]; exact Nat.le_refl _)))).mono ?_
            rintro y w11 ⟨a11, n11, c11, Y, er11, rfl, S11, b11, f11, t11⟩
            obtain ⟨h11, ay, my⟩ := sorted_good (fun e he => HCE.out e (List.mem_of_mem_drop he)) (fun h => HCL.out (h.sub (fun x hx => List.mem_of_mem_drop hx))) t11
            subst h11
            have HXY : Hid (∀ x, x ∈ R ↔ x ∈ X ∨ x ∈ Y) := fun x => by
              rw [HMEM.out x, HMX.out x, my x]; constructor
              · intro h; rw [← List.take_append_drop n L] at h; exact List.mem_append.1 h
              · intro h; exact h.elim List.mem_of_mem_take List.mem_of_mem_drop
            have HAY := hide ay
            have HS11 := hide S11
            have HS10' := hide (HS10.out.below b11)
            have HW11 := hide (HW10.out.trans (b11.mono HW10.out.size))
            clear S11 b11 f11 t11 ay my HW10 HS10 HMX
            go_wp2_with fail
            refine (union_any a10 a11 n10 c10 n11 c11 X Y _ HS10'.out HS11.out).mono ?_
            rintro y w12 ⟨a12, n12, c12, U, er12, rfl, S12, b12, t12⟩
            obtain ⟨h12, hU⟩ := union_of HAX.out HAY.out HCR.out HASC.out HXY.out t12
            subst h12
            obtain rfl := hU.symm
            have HS12 := hide S12
            have HSX := hide (HS10'.out.below b12)
            have HSY := hide (HS11.out.below b12)
            have HW12 := hide (HW11.out.trans (b12.mono HW11.out.size))
            clear S12 b12 t12 HW11 HS10' HS11
            go_wp2_with fail
            refine (union_any a11 a10 n11 c11 n10 c10 Y X _ HSY.out HSX.out).mono ?_
            rintro y w13 ⟨a13, n13, c13, V, er13, rfl, S13, b13, t13⟩
            obtain ⟨h13, hV⟩ := union_of HAY.out HAX.out HCR.out HASC.out (fun x => (HXY.out x).trans Or.comm) t13
            subst h13
            obtain rfl := hV.symm
            have HS13 := hide S13
            have HS12' := hide (HS12.out.below b13)
            have HW13 := hide (HW12.out.trans (b13.mono HW12.out.size))
            clear S13 b13 t13 HW12 HS12 HSX HSY
            go_wp2_with fail
            refine (same_any a12 a2 n12 c12 n2 c2 _ _ _ HS12'.out (HS2.out.below HW13.out) rfl).mono ?_
            rintro y w14 ⟨rfl, b14⟩
            have HW14 := hide (HW13.out.trans (b14.mono HW13.out.size))
            have HS13' := hide (HS13.out.below b14)
            clear b14 HW13 HS12' HS13
            go_wp2_with fail
            refine (same_any a13 a2 n13 c13 n2 c2 _ _ _ HS13'.out (HS2.out.below HW14.out) rfl).mono ?_
            rintro y w15 ⟨rfl, b15⟩
            have HW15 := hide (B2.out.trans ((HW14.out.trans (b15.mono HW14.out.size)).mono B2.out.size))
            clear b15 HW14 HS13'
            go_wp2_with fail
            go_ret
            exact ⟨rfl, HW15.out⟩
          · refine (sort_any _ _ _ (L.drop n) _ (by have h := (HSL.out.below HW10.out).drop n (by omega); simpa using h)).mono ?_
            rintro y w11 ⟨a11, n11, c11, Y, er11, rfl, S11, b11, f11, t11⟩
            obtain ⟨h11, ay, my⟩ := sorted_good (fun e he => HCE.out e (List.mem_of_mem_drop he)) (fun h => HCL.out (h.sub (fun x hx => List.mem_of_mem_drop hx))) t11
            subst h11
            have HXY : Hid (∀ x, x ∈ R ↔ x ∈ X ∨ x ∈ Y) := fun x => by
              rw [HMEM.out x, HMX.out x, my x]; constructor
              · intro h; rw [← List.take_append_drop n L] at h; exact List.mem_append.1 h
              · intro h; exact h.elim List.mem_of_mem_take List.mem_of_mem_drop
            have HAY := hide ay
            have HS11 := hide S11
            have HS10' := hide (HS10.out.below b11)
            have HW11 := hide (HW10.out.trans (b11.mono HW10.out.size))
            clear S11 b11 f11 t11 ay my HW10 HS10 HMX
            go_wp2_with fail
            refine (union_any a10 a11 n10 c10 n11 c11 X Y _ HS10'.out HS11.out).mono ?_
            rintro y w12 ⟨a12, n12, c12, U, er12, rfl, S12, b12, t12⟩
            obtain ⟨h12, hU⟩ := union_of HAX.out HAY.out HCR.out HASC.out HXY.out t12
            subst h12
            obtain rfl := hU.symm
            have HS12 := hide S12
            have HSX := hide (HS10'.out.below b12)
            have HSY := hide (HS11.out.below b12)
            have HW12 := hide (HW11.out.trans (b12.mono HW11.out.size))
            clear S12 b12 t12 HW11 HS10' HS11
            go_wp2_with fail
            refine (union_any a11 a10 n11 c11 n10 c10 Y X _ HSY.out HSX.out).mono ?_
            rintro y w13 ⟨a13, n13, c13, V, er13, rfl, S13, b13, t13⟩
            obtain ⟨h13, hV⟩ := union_of HAY.out HAX.out HCR.out HASC.out (fun x => (HXY.out x).trans Or.comm) t13
            subst h13
            obtain rfl := hV.symm
            have HS13 := hide S13
            have HS12' := hide (HS12.out.below b13)
            have HW13 := hide (HW12.out.trans (b13.mono HW12.out.size))
            clear S13 b13 t13 HW12 HS12 HSX HSY
            go_wp2_with fail
            refine (same_any a12 a2 n12 c12 n2 c2 _ _ _ HS12'.out (HS2.out.below HW13.out) rfl).mono ?_
            rintro y w14 ⟨rfl, b14⟩
            have HW14 := hide (HW13.out.trans (b14.mono HW13.out.size))
            have HS13' := hide (HS13.out.below b14)
            clear b14 HW13 HS12' HS13
            go_wp2_with fail
            refine (same_any a13 a2 n13 c13 n2 c2 _ _ _ HS13'.out (HS2.out.below HW14.out) rfl).mono ?_
            rintro y w15 ⟨rfl, b15⟩
            have HW15 := hide (B2.out.trans ((HW14.out.trans (b15.mono HW14.out.size)).mono B2.out.size))
            clear b15 HW14 HS13'
            go_wp2_with fail
            go_ret
            exact ⟨rfl, HW15.out⟩
        · have g1 : decide (0 < z) = true := by simp; omega
          have g2 : decide (z < 0) = false := by simp; omega
          have g3 : decide (z < (n : Int)) = false := by simp; omega
          have g4 : decide ((n : Int) < z) = true := by simp; omega
          have HSB := hide (HO6.out.src (fun x hx => HS.out.2.2.2.1 x (by simpa using hx)) (by rw [List.length_reverse, HL.out]; omega)).1
          have HBM : Hid (∀ x, x ∈ L.reverse ↔ x ∈ L) := fun x => List.mem_reverse
          have HW7 := hide HO6.out.below
          have hbl : L.reverse.length = n := by simp [HL.out]
          rw [hbl] at HSB
          clear HO6 HW6
          go_wp2_with fail
          refine (sort_any ap n c L.reverse _ HSB.out).mono ?_
          rintro y w8 ⟨a8, n8, c8, R8, er8, rfl, S8, b8, f8, t8⟩
          obtain ⟨h8, h8'⟩ := t8.unique (sorted_mk (fun e he => HCE.out e ((HBM.out e).1 he)) (fun h => HCL.out (h.sub (fun x hx => (HBM.out x).1 hx))) HASC.out (fun x => (HMEM.out x).trans (HBM.out x).symm))
          obtain rfl := h8.symm
          subst h8'
          have HW8 := hide (HW7.out.trans (b8.mono HW7.out.size))
          have HS8 := hide S8
          clear S8 b8 f8 t8 HW7 HSB hbl
          go_wp2_with fail
          refine (same_any a8 a2 n8 c8 n2 c2 _ _ _ HS8.out (HS2.out.below HW8.out) rfl).mono ?_
          rintro y w9 ⟨rfl, b9⟩
          have HW9 := hide (HW8.out.trans (b9.mono HW8.out.size))
          clear b9 HW8 HS8
          go_wp2_with fail
          refine (sort_any (some ad) 0 cap (L.take 0) _ ((HSL.out.below HW9.out).take 0 (by omega))).mono ?_
          rintro y w10 ⟨a10, n10, c10, X, er10, rfl, S10, b10, f10, t10⟩
          obtain ⟨h10, ax, mx⟩ := sorted_good (fun e he => HCE.out e (List.mem_of_mem_take he)) (fun h => HCL.out (h.sub (fun x hx => List.mem_of_mem_take hx))) t10
          subst h10
          have HAX := hide ax
          have HMX := hide mx
          have HS10 := hide S10
          have HW10 := hide (HW9.out.trans (b10.mono HW9.out.size))
          clear S10 b10 f10 t10 ax mx HW9
          go_wp2_with fail
          refine (sort_any _ _ _ (L.drop 0) _ (by have h := (HSL.out.below HW10.out).drop 0 (by omega); simpa [add_zero] using h)).mono ?_
          rintro y w11 ⟨a11, n11, c11, Y, er11, rfl, S11, b11, f11, t11⟩
          obtain ⟨h11, ay, my⟩ := sorted_good (fun e he => HCE.out e (List.mem_of_mem_drop he)) (fun h => HCL.out (h.sub (fun x hx => List.mem_of_mem_drop hx))) t11
          subst h11
          have HXY : Hid (∀ x, x ∈ R ↔ x ∈ X ∨ x ∈ Y) := fun x => by
            rw [HMEM.out x, HMX.out x, my x]; constructor
            · intro h; rw [← List.take_append_drop 0 L] at h; exact List.mem_append.1 h
            · intro h; exact h.elim List.mem_of_mem_take List.mem_of_mem_drop
          have HAY := hide ay
          have HS11 := hide S11
          have HS10' := hide (HS10.out.below b11)
          have HW11 := hide (HW10.out.trans (b11.mono HW10.out.size))
          clear S11 b11 f11 t11 ay my HW10 HS10 HMX
          go_wp2_with fail
          refine (union_any a10 a11 n10 c10 n11 c11 X Y _ HS10'.out HS11.out).mono ?_
          rintro y w12 ⟨a12, n12, c12, U, er12, rfl, S12, b12, t12⟩
          obtain ⟨h12, hU⟩ := union_of HAX.out HAY.out HCR.out HASC.out HXY.out t12
          subst h12
          obtain rfl := hU.symm
          have HS12 := hide S12
          have HSX := hide (HS10'.out.below b12)
          have HSY := hide (HS11.out.below b12)
          have HW12 := hide (HW11.out.trans (b12.mono HW11.out.size))
          clear S12 b12 t12 HW11 HS10' HS11
          go_wp2_with fail
          refine (union_any a11 a10 n11 c11 n10 c10 Y X _ HSY.out HSX.out).mono ?_
          rintro y w13 ⟨a13, n13, c13, V, er13, rfl, S13, b13, t13⟩
          obtain ⟨h13, hV⟩ := union_of HAY.out HAX.out HCR.out HASC.out (fun x => (HXY.out x).trans Or.comm) t13
          subst h13
          obtain rfl := hV.symm
          have HS13 := hide S13
          have HS12' := hide (HS12.out.below b13)
          have HW13 := hide (HW12.out.trans (b13.mono HW12.out.size))
          clear S13 b13 t13 HW12 HS12 HSX HSY
          go_wp2_with fail
          refine (same_any a12 a2 n12 c12 n2 c2 _ _ _ HS12'.out (HS2.out.below HW13.out) rfl).mono ?_
          rintro y w14 ⟨rfl, b14⟩
          have HW14 := hide (HW13.out.trans (b14.mono HW13.out.size))
          have HS13' := hide (HS13.out.below b14)
          clear b14 HW13 HS12' HS13
          go_wp2_with fail
          refine (same_any a13 a2 n13 c13 n2 c2 _ _ _ HS13'.out (HS2.out.below HW14.out) rfl).mono ?_
          rintro y w15 ⟨rfl, b15⟩
          have HW15 := hide (B2.out.trans ((HW14.out.trans (b15.mono HW14.out.size)).mono B2.out.size))
          clear b15 HW14 HS13'
          go_wp2_with fail
          go_ret
          exact ⟨rfl, HW15.out⟩
      · have hR := sorted_none HT2.out her
        have hn2 : n2 = 0 := by have := HS2.out.1; rw [hR] at this; exact this.symm
        subst hn2
        have he : (er != 0) = true := by simpa using her
        have HW := hide (B2.out.trans (HW3.out.mono B2.out.size))
        clear her hR
        go_wp2_with fail
        go_ret
        exact ⟨rfl, HW.out⟩
theorem settles_any (ao : Option Addr) (n cap : Nat) (L : List En) (z : Int) (w : World) (hS : ESrc w ao n cap L) (hcap : n ≤ cap) (hn : n ≤ 3518437208780) :
    Calls Try.prog 6 #[.slice ao n cap, .int .i64 z] w fun y w' => y = .returned (.bool true) ∧ Below w.heap.size w w' := by
  cases ao with
  | none =>
    obtain ⟨rfl, rfl⟩ := hS.2.1 rfl
    exact settles_nil L z w hS
  | some ad => exact settles_some ad n cap L z w hS hcap hn
end Go.Proofs.Ytmhdhedjeaaciaa
