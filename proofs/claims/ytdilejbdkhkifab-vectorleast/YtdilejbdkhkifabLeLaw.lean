/- VectorLeast: the law's walk. -/
import Derived.Test.YtdilejbdkhkifabLPl
namespace Go.Proofs.Ytdilejbdkhkifab
open Go.RowKit

theorem lit_order (w : World) (g g' : Nat) (hg : w.heap.size = g) (hg' : w.heap.size + 1 = g') : Calls Try.prog 7 #[.slice (some ⟨g, 0, none⟩) 1 1, .slice (some ⟨g', 0, none⟩) 1 1] ((w.alloc (.cells #[.int .i64 1] 3)).alloc (.cells #[.int .i64 2] 3)) fun e w' => e = .returned (.int .i64 1) ∧ Below w.heap.size w w' := by
  subst hg hg'
  have X1 := (lit_src w [1] #[.int .i64 1] rfl 3 1 rfl).below (below_new (w.alloc (.cells #[.int .i64 1] 3)) (.cells #[.int .i64 2] 3))
  have Y1 := lit_src (w.alloc (.cells #[.int .i64 1] 3)) [2] #[.int .i64 2] rfl 3 1 rfl
  rw [World.size_alloc] at Y1
  have h1 := vorder_any _ _ _ _ _ _ [1] [2] _ X1 Y1
  rw [show ordF (at' [1]) (at' [2]) = 1 from by decide +kernel] at h1
  exact h1.mono (fun e w' ⟨he, hb⟩ => ⟨he, below_on2 (below_on2 (below_new _ _) (below_new _ _)) hb⟩)
/-- what stands all the way through: the three lists, the merge, the meet -/
structure Th5 (w W : World) (ao bo co uo vo : Option Addr) (n c m d k e p q r s : Nat) (X Y Z U V : List Int) : Prop where
  t : Th3 w W ao bo co n c m d k e X Y Z
  u : Src W uo p q U
  v : Src W vo r s V
theorem Th5.on {w W W' : World} {ao bo co uo vo : Option Addr} {n c m d k e p q r s : Nat} {X Y Z U V : List Int} (h : Th5 w W ao bo co uo vo n c m d k e p q r s X Y Z U V) (hb : Below W.heap.size W W') : Th5 w W' ao bo co uo vo n c m d k e p q r s X Y Z U V :=
  ⟨h.t.on hb, h.u.below hb, h.v.below hb⟩

set_option maxRecDepth 100000 in
set_option maxHeartbeats 4000000 in
theorem least_row (ao : Option Addr) (n c : Nat) (X : List Int) (bo : Option Addr) (m d : Nat) (Y : List Int) (co : Option Addr) (k l : Nat) (Z : List Int) (w : World) (hX : Src w ao n c X) (_ : n ≤ maxLen) (hY : Src w bo m d Y) (_ : m ≤ maxLen) (hZ : Src w co k l Z) (_ : k ≤ maxLen) :
    Calls Try.prog 3 #[.slice ao n c, .slice bo m d, .slice co k l] w fun e w' => e = .returned (.bool true) ∧ Below w.heap.size w w' := by
  have T0 := hide (Th3.mk (Below.refl _ _) hX hY hZ)
  clear hX hY hZ
  have U1 := hide (le_up1 (at' X) (at' Y) (bd_at X) (bd_at Y))
  have U2 := hide (le_up2 (at' X) (at' Y) (bd_at X) (bd_at Y))
  have V1 := hide (down_le1 (at' X) (at' Y) (bd_at X) (bd_at Y))
  have V2 := hide (down_le2 (at' X) (at' Y) (bd_at X) (bd_at Y))
  have UL := hide (up_least (at' X) (at' Y) (at' Z) (bd_at X) (bd_at Y))
  have VM := hide (down_most (at' X) (at' Y) (at' Z) (bd_at X) (bd_at Y))
  have SA := hide (sums_add (at' X) (at' Y) (bd_at X) (bd_at Y))
  have AS := hide (assoc_lists X Y Z)
  have b1 := sumN_bd (at' X) (bd_at X) 16 (Nat.le_refl _)
  have b2 := sumN_bd (at' Y) (bd_at Y) 16 (Nat.le_refl _)
  have b3 := sumN_bd (at' (short (fmax (at' X) (at' Y)))) (bd_at _) 16 (Nat.le_refl _)
  have b4 := sumN_bd (at' (short (fmin (at' X) (at' Y)))) (bd_at _) 16 (Nat.le_refl _)
  obtain ⟨U, HU⟩ : ∃ U, Hid (short (fmax (at' X) (at' Y)) = U) := ⟨_, rfl⟩
  obtain ⟨V, HV⟩ : ∃ V, Hid (short (fmin (at' X) (at' Y)) = V) := ⟨_, rfl⟩
  rw [HU.out] at U1 U2 UL SA AS b3
  rw [HV.out] at V1 V2 VM SA b4
  obtain ⟨s1, Hs1⟩ : ∃ x, Hid (sumN (at' X) 16 = x) := ⟨_, rfl⟩
  obtain ⟨s2, Hs2⟩ : ∃ x, Hid (sumN (at' Y) 16 = x) := ⟨_, rfl⟩
  obtain ⟨s3, Hs3⟩ : ∃ x, Hid (sumN (at' U) 16 = x) := ⟨_, rfl⟩
  obtain ⟨s4, Hs4⟩ : ∃ x, Hid (sumN (at' V) 16 = x) := ⟨_, rfl⟩
  rw [Hs1.out, Hs2.out, Hs3.out, Hs4.out] at SA
  rw [Hs1.out] at b1
  rw [Hs2.out] at b2
  rw [Hs3.out] at b3
  rw [Hs4.out] at b4
  have hs : (s3 + s4 != s1 + s2) = false := by rw [SA.out]; simp
  obtain ⟨p1, P1⟩ : ∃ x, Hid (leF (at' X) (at' Z) = x) := ⟨_, rfl⟩
  obtain ⟨p2, P2⟩ : ∃ x, Hid (leF (at' Y) (at' Z) = x) := ⟨_, rfl⟩
  obtain ⟨q1, Q1⟩ : ∃ x, Hid (leF (at' Z) (at' X) = x) := ⟨_, rfl⟩
  obtain ⟨q2, Q2⟩ : ∃ x, Hid (leF (at' Z) (at' Y) = x) := ⟨_, rfl⟩
  rw [P1.out, P2.out] at UL
  rw [Q1.out, Q2.out] at VM
  go_enter Try.func3, Try.ntmps3
  go_wp2_with fail
  refine (awake_any _).mono ?_
  rintro e w1 ⟨rfl, b⟩
  have T1 := hide (T0.out.on b)
  clear T0 b
  go_wp2_with fail
  refine (lit_order w1 _ _ rfl rfl).mono ?_
  rintro e w2 ⟨rfl, b⟩
  have T2 := hide (T1.out.on b)
  clear T1 b
  go_wp2_with fail
  refine (merge2_any _ _ _ _ _ _ X Y w2 _ rfl T2.out.x T2.out.y).mono ?_
  rintro e w3 ⟨a3, n3, c3, rfl, S, b⟩
  rw [HU.out] at S
  have T3 := hide (T2.out.on b)
  have S3 := hide S
  clear T2 b S
  go_wp2_with fail
  refine (meet2_any _ _ _ _ _ _ X Y w3 _ rfl T3.out.x T3.out.y).mono ?_
  rintro e w4 ⟨a4, n4, c4, rfl, S, b⟩
  rw [HV.out] at S
  have T4 := hide (Th5.mk (T3.out.on b) (S3.out.below b) S)
  clear T3 S3 b S
  obtain ⟨v4, Hv4⟩ : ∃ v, v = w4 := ⟨_, rfl⟩
  rw [← Hv4] at T4 ⊢
  clear Hv4
  go_wp2_with fail
  refine (most_any _ _ _ _ _ _ X U _ T4.out.t.x T4.out.u).mono ?_
  rintro e v5 ⟨rfl, b⟩
  have R5 := hide (T4.out.on b)
  clear b T4
  rw [U1.out]
  go_wp2_with fail
  refine (most_any _ _ _ _ _ _ Y U _ R5.out.t.y R5.out.u).mono ?_
  rintro e v6 ⟨rfl, b⟩
  have R6 := hide (R5.out.on b)
  clear b R5
  rw [U2.out]
  go_wp2_with fail
  refine (most_any _ _ _ _ _ _ V X _ R6.out.v R6.out.t.x).mono ?_
  rintro e v7 ⟨rfl, b⟩
  have R7 := hide (R6.out.on b)
  clear b R6
  rw [V1.out]
  go_wp2_with fail
  refine (most_any _ _ _ _ _ _ V Y _ R7.out.v R7.out.t.y).mono ?_
  rintro e v8 ⟨rfl, b⟩
  have R8 := hide (R7.out.on b)
  clear b R7
  rw [V2.out]
  go_wp2_with fail
  refine (most_any _ _ _ _ _ _ X Z _ R8.out.t.x R8.out.t.z).mono ?_
  rintro e v9 ⟨rfl, b⟩
  have R9 := hide (R8.out.on b)
  clear b R8
  rw [P1.out]
  cases p1 with
  | false =>
    go_wp2_with fail
    refine (most_any _ _ _ _ _ _ Z X _ R9.out.t.z R9.out.t.x).mono ?_
    rintro e v10 ⟨rfl, b⟩
    have R10 := hide (R9.out.on b)
    clear b R9
    rw [Q1.out]
    cases q1 with
    | false =>
      go_wp2_with fail
      refine (vsum_any _ _ _ U _ R10.out.u).mono ?_
      rintro e v11 ⟨rfl, b⟩
      have R11 := hide (R10.out.on b)
      clear b R10
      rw [Hs3.out]
      go_wp2_with fail
      refine (vsum_any _ _ _ V _ R11.out.v).mono ?_
      rintro e v12 ⟨rfl, b⟩
      have R12 := hide (R11.out.on b)
      clear b R11
      rw [Hs4.out]
      go_wp2_with fail
      refine (vsum_any _ _ _ X _ R12.out.t.x).mono ?_
      rintro e v13 ⟨rfl, b⟩
      have R13 := hide (R12.out.on b)
      clear b R12
      rw [Hs1.out]
      go_wp2_with fail
      refine (vsum_any _ _ _ Y _ R13.out.t.y).mono ?_
      rintro e v14 ⟨rfl, b⟩
      have R14 := hide (R13.out.on b)
      clear b R13
      rw [Hs2.out]
      go_wp2_with fail
      refine (merge2_any _ _ _ _ _ _ X Y v14 _ rfl R14.out.t.x R14.out.t.y).mono ?_
      rintro e v15 ⟨a15, n15, c15, rfl, S, b⟩
      rw [HU.out] at S
      have R15 := hide (R14.out.on b)
      have M15 := hide S
      clear b S R14
      go_wp2_with fail
      refine (merge2_any _ _ _ _ _ _ U Z v15 _ rfl M15.out R15.out.t.z).mono ?_
      rintro e v16 ⟨a16, n16, c16, rfl, S, b⟩
      have R16 := hide (R15.out.on b)
      have M16 := hide S
      clear b S R15 M15
      go_wp2_with fail
      refine (merge2_any _ _ _ _ _ _ Y Z v16 _ rfl R16.out.t.y R16.out.t.z).mono ?_
      rintro e v17 ⟨a17, n17, c17, rfl, S, b⟩
      have R17 := hide (R16.out.on b)
      have M17 := hide S
      have L17 := hide (M16.out.below b)
      clear b S R16 M16
      go_wp2_with fail
      refine (merge3_any _ _ _ _ _ _ _ _ _ X _ X v17 _ rfl R17.out.t.x M17.out R17.out.t.x).mono ?_
      rintro e v18 ⟨a18, n18, c18, rfl, S, b⟩
      rw [← AS.out] at S
      have R18 := hide (R17.out.on b)
      have M18 := hide S
      have L18 := hide (L17.out.below b)
      clear b S R17 L17 M17
      go_wp2_with fail
      refine (equal_any a16 a18 n16 n18 c16 c18 _ _ _ L18.out M18.out (small_of L18.out (short_small _))).mono ?_
      rintro e vf ⟨rfl, b⟩
      have RF := hide (R18.out.on b)
      clear b
      go_wp2_with fail
      go_ret
      exact ⟨by simp, RF.out.t.below⟩
    | true =>
      go_wp2_with fail
      refine (most_any _ _ _ _ _ _ Z Y _ R10.out.t.z R10.out.t.y).mono ?_
      rintro e v11 ⟨rfl, b⟩
      have R11 := hide (R10.out.on b)
      clear b R10
      rw [Q2.out]
      cases q2 with
      | false =>
        go_wp2_with fail
        refine (vsum_any _ _ _ U _ R11.out.u).mono ?_
        rintro e v12 ⟨rfl, b⟩
        have R12 := hide (R11.out.on b)
        clear b R11
        rw [Hs3.out]
        go_wp2_with fail
        refine (vsum_any _ _ _ V _ R12.out.v).mono ?_
        rintro e v13 ⟨rfl, b⟩
        have R13 := hide (R12.out.on b)
        clear b R12
        rw [Hs4.out]
        go_wp2_with fail
        refine (vsum_any _ _ _ X _ R13.out.t.x).mono ?_
        rintro e v14 ⟨rfl, b⟩
        have R14 := hide (R13.out.on b)
        clear b R13
        rw [Hs1.out]
        go_wp2_with fail
        refine (vsum_any _ _ _ Y _ R14.out.t.y).mono ?_
        rintro e v15 ⟨rfl, b⟩
        have R15 := hide (R14.out.on b)
        clear b R14
        rw [Hs2.out]
        go_wp2_with fail
        refine (merge2_any _ _ _ _ _ _ X Y v15 _ rfl R15.out.t.x R15.out.t.y).mono ?_
        rintro e v16 ⟨a16, n16, c16, rfl, S, b⟩
        rw [HU.out] at S
        have R16 := hide (R15.out.on b)
        have M16 := hide S
        clear b S R15
        go_wp2_with fail
        refine (merge2_any _ _ _ _ _ _ U Z v16 _ rfl M16.out R16.out.t.z).mono ?_
        rintro e v17 ⟨a17, n17, c17, rfl, S, b⟩
        have R17 := hide (R16.out.on b)
        have M17 := hide S
        clear b S R16 M16
        go_wp2_with fail
        refine (merge2_any _ _ _ _ _ _ Y Z v17 _ rfl R17.out.t.y R17.out.t.z).mono ?_
        rintro e v18 ⟨a18, n18, c18, rfl, S, b⟩
        have R18 := hide (R17.out.on b)
        have M18 := hide S
        have L18 := hide (M17.out.below b)
        clear b S R17 M17
        go_wp2_with fail
        refine (merge3_any _ _ _ _ _ _ _ _ _ X _ X v18 _ rfl R18.out.t.x M18.out R18.out.t.x).mono ?_
        rintro e v19 ⟨a19, n19, c19, rfl, S, b⟩
        rw [← AS.out] at S
        have R19 := hide (R18.out.on b)
        have M19 := hide S
        have L19 := hide (L18.out.below b)
        clear b S R18 L18 M18
        go_wp2_with fail
        refine (equal_any a17 a19 n17 n19 c17 c19 _ _ _ L19.out M19.out (small_of L19.out (short_small _))).mono ?_
        rintro e vf ⟨rfl, b⟩
        have RF := hide (R19.out.on b)
        clear b
        go_wp2_with fail
        go_ret
        exact ⟨by simp, RF.out.t.below⟩
      | true =>
        have VW := hide (VM.out (by trivial) (by trivial))
        go_wp2_with fail
        refine (most_any _ _ _ _ _ _ Z V _ R11.out.t.z R11.out.v).mono ?_
        rintro e v12 ⟨rfl, b⟩
        have R12 := hide (R11.out.on b)
        clear b R11
        rw [VW.out]
        go_wp2_with fail
        refine (vsum_any _ _ _ U _ R12.out.u).mono ?_
        rintro e v13 ⟨rfl, b⟩
        have R13 := hide (R12.out.on b)
        clear b R12
        rw [Hs3.out]
        go_wp2_with fail
        refine (vsum_any _ _ _ V _ R13.out.v).mono ?_
        rintro e v14 ⟨rfl, b⟩
        have R14 := hide (R13.out.on b)
        clear b R13
        rw [Hs4.out]
        go_wp2_with fail
        refine (vsum_any _ _ _ X _ R14.out.t.x).mono ?_
        rintro e v15 ⟨rfl, b⟩
        have R15 := hide (R14.out.on b)
        clear b R14
        rw [Hs1.out]
        go_wp2_with fail
        refine (vsum_any _ _ _ Y _ R15.out.t.y).mono ?_
        rintro e v16 ⟨rfl, b⟩
        have R16 := hide (R15.out.on b)
        clear b R15
        rw [Hs2.out]
        go_wp2_with fail
        refine (merge2_any _ _ _ _ _ _ X Y v16 _ rfl R16.out.t.x R16.out.t.y).mono ?_
        rintro e v17 ⟨a17, n17, c17, rfl, S, b⟩
        rw [HU.out] at S
        have R17 := hide (R16.out.on b)
        have M17 := hide S
        clear b S R16
        go_wp2_with fail
        refine (merge2_any _ _ _ _ _ _ U Z v17 _ rfl M17.out R17.out.t.z).mono ?_
        rintro e v18 ⟨a18, n18, c18, rfl, S, b⟩
        have R18 := hide (R17.out.on b)
        have M18 := hide S
        clear b S R17 M17
        go_wp2_with fail
        refine (merge2_any _ _ _ _ _ _ Y Z v18 _ rfl R18.out.t.y R18.out.t.z).mono ?_
        rintro e v19 ⟨a19, n19, c19, rfl, S, b⟩
        have R19 := hide (R18.out.on b)
        have M19 := hide S
        have L19 := hide (M18.out.below b)
        clear b S R18 M18
        go_wp2_with fail
        refine (merge3_any _ _ _ _ _ _ _ _ _ X _ X v19 _ rfl R19.out.t.x M19.out R19.out.t.x).mono ?_
        rintro e v20 ⟨a20, n20, c20, rfl, S, b⟩
        rw [← AS.out] at S
        have R20 := hide (R19.out.on b)
        have M20 := hide S
        have L20 := hide (L19.out.below b)
        clear b S R19 L19 M19
        go_wp2_with fail
        refine (equal_any a18 a20 n18 n20 c18 c20 _ _ _ L20.out M20.out (small_of L20.out (short_small _))).mono ?_
        rintro e vf ⟨rfl, b⟩
        have RF := hide (R20.out.on b)
        clear b
        go_wp2_with fail
        go_ret
        exact ⟨by simp, RF.out.t.below⟩
  | true =>
    go_wp2_with fail
    refine (most_any _ _ _ _ _ _ Y Z _ R9.out.t.y R9.out.t.z).mono ?_
    rintro e v10 ⟨rfl, b⟩
    have R10 := hide (R9.out.on b)
    clear b R9
    rw [P2.out]
    cases p2 with
    | false =>
      go_wp2_with fail
      refine (most_any _ _ _ _ _ _ Z X _ R10.out.t.z R10.out.t.x).mono ?_
      rintro e v11 ⟨rfl, b⟩
      have R11 := hide (R10.out.on b)
      clear b R10
      rw [Q1.out]
      cases q1 with
      | false =>
        go_wp2_with fail
        refine (vsum_any _ _ _ U _ R11.out.u).mono ?_
        rintro e v12 ⟨rfl, b⟩
        have R12 := hide (R11.out.on b)
        clear b R11
        rw [Hs3.out]
        go_wp2_with fail
        refine (vsum_any _ _ _ V _ R12.out.v).mono ?_
        rintro e v13 ⟨rfl, b⟩
        have R13 := hide (R12.out.on b)
        clear b R12
        rw [Hs4.out]
        go_wp2_with fail
        refine (vsum_any _ _ _ X _ R13.out.t.x).mono ?_
        rintro e v14 ⟨rfl, b⟩
        have R14 := hide (R13.out.on b)
        clear b R13
        rw [Hs1.out]
        go_wp2_with fail
        refine (vsum_any _ _ _ Y _ R14.out.t.y).mono ?_
        rintro e v15 ⟨rfl, b⟩
        have R15 := hide (R14.out.on b)
        clear b R14
        rw [Hs2.out]
        go_wp2_with fail
        refine (merge2_any _ _ _ _ _ _ X Y v15 _ rfl R15.out.t.x R15.out.t.y).mono ?_
        rintro e v16 ⟨a16, n16, c16, rfl, S, b⟩
        rw [HU.out] at S
        have R16 := hide (R15.out.on b)
        have M16 := hide S
        clear b S R15
        go_wp2_with fail
        refine (merge2_any _ _ _ _ _ _ U Z v16 _ rfl M16.out R16.out.t.z).mono ?_
        rintro e v17 ⟨a17, n17, c17, rfl, S, b⟩
        have R17 := hide (R16.out.on b)
        have M17 := hide S
        clear b S R16 M16
        go_wp2_with fail
        refine (merge2_any _ _ _ _ _ _ Y Z v17 _ rfl R17.out.t.y R17.out.t.z).mono ?_
        rintro e v18 ⟨a18, n18, c18, rfl, S, b⟩
        have R18 := hide (R17.out.on b)
        have M18 := hide S
        have L18 := hide (M17.out.below b)
        clear b S R17 M17
        go_wp2_with fail
        refine (merge3_any _ _ _ _ _ _ _ _ _ X _ X v18 _ rfl R18.out.t.x M18.out R18.out.t.x).mono ?_
        rintro e v19 ⟨a19, n19, c19, rfl, S, b⟩
        rw [← AS.out] at S
        have R19 := hide (R18.out.on b)
        have M19 := hide S
        have L19 := hide (L18.out.below b)
        clear b S R18 L18 M18
        go_wp2_with fail
        refine (equal_any a17 a19 n17 n19 c17 c19 _ _ _ L19.out M19.out (small_of L19.out (short_small _))).mono ?_
        rintro e vf ⟨rfl, b⟩
        have RF := hide (R19.out.on b)
        clear b
        go_wp2_with fail
        go_ret
        exact ⟨by simp, RF.out.t.below⟩
      | true =>
        go_wp2_with fail
        refine (most_any _ _ _ _ _ _ Z Y _ R11.out.t.z R11.out.t.y).mono ?_
        rintro e v12 ⟨rfl, b⟩
        have R12 := hide (R11.out.on b)
        clear b R11
        rw [Q2.out]
        cases q2 with
        | false =>
          go_wp2_with fail
          refine (vsum_any _ _ _ U _ R12.out.u).mono ?_
          rintro e v13 ⟨rfl, b⟩
          have R13 := hide (R12.out.on b)
          clear b R12
          rw [Hs3.out]
          go_wp2_with fail
          refine (vsum_any _ _ _ V _ R13.out.v).mono ?_
          rintro e v14 ⟨rfl, b⟩
          have R14 := hide (R13.out.on b)
          clear b R13
          rw [Hs4.out]
          go_wp2_with fail
          refine (vsum_any _ _ _ X _ R14.out.t.x).mono ?_
          rintro e v15 ⟨rfl, b⟩
          have R15 := hide (R14.out.on b)
          clear b R14
          rw [Hs1.out]
          go_wp2_with fail
          refine (vsum_any _ _ _ Y _ R15.out.t.y).mono ?_
          rintro e v16 ⟨rfl, b⟩
          have R16 := hide (R15.out.on b)
          clear b R15
          rw [Hs2.out]
          go_wp2_with fail
          refine (merge2_any _ _ _ _ _ _ X Y v16 _ rfl R16.out.t.x R16.out.t.y).mono ?_
          rintro e v17 ⟨a17, n17, c17, rfl, S, b⟩
          rw [HU.out] at S
          have R17 := hide (R16.out.on b)
          have M17 := hide S
          clear b S R16
          go_wp2_with fail
          refine (merge2_any _ _ _ _ _ _ U Z v17 _ rfl M17.out R17.out.t.z).mono ?_
          rintro e v18 ⟨a18, n18, c18, rfl, S, b⟩
          have R18 := hide (R17.out.on b)
          have M18 := hide S
          clear b S R17 M17
          go_wp2_with fail
          refine (merge2_any _ _ _ _ _ _ Y Z v18 _ rfl R18.out.t.y R18.out.t.z).mono ?_
          rintro e v19 ⟨a19, n19, c19, rfl, S, b⟩
          have R19 := hide (R18.out.on b)
          have M19 := hide S
          have L19 := hide (M18.out.below b)
          clear b S R18 M18
          go_wp2_with fail
          refine (merge3_any _ _ _ _ _ _ _ _ _ X _ X v19 _ rfl R19.out.t.x M19.out R19.out.t.x).mono ?_
          rintro e v20 ⟨a20, n20, c20, rfl, S, b⟩
          rw [← AS.out] at S
          have R20 := hide (R19.out.on b)
          have M20 := hide S
          have L20 := hide (L19.out.below b)
          clear b S R19 L19 M19
          go_wp2_with fail
          refine (equal_any a18 a20 n18 n20 c18 c20 _ _ _ L20.out M20.out (small_of L20.out (short_small _))).mono ?_
          rintro e vf ⟨rfl, b⟩
          have RF := hide (R20.out.on b)
          clear b
          go_wp2_with fail
          go_ret
          exact ⟨by simp, RF.out.t.below⟩
        | true =>
          have VW := hide (VM.out (by trivial) (by trivial))
          go_wp2_with fail
          refine (most_any _ _ _ _ _ _ Z V _ R12.out.t.z R12.out.v).mono ?_
          rintro e v13 ⟨rfl, b⟩
          have R13 := hide (R12.out.on b)
          clear b R12
          rw [VW.out]
          go_wp2_with fail
          refine (vsum_any _ _ _ U _ R13.out.u).mono ?_
          rintro e v14 ⟨rfl, b⟩
          have R14 := hide (R13.out.on b)
          clear b R13
          rw [Hs3.out]
          go_wp2_with fail
          refine (vsum_any _ _ _ V _ R14.out.v).mono ?_
          rintro e v15 ⟨rfl, b⟩
          have R15 := hide (R14.out.on b)
          clear b R14
          rw [Hs4.out]
          go_wp2_with fail
          refine (vsum_any _ _ _ X _ R15.out.t.x).mono ?_
          rintro e v16 ⟨rfl, b⟩
          have R16 := hide (R15.out.on b)
          clear b R15
          rw [Hs1.out]
          go_wp2_with fail
          refine (vsum_any _ _ _ Y _ R16.out.t.y).mono ?_
          rintro e v17 ⟨rfl, b⟩
          have R17 := hide (R16.out.on b)
          clear b R16
          rw [Hs2.out]
          go_wp2_with fail
          refine (merge2_any _ _ _ _ _ _ X Y v17 _ rfl R17.out.t.x R17.out.t.y).mono ?_
          rintro e v18 ⟨a18, n18, c18, rfl, S, b⟩
          rw [HU.out] at S
          have R18 := hide (R17.out.on b)
          have M18 := hide S
          clear b S R17
          go_wp2_with fail
          refine (merge2_any _ _ _ _ _ _ U Z v18 _ rfl M18.out R18.out.t.z).mono ?_
          rintro e v19 ⟨a19, n19, c19, rfl, S, b⟩
          have R19 := hide (R18.out.on b)
          have M19 := hide S
          clear b S R18 M18
          go_wp2_with fail
          refine (merge2_any _ _ _ _ _ _ Y Z v19 _ rfl R19.out.t.y R19.out.t.z).mono ?_
          rintro e v20 ⟨a20, n20, c20, rfl, S, b⟩
          have R20 := hide (R19.out.on b)
          have M20 := hide S
          have L20 := hide (M19.out.below b)
          clear b S R19 M19
          go_wp2_with fail
          refine (merge3_any _ _ _ _ _ _ _ _ _ X _ X v20 _ rfl R20.out.t.x M20.out R20.out.t.x).mono ?_
          rintro e v21 ⟨a21, n21, c21, rfl, S, b⟩
          rw [← AS.out] at S
          have R21 := hide (R20.out.on b)
          have M21 := hide S
          have L21 := hide (L20.out.below b)
          clear b S R20 L20 M20
          go_wp2_with fail
          refine (equal_any a19 a21 n19 n21 c19 c21 _ _ _ L21.out M21.out (small_of L21.out (short_small _))).mono ?_
          rintro e vf ⟨rfl, b⟩
          have RF := hide (R21.out.on b)
          clear b
          go_wp2_with fail
          go_ret
          exact ⟨by simp, RF.out.t.below⟩
    | true =>
      have UW := hide (UL.out (by trivial) (by trivial))
      go_wp2_with fail
      refine (most_any _ _ _ _ _ _ U Z _ R10.out.u R10.out.t.z).mono ?_
      rintro e v11 ⟨rfl, b⟩
      have R11 := hide (R10.out.on b)
      clear b R10
      rw [UW.out]
      go_wp2_with fail
      refine (most_any _ _ _ _ _ _ Z X _ R11.out.t.z R11.out.t.x).mono ?_
      rintro e v12 ⟨rfl, b⟩
      have R12 := hide (R11.out.on b)
      clear b R11
      rw [Q1.out]
      cases q1 with
      | false =>
        go_wp2_with fail
        refine (vsum_any _ _ _ U _ R12.out.u).mono ?_
        rintro e v13 ⟨rfl, b⟩
        have R13 := hide (R12.out.on b)
        clear b R12
        rw [Hs3.out]
        go_wp2_with fail
        refine (vsum_any _ _ _ V _ R13.out.v).mono ?_
        rintro e v14 ⟨rfl, b⟩
        have R14 := hide (R13.out.on b)
        clear b R13
        rw [Hs4.out]
        go_wp2_with fail
        refine (vsum_any _ _ _ X _ R14.out.t.x).mono ?_
        rintro e v15 ⟨rfl, b⟩
        have R15 := hide (R14.out.on b)
        clear b R14
        rw [Hs1.out]
        go_wp2_with fail
        refine (vsum_any _ _ _ Y _ R15.out.t.y).mono ?_
        rintro e v16 ⟨rfl, b⟩
        have R16 := hide (R15.out.on b)
        clear b R15
        rw [Hs2.out]
        go_wp2_with fail
        refine (merge2_any _ _ _ _ _ _ X Y v16 _ rfl R16.out.t.x R16.out.t.y).mono ?_
        rintro e v17 ⟨a17, n17, c17, rfl, S, b⟩
        rw [HU.out] at S
        have R17 := hide (R16.out.on b)
        have M17 := hide S
        clear b S R16
        go_wp2_with fail
        refine (merge2_any _ _ _ _ _ _ U Z v17 _ rfl M17.out R17.out.t.z).mono ?_
        rintro e v18 ⟨a18, n18, c18, rfl, S, b⟩
        have R18 := hide (R17.out.on b)
        have M18 := hide S
        clear b S R17 M17
        go_wp2_with fail
        refine (merge2_any _ _ _ _ _ _ Y Z v18 _ rfl R18.out.t.y R18.out.t.z).mono ?_
        rintro e v19 ⟨a19, n19, c19, rfl, S, b⟩
        have R19 := hide (R18.out.on b)
        have M19 := hide S
        have L19 := hide (M18.out.below b)
        clear b S R18 M18
        go_wp2_with fail
        refine (merge3_any _ _ _ _ _ _ _ _ _ X _ X v19 _ rfl R19.out.t.x M19.out R19.out.t.x).mono ?_
        rintro e v20 ⟨a20, n20, c20, rfl, S, b⟩
        rw [← AS.out] at S
        have R20 := hide (R19.out.on b)
        have M20 := hide S
        have L20 := hide (L19.out.below b)
        clear b S R19 L19 M19
        go_wp2_with fail
        refine (equal_any a18 a20 n18 n20 c18 c20 _ _ _ L20.out M20.out (small_of L20.out (short_small _))).mono ?_
        rintro e vf ⟨rfl, b⟩
        have RF := hide (R20.out.on b)
        clear b
        go_wp2_with fail
        go_ret
        exact ⟨by simp, RF.out.t.below⟩
      | true =>
        go_wp2_with fail
        refine (most_any _ _ _ _ _ _ Z Y _ R12.out.t.z R12.out.t.y).mono ?_
        rintro e v13 ⟨rfl, b⟩
        have R13 := hide (R12.out.on b)
        clear b R12
        rw [Q2.out]
        cases q2 with
        | false =>
          go_wp2_with fail
          refine (vsum_any _ _ _ U _ R13.out.u).mono ?_
          rintro e v14 ⟨rfl, b⟩
          have R14 := hide (R13.out.on b)
          clear b R13
          rw [Hs3.out]
          go_wp2_with fail
          refine (vsum_any _ _ _ V _ R14.out.v).mono ?_
          rintro e v15 ⟨rfl, b⟩
          have R15 := hide (R14.out.on b)
          clear b R14
          rw [Hs4.out]
          go_wp2_with fail
          refine (vsum_any _ _ _ X _ R15.out.t.x).mono ?_
          rintro e v16 ⟨rfl, b⟩
          have R16 := hide (R15.out.on b)
          clear b R15
          rw [Hs1.out]
          go_wp2_with fail
          refine (vsum_any _ _ _ Y _ R16.out.t.y).mono ?_
          rintro e v17 ⟨rfl, b⟩
          have R17 := hide (R16.out.on b)
          clear b R16
          rw [Hs2.out]
          go_wp2_with fail
          refine (merge2_any _ _ _ _ _ _ X Y v17 _ rfl R17.out.t.x R17.out.t.y).mono ?_
          rintro e v18 ⟨a18, n18, c18, rfl, S, b⟩
          rw [HU.out] at S
          have R18 := hide (R17.out.on b)
          have M18 := hide S
          clear b S R17
          go_wp2_with fail
          refine (merge2_any _ _ _ _ _ _ U Z v18 _ rfl M18.out R18.out.t.z).mono ?_
          rintro e v19 ⟨a19, n19, c19, rfl, S, b⟩
          have R19 := hide (R18.out.on b)
          have M19 := hide S
          clear b S R18 M18
          go_wp2_with fail
          refine (merge2_any _ _ _ _ _ _ Y Z v19 _ rfl R19.out.t.y R19.out.t.z).mono ?_
          rintro e v20 ⟨a20, n20, c20, rfl, S, b⟩
          have R20 := hide (R19.out.on b)
          have M20 := hide S
          have L20 := hide (M19.out.below b)
          clear b S R19 M19
          go_wp2_with fail
          refine (merge3_any _ _ _ _ _ _ _ _ _ X _ X v20 _ rfl R20.out.t.x M20.out R20.out.t.x).mono ?_
          rintro e v21 ⟨a21, n21, c21, rfl, S, b⟩
          rw [← AS.out] at S
          have R21 := hide (R20.out.on b)
          have M21 := hide S
          have L21 := hide (L20.out.below b)
          clear b S R20 L20 M20
          go_wp2_with fail
          refine (equal_any a19 a21 n19 n21 c19 c21 _ _ _ L21.out M21.out (small_of L21.out (short_small _))).mono ?_
          rintro e vf ⟨rfl, b⟩
          have RF := hide (R21.out.on b)
          clear b
          go_wp2_with fail
          go_ret
          exact ⟨by simp, RF.out.t.below⟩
        | true =>
          have VW := hide (VM.out (by trivial) (by trivial))
          go_wp2_with fail
          refine (most_any _ _ _ _ _ _ Z V _ R13.out.t.z R13.out.v).mono ?_
          rintro e v14 ⟨rfl, b⟩
          have R14 := hide (R13.out.on b)
          clear b R13
          rw [VW.out]
          go_wp2_with fail
          refine (vsum_any _ _ _ U _ R14.out.u).mono ?_
          rintro e v15 ⟨rfl, b⟩
          have R15 := hide (R14.out.on b)
          clear b R14
          rw [Hs3.out]
          go_wp2_with fail
          refine (vsum_any _ _ _ V _ R15.out.v).mono ?_
          rintro e v16 ⟨rfl, b⟩
          have R16 := hide (R15.out.on b)
          clear b R15
          rw [Hs4.out]
          go_wp2_with fail
          refine (vsum_any _ _ _ X _ R16.out.t.x).mono ?_
          rintro e v17 ⟨rfl, b⟩
          have R17 := hide (R16.out.on b)
          clear b R16
          rw [Hs1.out]
          go_wp2_with fail
          refine (vsum_any _ _ _ Y _ R17.out.t.y).mono ?_
          rintro e v18 ⟨rfl, b⟩
          have R18 := hide (R17.out.on b)
          clear b R17
          rw [Hs2.out]
          go_wp2_with fail
          refine (merge2_any _ _ _ _ _ _ X Y v18 _ rfl R18.out.t.x R18.out.t.y).mono ?_
          rintro e v19 ⟨a19, n19, c19, rfl, S, b⟩
          rw [HU.out] at S
          have R19 := hide (R18.out.on b)
          have M19 := hide S
          clear b S R18
          go_wp2_with fail
          refine (merge2_any _ _ _ _ _ _ U Z v19 _ rfl M19.out R19.out.t.z).mono ?_
          rintro e v20 ⟨a20, n20, c20, rfl, S, b⟩
          have R20 := hide (R19.out.on b)
          have M20 := hide S
          clear b S R19 M19
          go_wp2_with fail
          refine (merge2_any _ _ _ _ _ _ Y Z v20 _ rfl R20.out.t.y R20.out.t.z).mono ?_
          rintro e v21 ⟨a21, n21, c21, rfl, S, b⟩
          have R21 := hide (R20.out.on b)
          have M21 := hide S
          have L21 := hide (M20.out.below b)
          clear b S R20 M20
          go_wp2_with fail
          refine (merge3_any _ _ _ _ _ _ _ _ _ X _ X v21 _ rfl R21.out.t.x M21.out R21.out.t.x).mono ?_
          rintro e v22 ⟨a22, n22, c22, rfl, S, b⟩
          rw [← AS.out] at S
          have R22 := hide (R21.out.on b)
          have M22 := hide S
          have L22 := hide (L21.out.below b)
          clear b S R21 L21 M21
          go_wp2_with fail
          refine (equal_any a20 a22 n20 n22 c20 c22 _ _ _ L22.out M22.out (small_of L22.out (short_small _))).mono ?_
          rintro e vf ⟨rfl, b⟩
          have RF := hide (R22.out.on b)
          clear b
          go_wp2_with fail
          go_ret
          exact ⟨by simp, RF.out.t.below⟩
end Go.Proofs.Ytdilejbdkhkifab
