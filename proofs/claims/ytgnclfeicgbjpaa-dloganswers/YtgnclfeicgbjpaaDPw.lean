/- The law's plays: walk. -/
import Derived.Test.YtgnclfeicgbjpaaDPz
import Derived.OrdersHeld
namespace Go.Proofs.Ytgnclfeicgbjpaa
open Go.RowKit
variable {w w' w2 : World} {β β' : Nat × Nat → Option Nat} {B i g h : Nat} {m nx : Int} {Z : List Int} {al : Option Addr} {cl : Nat} {s : Int} {k : Nat} {A : List Int} {ar : Option Addr} {cr : Nat}

set_option maxRecDepth 100000 in
set_option maxHeartbeats 3200000 in
theorem plays6 (w : World) (R : Reg w β) (P : Pw B w β i g h m nx Z al cl s k A ar cr) (N : Nat) (hN : A.length ≤ N) (_ : N < 4399000000000) (hB : B ≤ w.heap.size) (kd : Int) (sc : Bool) (nn xx : Int) (hk : kd = 6) : Calls Try.prog 8 #[ptr g, ptr h, .agg #[.int .i64 kd, .bool sc, .int .i64 nn, .int .i64 xx]] w fun e w' => e = .returned (.bool true) ∧ PyA B w w' β i g h N := by
  have HR := hide R
  have HP := hide P
  obtain ⟨w1, hw1⟩ : ∃ w1, w.alloc (.cells #[.int .i64 kd, .bool sc, .int .i64 nn, .int .i64 xx] 31) = w1 := ⟨_, rfl⟩
  have hb1 : Below w.heap.size w w1 := by rw [← hw1]; exact below_new _ _
  have hx1 : DBox w1 w.heap.size ⟨kd, sc, nn, xx⟩ := by rw [← hw1]; exact dbox_new w ⟨kd, sc, nn, xx⟩
  have hc0 : w1.cell? ⟨w.heap.size, 0, none⟩ = some (.int .i64 kd) := hx1.at.c0
  have hc2 : w1.cell? ⟨w.heap.size, 2, none⟩ = some (.int .i64 nn) := hx1.at.c2
  have hc3 : w1.cell? ⟨w.heap.size, 3, none⟩ = some (.int .i64 xx) := hx1.at.c3
  have HB1 := hide hb1
  have HX1 := hide hx1
  have HP1 := hide (P.below hb1)
  have e1 : (kd == 1) = false := by rw [hk]; rfl
  have e2 : (kd == 2) = false := by rw [hk]; rfl
  have e3 : (kd == 3) = false := by rw [hk]; rfl
  have e4 : (kd == 4) = false := by rw [hk]; rfl
  have e5 : (kd == 5) = false := by rw [hk]; rfl
  have e6 : (kd == 6) = true := by rw [hk]; rfl
  clear hk
  clear R P hb1 hx1
  go_enter Try.func8, Try.ntmps8
  go_wp2_with fail
  refine (walked_any _ HP1.out.lg HP1.out.ag.bd HP1.out.z nn xx).mono ?_
  rintro e w2 ⟨v1, v2, rfl, o1, o2, b2⟩
  obtain ⟨a1, c1, rfl, r1⟩ := IR.out (own_down o1 (Nat.zero_le _))
  obtain ⟨a2, c2, rfl, r2⟩ := IR.out (own_down o2 (Nat.zero_le _))
  obtain ⟨j0, M, hmax, hM, hM64, hnums, hits⟩ := HP.out.ag.walk HP.out.z nn
  rw [hnums] at r1
  rw [hits] at r2
  rw [hnums, hits]
  have hMI : (numsF (s + (j0 : Int)) M).length = M := numsF_len _ _
  obtain ⟨X1, hX1⟩ : ∃ X1, numsF (s + (j0 : Int)) M = X1 := ⟨_, rfl⟩
  obtain ⟨X2, hX2⟩ : ∃ X2, (A.drop j0).take M = X2 := ⟨_, rfl⟩
  have HP2 := hide (HP1.out.below b2)
  have HB2 := hide (below_on' HB1.out b2)
  have hd2 : w2.cell? ⟨w.heap.size, 2, none⟩ = some (.int .i64 nn) := (b2.cell HX1.out.lt).trans hc2
  have hX2b : DBox w2 w.heap.size ⟨kd, sc, nn, xx⟩ := (b2.block _ HX1.out.lt).trans HX1.out
  have HX2 := hide hX2b
  have HC := hide (rheld_any w2 HP2.out.rf HP2.out.ag.rb nn j0 M hmax hM (by omega))
  rw [hX1, hX2] at HC
  rw [hX1] at r1 hMI
  rw [hX2] at r2
  rw [hX1, hX2]
  have HR1 := hide r1.src
  have HR2 := hide r2.src
  obtain ⟨l1, hl1⟩ : ∃ l1, (cutI X1 xx).length = l1 := ⟨_, rfl⟩
  obtain ⟨l2, hl2⟩ : ∃ l2, (cutI X2 xx).length = l2 := ⟨_, rfl⟩
  have hb1l : l1 ≤ 1000 := by have := cutI_len X1 xx; omega
  have hb2l : l2 ≤ 1000 := by
    have h1 : X2.length ≤ M := by rw [← hX2, List.length_take]; omega
    have := cutI_len X2 xx
    omega
  rw [hl1] at HR1
  rw [hl2] at HR2
  rw [hl1, hl2]
  clear hmax hM hnums hits hMI hX1 hX2 r1 r2 o1 o2 b2 hl1 hl2 hX2b
  go_wp2_with fail
  refine HC.out.mono ?_
  rintro e w3 ⟨d1, e1', d2, e2', rfl, q1, q2, b3⟩
  have HQ1 := hide q1
  have HQ2 := hide q2
  have HB3 := hide (below_on' HB2.out b3)
  have HS1 := hide (HR1.out.below b3)
  have HS2 := hide (HR2.out.below b3)
  have hd3 : w3.cell? ⟨w.heap.size, 3, none⟩ = some (.int .i64 xx) := (b3.cell HX2.out.lt).trans HX2.out.at.c3
  have HX3 : Hid (DBox w3 w.heap.size ⟨kd, sc, nn, xx⟩) := (b3.block _ HX2.out.lt).trans HX2.out
  clear q1 q2 b3 HC HR1 HR2
  go_wp2_with fail
  refine (cut_any _ _ _ _ xx w3 HQ1.out.src (by omega) HQ1.out.caps.1 HQ1.out.caps.2).mono ?_
  rintro e w4 ⟨⟨f1, g1, h1, rfl, s1⟩, rfl⟩
  have HT1 := hide s1
  clear s1
  go_wp2_with fail
  refine (sameInts_true _ _ _ _ _ _ _ _ HS1.out HT1.out (by omega)).mono ?_
  rintro e w5 ⟨rfl, b5⟩
  have HB5 := hide (below_on' HB3.out b5)
  have HS5 := hide (HS2.out.below b5)
  have HQ5 := hide (HQ2.out.below b5)
  have hd5 : w5.cell? ⟨w.heap.size, 3, none⟩ = some (.int .i64 xx) := (b5.cell HX3.out.lt).trans HX3.out.at.c3
  clear b5
  go_wp2_with fail
  refine (cut_any _ _ _ _ xx w5 HQ5.out.src (by omega) HQ5.out.caps.1 HQ5.out.caps.2).mono ?_
  rintro e w6 ⟨⟨f2, g2, h2, rfl, s2⟩, rfl⟩
  have HT2 := hide s2
  clear s2
  go_wp2_with fail
  refine (sameInts_true _ _ _ _ _ _ _ _ HS5.out HT2.out (by omega)).mono ?_
  rintro e w7 ⟨rfl, b7⟩
  have HB7 := hide (below_on' HB5.out b7)
  clear b7
  go_wp2_with fail
  go_ret
  exact ⟨rfl, PyA.stay HR.out HP.out hN hB HB7.out⟩
end Go.Proofs.Ytgnclfeicgbjpaa
