/- The law's plays: again. -/
import Derived.Test.YtgnclfeicgbjpaaDPz
import Derived.OrdersHeld
namespace Go.Proofs.Ytgnclfeicgbjpaa
open Go.RowKit
variable {w w' w2 : World} {β β' : Nat × Nat → Option Nat} {B i g h : Nat} {m nx : Int} {Z : List Int} {al : Option Addr} {cl : Nat} {s : Int} {k : Nat} {A : List Int} {ar : Option Addr} {cr : Nat}

set_option maxRecDepth 100000 in
set_option maxHeartbeats 3200000 in
theorem plays7 (w : World) (R : Reg w β) (P : Pw B w β i g h m nx Z al cl s k A ar cr) (N : Nat) (hN : A.length ≤ N) (hN2 : N < 4399000000000) (hB : B ≤ w.heap.size) (kd : Int) (sc : Bool) (nn xx : Int) (hk : kd = 7) : Calls Try.prog 8 #[ptr g, ptr h, .agg #[.int .i64 kd, .bool sc, .int .i64 nn, .int .i64 xx]] w fun e w' => e = .returned (.bool true) ∧ PyA B w w' β i g h N := by
  have HR := hide R
  have HP := hide P
  obtain ⟨w1, hw1⟩ : ∃ w1, w.alloc (.cells #[.int .i64 kd, .bool sc, .int .i64 nn, .int .i64 xx] 31) = w1 := ⟨_, rfl⟩
  have hb1 : Below w.heap.size w w1 := by rw [← hw1]; exact below_new _ _
  have hx1 : DBox w1 w.heap.size ⟨kd, sc, nn, xx⟩ := by rw [← hw1]; exact dbox_new w ⟨kd, sc, nn, xx⟩
  have hc0 : w1.cell? ⟨w.heap.size, 0, none⟩ = some (.int .i64 kd) := hx1.at.c0
  have hc2 : w1.cell? ⟨w.heap.size, 2, none⟩ = some (.int .i64 nn) := hx1.at.c2
  have hc3 : w1.cell? ⟨w.heap.size, 3, none⟩ = some (.int .i64 xx) := hx1.at.c3
  have HB1 := hide hb1
  have HX1 := hide hx1
  have HP1 := hide (P.below hb1)
  have e1 : (kd == 1) = false := by rw [hk]; rfl
  have e2 : (kd == 2) = false := by rw [hk]; rfl
  have e3 : (kd == 3) = false := by rw [hk]; rfl
  have e4 : (kd == 4) = false := by rw [hk]; rfl
  have e5 : (kd == 5) = false := by rw [hk]; rfl
  have e6 : (kd == 6) = false := by rw [hk]; rfl
  have e7 : (kd == 7) = true := by rw [hk]; rfl
  clear hk
  clear R P hb1 hx1
  go_enter Try.func8, Try.ntmps8
  go_wp2_with fail
  obtain ⟨n1, hn1⟩ : ∃ n1, s + (k : Int) = n1 := ⟨_, rfl⟩
  obtain ⟨n2, hn2⟩ : ∃ n2, s + (A.length : Int) - 1 = n2 := ⟨_, rfl⟩
  have hwn : wrap64 n2 = n2 := by rw [← hn2]; have := HP.out.ag.rb.s0; have := HP.out.ag.rb.s1; have := HP.out.ag.rb.l; exact w64 (by omega) (by omega)
  have hag1 := HP.out.ag.at n1
  have hag2 := HP.out.ag.at n2
  obtain ⟨vb1, hvb1⟩ : ∃ vb, ratB s k A n1 = vb := ⟨_, rfl⟩
  obtain ⟨vv1, hvv1⟩ : ∃ vv, ratV s k A n1 = vv := ⟨_, rfl⟩
  obtain ⟨vb2, hvb2⟩ : ∃ vb, ratB s k A n2 = vb := ⟨_, rfl⟩
  obtain ⟨vv2, hvv2⟩ : ∃ vv, ratV s k A n2 = vv := ⟨_, rfl⟩
  rw [hvb1, hvv1] at hag1
  rw [hvb2, hvv2] at hag2
  have HA1 : Hid (∀ v, Pw B v β i g h m nx Z al cl s k A ar cr → Calls Try.prog 13 #[ptr g, .int .i64 n1] v fun e w' => e = .returned (.tuple #[.int .i64 vv1, .bool vb1]) ∧ Below v.heap.size v w') := fun v Pv => by
    refine (at_any v Pv.lg Pv.ag.bd n1).mono ?_
    rintro e w' ⟨he, q, hq⟩
    rw [hag1.1, hag1.2] at he
    subst hq
    exact ⟨he, below_drewN v q⟩
  have HA2 : Hid (∀ v, Pw B v β i g h m nx Z al cl s k A ar cr → Calls Try.prog 13 #[ptr g, .int .i64 n2] v fun e w' => e = .returned (.tuple #[.int .i64 vv2, .bool vb2]) ∧ Below v.heap.size v w') := fun v Pv => by
    refine (at_any v Pv.lg Pv.ag.bd n2).mono ?_
    rintro e w' ⟨he, q, hq⟩
    rw [hag2.1, hag2.2] at he
    subst hq
    exact ⟨he, below_drewN v q⟩
  have HC1 : Hid (∀ v, Pw B v β i g h m nx Z al cl s k A ar cr → Calls Try.prog 21 #[ptr h, .int .i64 n1] v fun e w' => e = .returned (.tuple #[.int .i64 vv1, .bool vb1]) ∧ Below v.heap.size v w') := fun v Pv => by
    refine (rat_any v Pv.rf Pv.ag.rb n1).mono ?_
    rintro e w' ⟨he, hq⟩
    rw [hvb1, hvv1] at he
    exact ⟨he, hq⟩
  have HC2 : Hid (∀ v, Pw B v β i g h m nx Z al cl s k A ar cr → Calls Try.prog 21 #[ptr h, .int .i64 n2] v fun e w' => e = .returned (.tuple #[.int .i64 vv2, .bool vb2]) ∧ Below v.heap.size v w') := fun v Pv => by
    refine (rat_any v Pv.rf Pv.ag.rb n2).mono ?_
    rintro e w' ⟨he, hq⟩
    rw [hvb2, hvv2] at he
    exact ⟨he, hq⟩
  have HFi : Hid (∀ v, Pw B v β i g h m nx Z al cl s k A ar cr → Calls Try.prog 19 #[ptr h] v fun e w' => e = .returned (.int .i64 n1) ∧ Below v.heap.size v w') := fun v Pv => by
    refine (rfirst_any v Pv.rf Pv.ag.rb).mono ?_
    rintro e w' ⟨he, q, hq⟩
    rw [hn1] at he
    subst hq
    exact ⟨he, below_drewN v q⟩
  obtain ⟨n3, hn3⟩ : ∃ n3, s + (A.length : Int) = n3 := ⟨_, rfl⟩
  have HNx : Hid (∀ v, Pw B v β i g h m nx Z al cl s k A ar cr → Calls Try.prog 20 #[ptr h] v fun e w' => e = .returned (.int .i64 n3) ∧ Below v.heap.size v w') := fun v Pv => by
    refine (rnext_any v Pv.rf Pv.ag.rb).mono ?_
    rintro e w' ⟨he, q, hq⟩
    rw [hn3] at he
    subst hq
    exact ⟨he, below_drewN v q⟩
  have hn32 : n3 - 1 = n2 := by omega
  clear hag1 hag2 hvb1 hvv1 hvb2 hvv2 hn1 hn2 hn3
  have hvb1 : (vb1 == vb1) = true := by simp
  have hvb2 : (vb2 == vb2) = true := by simp
  refine (HFi.out _ HP1.out).mono ?_
  rintro e w2 ⟨rfl, bb⟩
  have HP2 := hide (HP1.out.below bb)
  have HB2 := hide (below_on' HB1.out bb)
  clear bb
  go_wp2_with fail
  refine (HA1.out _ HP2.out).mono ?_
  rintro e w3 ⟨rfl, bb⟩
  have HP3 := hide (HP2.out.below bb)
  have HB3 := hide (below_on' HB2.out bb)
  clear bb
  go_wp2_with fail
  refine (HFi.out _ HP3.out).mono ?_
  rintro e w4 ⟨rfl, bb⟩
  have HP4 := hide (HP3.out.below bb)
  have HB4 := hide (below_on' HB3.out bb)
  clear bb
  go_wp2_with fail
  refine (HC1.out _ HP4.out).mono ?_
  rintro e w5 ⟨rfl, bb⟩
  have HP5 := hide (HP4.out.below bb)
  have HB5 := hide (below_on' HB4.out bb)
  clear bb
  go_wp2_with fail
  refine (HNx.out _ HP5.out).mono ?_
  rintro e w6 ⟨rfl, bb⟩
  have HP6 := hide (HP5.out.below bb)
  have HB6 := hide (below_on' HB5.out bb)
  clear bb
  go_wp2_with fail
  refine (HA2.out _ HP6.out).mono ?_
  rintro e w7 ⟨rfl, bb⟩
  have HP7 := hide (HP6.out.below bb)
  have HB7 := hide (below_on' HB6.out bb)
  clear bb
  go_wp2_with fail
  refine (HNx.out _ HP7.out).mono ?_
  rintro e w8 ⟨rfl, bb⟩
  have HP8 := hide (HP7.out.below bb)
  have HB8 := hide (below_on' HB7.out bb)
  clear bb
  go_wp2_with fail
  refine (HC2.out _ HP8.out).mono ?_
  rintro e w9 ⟨rfl, bb⟩
  have HP9 := hide (HP8.out.below bb)
  have HB9 := hide (below_on' HB8.out bb)
  clear bb
  go_wp2_with fail
  go_ret
  exact ⟨by simp, PyA.stay HR.out HP.out hN hB HB9.out⟩
end Go.Proofs.Ytgnclfeicgbjpaa
