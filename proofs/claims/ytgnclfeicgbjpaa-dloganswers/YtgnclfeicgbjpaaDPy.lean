/- The law's plays. -/
import Derived.Test.YtgnclfeicgbjpaaDRh
import Derived.OrdersHeld
namespace Go.Proofs.Ytgnclfeicgbjpaa
open Go.RowKit
variable {w w' w2 : World} {β β' : Nat × Nat → Option Nat} {B i g h : Nat} {m nx : Int} {Z : List Int} {al : Option Addr} {cl : Nat} {s : Int} {k : Nat} {A : List Int} {ar : Option Addr} {cr : Nat}

/-- a log and the reference's beside it, that say the same -/
structure Pw (B : Nat) (w : World) (β : Nat × Nat → Option Nat) (i g h : Nat) (m nx : Int) (Z : List Int) (al : Option Addr) (cl : Nat) (s : Int) (k : Nat) (A : List Int) (ar : Option Addr) (cr : Nat) : Prop where
  lg : Lg B w g m nx Z al cl
  rf : Rf B w h m s k A ar cr
  ag : Ag m nx s k Z A
  z : Z.length ≤ 64
  n0 : β (i, 0) = some g
  n1 : β (i, 1) = blk al
  n2 : β (i, 2) = some h
  n3 : β (i, 3) = blk ar
theorem Pw.below (P : Pw B w β i g h m nx Z al cl s k A ar cr) (hb : Below w.heap.size w w') : Pw B w' β i g h m nx Z al cl s k A ar cr := ⟨P.lg.below hb, P.rf.below hb, P.ag, P.z, P.n0, P.n1, P.n2, P.n3⟩
theorem Pw.keep (P : Pw B w β i g h m nx Z al cl s k A ar cr) (hk : ∀ x, x.1 = i → β' x = β x ∧ ∀ j, β x = some j → w'.heap[j]? = w.heap[j]?) : Pw B w' β' i g h m nx Z al cl s k A ar cr :=
  ⟨P.lg.on ((hk (i, 0) rfl).2 g P.n0) (fun ad e => (hk (i, 1) rfl).2 ad.block (by rw [P.n1]; exact blk_of e)), P.rf.on ((hk (i, 2) rfl).2 h P.n2) (fun ad e => (hk (i, 3) rfl).2 ad.block (by rw [P.n3]; exact blk_of e)), P.ag, P.z, by rw [(hk (i, 0) rfl).1]; exact P.n0, by rw [(hk (i, 1) rfl).1]; exact P.n1, by rw [(hk (i, 2) rfl).1]; exact P.n2, by rw [(hk (i, 3) rfl).1]; exact P.n3⟩
theorem lgRow (L : Lg B w g m nx Z al cl) : ∀ ad, al = some ad → ad.block < w.heap.size := fun ad e => (L.row ad e).2
theorem rfRow {k : Int} (L : Rf B w h m s k A ar cr) : ∀ ad, ar = some ad → ad.block < w.heap.size := fun ad e => (L.row ad e).2
/-- what plays leaves -/
def PyA (B : Nat) (w w' : World) (β : Nat × Nat → Option Nat) (i g h N : Nat) : Prop :=
  ∃ (β' : Nat × Nat → Option Nat) (m nx : Int) (Z : List Int) (al : Option Addr) (cl : Nat) (s : Int) (k : Nat) (A : List Int) (ar : Option Addr) (cr : Nat), Reg w' β' ∧ Pw B w' β' i g h m nx Z al cl s k A ar cr ∧ A.length ≤ N + 1 ∧ (∀ x, x.1 ≠ i → β' x = β x ∧ ∀ j, β x = some j → w'.heap[j]? = w.heap[j]?) ∧ Below B w w'
theorem PyA.stay (R : Reg w β) (P : Pw B w β i g h m nx Z al cl s k A ar cr) {N : Nat} (hN : A.length ≤ N) (hB : B ≤ w.heap.size) (hb : Below w.heap.size w w') : PyA B w w' β i g h N :=
  ⟨β, m, nx, Z, al, cl, s, k, A, ar, cr, R.below hb, P.below hb, by omega, fun x _ => ⟨rfl, fun j e => hb.block j (R.lt x j e)⟩, hb.mono hB⟩
/-- both logs changed -/
theorem PyA.both {w1 w3 : World} {nx' : Int} {Z' : List Int} {al' : Option Addr} {cl' k' : Nat} {A' : List Int} {ar' : Option Addr} {cr' N : Nat} (R : Reg w β) (P : Pw B w β i g h m nx Z al cl s k A ar cr) (hB : B ≤ w.heap.size) (hb1 : Below w.heap.size w w1)
    (L2 : Lg B w2 g m nx' Z' al' cl') (K2 : Kp w1 w2 g al) (N2 : Nw w1 al al') (L3 : Rf B w3 h m s k' A' ar' cr') (K3 : Kp w2 w3 h ar) (N3 : Nw w2 ar ar') (ha : Ag m nx' s k' Z' A') (hz : Z'.length ≤ 64) (hN : A'.length ≤ N + 1) : PyA B w w3 β i g h N := by
  have R1 := R.below hb1
  have P1 := P.below hb1
  obtain ⟨R2, k2⟩ := R1.kp K2 N2 (i, 0) (i, 1) P1.n0 P1.n1 (lgRow L2)
  have e2 : ∀ z, z ≠ (i, 1) → upd β (i, 1) (blk al') z = β z := fun z hz => upd_ne hz
  have ne {a b : Nat} (hab : a ≠ b) : ((i, a) : Nat × Nat) ≠ (i, b) := fun e => hab (by cases e; rfl)
  obtain ⟨R3, k3⟩ := R2.kp K3 N3 (i, 2) (i, 3) (by rw [e2 _ (ne (by decide))]; exact P1.n2) (by rw [e2 _ (ne (by decide))]; exact P1.n3) (rfRow L3)
  have Lg3 : Lg B w3 g m nx' Z' al' cl' := L2.on (k3 (i, 0) (ne (by decide)) (ne (by decide)) g (by rw [e2 _ (ne (by decide))]; exact P1.n0)) (fun ad e => k3 (i, 1) (ne (by decide)) (ne (by decide)) ad.block (by rw [upd_at]; exact blk_of e))
  refine ⟨_, m, nx', Z', al', cl', s, k', A', ar', cr', R3, ⟨Lg3, L3, ha, hz, ?_, ?_, ?_, ?_⟩, hN, fun x hx => ?_, ?_⟩
  · rw [upd_ne (ne (by decide)), e2 _ (ne (by decide))]; exact P1.n0
  · rw [upd_ne (ne (by decide)), upd_at]
  · rw [upd_ne (ne (by decide)), e2 _ (ne (by decide))]; exact P1.n2
  · rw [upd_at]
  · have x1 : ∀ a, x ≠ (i, a) := fun a e => hx (by rw [e])
    refine ⟨by rw [upd_ne (x1 3), e2 _ (x1 1)], fun j e => ?_⟩
    rw [k3 x (x1 2) (x1 3) j (by rw [e2 _ (x1 1)]; exact e), k2 x (x1 0) (x1 1) j e]
    exact hb1.block j (R.lt x j e)
  · have b1 : Below B w w1 := hb1.mono hB
    have b2 := K2.below b1 P1.lg.hg (fun ad e => (P1.lg.row ad e).1) (Nat.le_trans hB b1.size)
    exact K3.below b2 P1.rf.hg (fun ad e => (P1.rf.row ad e).1) (Nat.le_trans hB b2.size)
theorem Ag.at (h : Ag m nx s k Z A) (n : Int) : heldB nx Z n = ratB s k A n ∧ heldV nx Z n = ratV s k A n := by
  have hf := h.first
  have hx := h.nx
  have e1 : heldB nx Z n = ratB s k A n := by unfold heldB ratB; rw [hf, hx]
  refine ⟨e1, ?_⟩
  unfold heldV ratV
  rw [e1]
  split
  · rename_i hb
    unfold ratB at hb
    simp only [decide_eq_true_eq] at hb
    rw [hf, h.z]
    have := h.rb.k0
    rw [show (n - s).toNat = k + (n - (s + k)).toNat by omega]
    simp [List.getD, List.getElem?_drop]
  · rfl
theorem Ag.from (h : Ag m nx s k Z A) (n : Int) : fromB nx Z n = rfB s k A n ∧ fromV nx Z n = rfV s k A n := by
  have hf := h.first
  have hx := h.nx
  have e1 : fromB nx Z n = rfB s k A n := by unfold fromB rfB; rw [hf, hx]
  refine ⟨e1, ?_⟩
  unfold fromV rfV
  rw [e1]
  split
  · rename_i hb
    unfold rfB at hb
    simp only [decide_eq_true_eq] at hb
    rw [hf, h.z, List.drop_drop]
    congr 1
    omega
  · rfl
set_option maxRecDepth 100000 in
set_option maxHeartbeats 3200000 in
theorem plays2 (w : World) (R : Reg w β) (P : Pw B w β i g h m nx Z al cl s k A ar cr) (N : Nat) (hN : A.length ≤ N) (_ : N < 4399000000000) (hB : B ≤ w.heap.size) (kd : Int) (sc : Bool) (nn xx : Int) (hk : kd = 2) : Calls Try.prog 8 #[ptr g, ptr h, .agg #[.int .i64 kd, .bool sc, .int .i64 nn, .int .i64 xx]] w fun e w' => e = .returned (.bool true) ∧ PyA B w w' β i g h N := by
  have HR := hide R
  have HP := hide P
  obtain ⟨w1, hw1⟩ : ∃ w1, w.alloc (.cells #[.int .i64 kd, .bool sc, .int .i64 nn, .int .i64 xx] 31) = w1 := ⟨_, rfl⟩
  have hb1 : Below w.heap.size w w1 := by rw [← hw1]; exact below_new _ _
  have hx1 : DBox w1 w.heap.size ⟨kd, sc, nn, xx⟩ := by rw [← hw1]; exact dbox_new w ⟨kd, sc, nn, xx⟩
  have hc0 : w1.cell? ⟨w.heap.size, 0, none⟩ = some (.int .i64 kd) := hx1.at.c0
  have hc2 : w1.cell? ⟨w.heap.size, 2, none⟩ = some (.int .i64 nn) := hx1.at.c2
  have hc3 : w1.cell? ⟨w.heap.size, 3, none⟩ = some (.int .i64 xx) := hx1.at.c3
  have HB1 := hide hb1
  have HX1 := hide hx1
  have HP1 := hide (P.below hb1)
  have e1 : (kd == 1) = false := by rw [hk]; rfl
  have e2 : (kd == 2) = true := by rw [hk]; rfl
  clear hk
  clear R P hb1 hx1
  go_enter Try.func8, Try.ntmps8
  go_wp2_with fail
  refine (first_any _ HP1.out.lg HP1.out.ag.bd).mono ?_
  rintro e w2 ⟨rfl, q2, hw2⟩
  have b2 := hw2 ▸ below_drewN w1 q2
  have HP2 := hide (HP1.out.below b2)
  have HB2 := hide (below_on' HB1.out b2)
  clear hw2 b2
  rw [HP2.out.ag.first]
  go_wp2_with fail
  refine (rfirst_any _ HP2.out.rf HP2.out.ag.rb).mono ?_
  rintro e w3 ⟨rfl, q3, hw3⟩
  have b3 := hw3 ▸ below_drewN w2 q3
  have HP3 := hide (HP2.out.below b3)
  have HB3 := hide (below_on' HB2.out b3)
  clear hw3 b3
  go_wp2_with fail
  refine (next_any _ HP3.out.lg).mono ?_
  rintro e w4 ⟨rfl, rfl⟩
  rw [HP3.out.ag.nx]
  go_wp2_with fail
  refine (rnext_any _ HP3.out.rf HP3.out.ag.rb).mono ?_
  rintro e w5 ⟨rfl, q5, hw5⟩
  have b5 := hw5 ▸ below_drewN w4 q5
  have HB5 := hide (below_on' HB3.out b5)
  clear hw5 b5
  go_wp2_with fail
  go_ret
  exact ⟨rfl, PyA.stay HR.out HP.out hN hB HB5.out⟩
set_option maxRecDepth 100000 in
set_option maxHeartbeats 3200000 in
theorem plays3 (w : World) (R : Reg w β) (P : Pw B w β i g h m nx Z al cl s k A ar cr) (N : Nat) (hN : A.length ≤ N) (_ : N < 4399000000000) (hB : B ≤ w.heap.size) (kd : Int) (sc : Bool) (nn xx : Int) (hk : kd = 3) : Calls Try.prog 8 #[ptr g, ptr h, .agg #[.int .i64 kd, .bool sc, .int .i64 nn, .int .i64 xx]] w fun e w' => e = .returned (.bool true) ∧ PyA B w w' β i g h N := by
  have HR := hide R
  have HP := hide P
  obtain ⟨w1, hw1⟩ : ∃ w1, w.alloc (.cells #[.int .i64 kd, .bool sc, .int .i64 nn, .int .i64 xx] 31) = w1 := ⟨_, rfl⟩
  have hb1 : Below w.heap.size w w1 := by rw [← hw1]; exact below_new _ _
  have hx1 : DBox w1 w.heap.size ⟨kd, sc, nn, xx⟩ := by rw [← hw1]; exact dbox_new w ⟨kd, sc, nn, xx⟩
  have hc0 : w1.cell? ⟨w.heap.size, 0, none⟩ = some (.int .i64 kd) := hx1.at.c0
  have hc2 : w1.cell? ⟨w.heap.size, 2, none⟩ = some (.int .i64 nn) := hx1.at.c2
  have hc3 : w1.cell? ⟨w.heap.size, 3, none⟩ = some (.int .i64 xx) := hx1.at.c3
  have HB1 := hide hb1
  have HX1 := hide hx1
  have HP1 := hide (P.below hb1)
  have e1 : (kd == 1) = false := by rw [hk]; rfl
  have e2 : (kd == 2) = false := by rw [hk]; rfl
  have e3 : (kd == 3) = true := by rw [hk]; rfl
  clear hk
  clear R P hb1 hx1
  go_enter Try.func8, Try.ntmps8
  go_wp2_with fail
  refine (at_any _ HP1.out.lg HP1.out.ag.bd nn).mono ?_
  rintro e w2 ⟨rfl, q2, hw2⟩
  have b2 := hw2 ▸ below_drewN w1 q2
  have HP2 := hide (HP1.out.below b2)
  have HB2 := hide (below_on' HB1.out b2)
  have hd2 : w2.cell? ⟨w.heap.size, 2, none⟩ = some (.int .i64 nn) := (b2.cell HX1.out.lt).trans hc2
  clear hw2 b2
  rw [(HP2.out.ag.at nn).1, (HP2.out.ag.at nn).2]
  obtain ⟨vb, hvb⟩ : ∃ vb, ratB s k A nn = vb := ⟨_, rfl⟩
  obtain ⟨vv, hvv⟩ : ∃ vv, ratV s k A nn = vv := ⟨_, rfl⟩
  have HC := hide (rat_any w2 HP2.out.rf HP2.out.ag.rb nn)
  rw [hvb, hvv] at HC ⊢
  clear hvb hvv
  go_wp2_with fail
  refine HC.out.mono ?_
  rintro e w3 ⟨rfl, b3⟩
  have HB3 := hide (below_on' HB2.out b3)
  clear b3
  go_wp2_with fail
  go_ret
  exact ⟨by simp, PyA.stay HR.out HP.out hN hB HB3.out⟩
set_option maxRecDepth 100000 in
set_option maxHeartbeats 3200000 in
theorem plays4 (w : World) (R : Reg w β) (P : Pw B w β i g h m nx Z al cl s k A ar cr) (N : Nat) (hN : A.length ≤ N) (_ : N < 4399000000000) (hB : B ≤ w.heap.size) (kd : Int) (sc : Bool) (nn xx : Int) (hk : kd = 4) : Calls Try.prog 8 #[ptr g, ptr h, .agg #[.int .i64 kd, .bool sc, .int .i64 nn, .int .i64 xx]] w fun e w' => e = .returned (.bool true) ∧ PyA B w w' β i g h N := by
  have HR := hide R
  have HP := hide P
  obtain ⟨w1, hw1⟩ : ∃ w1, w.alloc (.cells #[.int .i64 kd, .bool sc, .int .i64 nn, .int .i64 xx] 31) = w1 := ⟨_, rfl⟩
  have hb1 : Below w.heap.size w w1 := by rw [← hw1]; exact below_new _ _
  have hx1 : DBox w1 w.heap.size ⟨kd, sc, nn, xx⟩ := by rw [← hw1]; exact dbox_new w ⟨kd, sc, nn, xx⟩
  have hc0 : w1.cell? ⟨w.heap.size, 0, none⟩ = some (.int .i64 kd) := hx1.at.c0
  have hc2 : w1.cell? ⟨w.heap.size, 2, none⟩ = some (.int .i64 nn) := hx1.at.c2
  have hc3 : w1.cell? ⟨w.heap.size, 3, none⟩ = some (.int .i64 xx) := hx1.at.c3
  have HB1 := hide hb1
  have HX1 := hide hx1
  have HP1 := hide (P.below hb1)
  have e1 : (kd == 1) = false := by rw [hk]; rfl
  have e2 : (kd == 2) = false := by rw [hk]; rfl
  have e3 : (kd == 3) = false := by rw [hk]; rfl
  have e4 : (kd == 4) = true := by rw [hk]; rfl
  clear hk
  clear R P hb1 hx1
  go_enter Try.func8, Try.ntmps8
  go_wp2_with fail
  refine (fromU_any _ HP1.out.lg HP1.out.ag.bd nn).mono ?_
  rintro e w2 ⟨b1, c1, rfl, ho2, b2⟩
  have HS2 := hide (NSrc.of_own ho2 (by rfl))
  have HP2 := hide (HP1.out.below b2)
  have HB2 := hide (below_on' HB1.out b2)
  have hd2 : w2.cell? ⟨w.heap.size, 2, none⟩ = some (.int .i64 nn) := (b2.cell HX1.out.lt).trans hc2
  clear ho2 b2
  have hl : (fromV nx Z nn).length ≤ 65 := by
    unfold fromV
    split
    · rw [List.length_drop]; have := HP1.out.z; omega
    · simp
  have HC := hide (rfromU_any w2 HP2.out.rf HP2.out.ag.rb nn)
  rw [← (HP2.out.ag.from nn).1, ← (HP2.out.ag.from nn).2] at HC
  obtain ⟨vb, hvb⟩ : ∃ vb, fromB nx Z nn = vb := ⟨_, rfl⟩
  obtain ⟨vv, hvv⟩ : ∃ vv, fromV nx Z nn = vv := ⟨_, rfl⟩
  rw [hvb, hvv] at HC
  rw [hvv] at HS2 hl
  rw [hvb, hvv]
  obtain ⟨l1, hl1⟩ : ∃ l1, vv.length = l1 := ⟨_, rfl⟩
  rw [hl1] at HS2 hl
  rw [hl1]
  clear hvb hvv hl1
  go_wp2_with fail
  refine HC.out.mono ?_
  rintro e w3 ⟨b3', l3, c3', rfl, hs3, b3⟩
  have HS3 := hide hs3
  have HB3 := hide (below_on' HB2.out b3)
  have HS4 := hide (HS2.out.below b3)
  clear b3 hs3 HC
  have hvbb : (vb == vb) = true := by simp
  go_wp2_with fail
  refine (sameInts_true _ _ _ _ _ _ _ _ HS4.out HS3.out (by omega)).mono ?_
  rintro e w4 ⟨rfl, b4⟩
  have HB4 := hide (below_on' HB3.out b4)
  clear b4
  go_wp2_with fail
  go_ret
  exact ⟨rfl, PyA.stay HR.out HP.out hN hB HB4.out⟩
set_option maxRecDepth 100000 in
set_option maxHeartbeats 3200000 in
theorem plays0 (w : World) (R : Reg w β) (P : Pw B w β i g h m nx Z al cl s k A ar cr) (N : Nat) (hN : A.length ≤ N) (_ : N < 4399000000000) (hB : B ≤ w.heap.size) (kd : Int) (sc : Bool) (nn xx : Int) (hk : ∀ j : Int, 1 ≤ j → j ≤ 7 → kd ≠ j) : Calls Try.prog 8 #[ptr g, ptr h, .agg #[.int .i64 kd, .bool sc, .int .i64 nn, .int .i64 xx]] w fun e w' => e = .returned (.bool true) ∧ PyA B w w' β i g h N := by
  have HR := hide R
  have HP := hide P
  obtain ⟨w1, hw1⟩ : ∃ w1, w.alloc (.cells #[.int .i64 kd, .bool sc, .int .i64 nn, .int .i64 xx] 31) = w1 := ⟨_, rfl⟩
  have hb1 : Below w.heap.size w w1 := by rw [← hw1]; exact below_new _ _
  have hx1 : DBox w1 w.heap.size ⟨kd, sc, nn, xx⟩ := by rw [← hw1]; exact dbox_new w ⟨kd, sc, nn, xx⟩
  have hc0 : w1.cell? ⟨w.heap.size, 0, none⟩ = some (.int .i64 kd) := hx1.at.c0
  have hc2 : w1.cell? ⟨w.heap.size, 2, none⟩ = some (.int .i64 nn) := hx1.at.c2
  have hc3 : w1.cell? ⟨w.heap.size, 3, none⟩ = some (.int .i64 xx) := hx1.at.c3
  have HB1 := hide hb1
  have HX1 := hide hx1
  have HP1 := hide (P.below hb1)
  have e1 : (kd == 1) = false := by simpa using hk 1 (by decide) (by decide)
  have e2 : (kd == 2) = false := by simpa using hk 2 (by decide) (by decide)
  have e3 : (kd == 3) = false := by simpa using hk 3 (by decide) (by decide)
  have e4 : (kd == 4) = false := by simpa using hk 4 (by decide) (by decide)
  have e5 : (kd == 5) = false := by simpa using hk 5 (by decide) (by decide)
  have e6 : (kd == 6) = false := by simpa using hk 6 (by decide) (by decide)
  have e7 : (kd == 7) = false := by simpa using hk 7 (by decide) (by decide)
  clear hk
  clear R P hb1 hx1
  go_enter Try.func8, Try.ntmps8
  go_wp2_with fail
  go_ret
  exact ⟨rfl, PyA.stay HR.out HP.out hN hB HB1.out⟩
end Go.Proofs.Ytgnclfeicgbjpaa
