/- The law's plays: push, trim, walk, again. -/
import Derived.Test.YtgnclfeicgbjpaaDPy
import Derived.OrdersHeld
namespace Go.Proofs.Ytgnclfeicgbjpaa
open Go.RowKit
variable {w w' w2 : World} {β β' : Nat × Nat → Option Nat} {B i g h : Nat} {m nx : Int} {Z : List Int} {al : Option Addr} {cl : Nat} {s : Int} {k : Nat} {A : List Int} {ar : Option Addr} {cr : Nat}

theorem Pw.rfK (R : Reg w β) (P : Pw B w β i g h m nx Z al cl s k A ar cr) (K : Kp w w2 g al) : Rf B w2 h m s k A ar cr := by
  have ne {a b : Nat} (hab : a ≠ b) : ((i, a) : Nat × Nat) ≠ (i, b) := fun e => hab (by cases e; rfl)
  refine P.rf.on (K.block h P.rf.lt (fun e => ne (a := 2) (b := 0) (by decide) (R.inj _ _ h P.n2 (by rw [P.n0, e]))) (fun ad ha e => ne (a := 2) (b := 1) (by decide) (R.inj _ _ h P.n2 (by rw [P.n1, blk_of ha, e])))) (fun ad e => K.block ad.block (P.rf.row ad e).2 (fun e2 => ?_) (fun ad2 ha e2 => ?_))
  · exact ne (a := 3) (b := 0) (by decide) (R.inj _ _ ad.block (by rw [P.n3]; exact blk_of e) (by rw [P.n0, e2]))
  · exact ne (a := 3) (b := 1) (by decide) (R.inj _ _ ad.block (by rw [P.n3]; exact blk_of e) (by rw [P.n1, blk_of ha, e2]))
theorem Nw.refl (w : World) (ao : Option Addr) : Nw w ao ao := fun ad e => .inl ⟨ad, e, rfl⟩
theorem Kp.cellN (K : Kp w w2 g al) {b t : Nat} {v : Value} (hb : b < w.heap.size) (h1 : g < b) (h2 : ∀ ad, al = some ad → ad.block < b) (hc : w.cell? ⟨b, t, none⟩ = some v) : w2.cell? ⟨b, t, none⟩ = some v :=
  (World.cell?_of_block (K.block b hb (by omega) (fun ad e => by have := h2 ad e; omega))).trans hc
theorem IR.caps {ao : Option Addr} {n cap : Nat} {L : List Int} (h : IR w ao n cap L) : n ≤ cap ∧ cap ≤ maxLen := by
  rcases h.2 with ⟨h0, h00⟩ | ⟨q, cap2, cur, hv, hq, hh, hnc, hcm, r⟩
  · simp only [Value.slice.injEq] at h0
    obtain ⟨-, e1, e2⟩ := h0
    subst e1 e2
    exact ⟨Nat.le_refl _, Nat.zero_le _⟩
  · simp only [Value.slice.injEq] at hv
    obtain ⟨-, -, rfl⟩ := hv
    exact ⟨hnc, hcm⟩
theorem cutI_len (l : List Int) (x : Int) : (cutI l x).length ≤ l.length := by
  unfold cutI
  split
  · exact Nat.le_refl _
  · rw [List.length_take]
    omega
theorem Ag.walk (h : Ag m nx s k Z A) (hz : Z.length ≤ 64) (n : Int) : ∃ j0 N : Nat, max n (s + (k : Int)) = s + (j0 : Int) ∧ (s + (A.length : Int) - (s + (j0 : Int))).toNat = N ∧ N ≤ 64 ∧ numsF (btw n (nx - Z.length) nx) (Z.length - cutN nx Z n) = numsF (s + (j0 : Int)) N ∧ Z.drop (cutN nx Z n) = (A.drop j0).take N := by
  have hf := h.first
  have hx := h.nx
  obtain ⟨hc1, hc2⟩ := cutN_le nx Z n
  have hk := h.rb.k1
  have hzl : Z.length = A.length - k := by rw [h.z, List.length_drop]
  rw [hf] at hc2 ⊢
  unfold btw at hc2 ⊢
  obtain ⟨c, hc⟩ : ∃ c, cutN nx Z n = c := ⟨_, rfl⟩
  rw [hc] at hc1 hc2 ⊢
  obtain ⟨M, hM⟩ : ∃ M, max n (s + (k : Int)) = M := ⟨_, rfl⟩
  have hM1 : s + (k : Int) ≤ M := by omega
  rw [hM] at hc2 ⊢
  obtain ⟨j0, hj0⟩ : ∃ j0 : Nat, M = s + (j0 : Int) := ⟨(M - s).toNat, by omega⟩
  have hkj : k ≤ j0 := by omega
  have hkl : k ≤ A.length := by omega
  by_cases hn : M ≤ nx
  · rw [Int.min_eq_left hn] at hc2 ⊢
    have ec : c + k = j0 := by omega
    have eN : (s + (A.length : Int) - (s + (j0 : Int))).toNat = A.length - j0 := by omega
    refine ⟨j0, A.length - j0, hj0, eN, by omega, ?_, ?_⟩
    · rw [hj0]
      congr 1
      omega
    · rw [List.take_of_length_le (by rw [List.length_drop]; exact Nat.le_refl _), h.z, List.drop_drop]
      congr 1
      omega
  · rw [Int.min_eq_right (by omega)] at hc2 ⊢
    have ec : c = Z.length := by omega
    have eN : (s + (A.length : Int) - (s + (j0 : Int))).toNat = 0 := by omega
    refine ⟨j0, 0, hj0, eN, by omega, ?_, ?_⟩
    · rw [ec, Nat.sub_self]
      rfl
    · rw [ec, List.drop_length]
      rfl
set_option maxRecDepth 100000 in
set_option maxHeartbeats 3200000 in
theorem plays1 (w : World) (R : Reg w β) (P : Pw B w β i g h m nx Z al cl s k A ar cr) (N : Nat) (hN : A.length ≤ N) (hN2 : N < 4399000000000) (hB : B ≤ w.heap.size) (kd : Int) (sc : Bool) (nn xx : Int) (hk : kd = 1) : Calls Try.prog 8 #[ptr g, ptr h, .agg #[.int .i64 kd, .bool sc, .int .i64 nn, .int .i64 xx]] w fun e w' => e = .returned (.bool true) ∧ PyA B w w' β i g h N := by
  have HR := hide R
  have HP := hide P
  obtain ⟨w1, hw1⟩ : ∃ w1, w.alloc (.cells #[.int .i64 kd, .bool sc, .int .i64 nn, .int .i64 xx] 31) = w1 := ⟨_, rfl⟩
  have hb1 : Below w.heap.size w w1 := by rw [← hw1]; exact below_new _ _
  have hx1 : DBox w1 w.heap.size ⟨kd, sc, nn, xx⟩ := by rw [← hw1]; exact dbox_new w ⟨kd, sc, nn, xx⟩
  have hc0 : w1.cell? ⟨w.heap.size, 0, none⟩ = some (.int .i64 kd) := hx1.at.c0
  have hc2 : w1.cell? ⟨w.heap.size, 2, none⟩ = some (.int .i64 nn) := hx1.at.c2
  have hc3 : w1.cell? ⟨w.heap.size, 3, none⟩ = some (.int .i64 xx) := hx1.at.c3
  have HB1 := hide hb1
  have HX1 := hide hx1
  have HP1 := hide (P.below hb1)
  have e1 : (kd == 1) = true := by rw [hk]; rfl
  clear hk
  clear R P hb1 hx1
  go_enter Try.func8, Try.ntmps8
  go_wp2_with fail
  have HRd := hide (HR.out.below (HB1.out.trans ((below_drew1 w1).mono HB1.out.size)))
  have HPd := hide (HP1.out.below (below_drew1 w1))
  have hbl : Hid (g < w.heap.size ∧ h < w.heap.size ∧ (∀ ad, al = some ad → ad.block < w.heap.size) ∧ ∀ ad, ar = some ad → ad.block < w.heap.size) := ⟨HP.out.lg.lt, HP.out.rf.lt, lgRow HP.out.lg, rfRow HP.out.rf⟩
  have hsz : Hid (w.heap.size < w1.drew.heap.size) := HX1.out.lt
  have hSd : w1.drew.cell? ⟨w.heap.size, 3, none⟩ = some (.int .i64 xx) := hc3
  have hnx := HP.out.ag.nx
  have hsb := HP.out.ag.rb.s1
  have heq : (nx == s + (A.length : Int)) = true := by rw [beq_iff_eq]; exact hnx
  have hnxb : nx < 9000000000000000000 := by omega
  obtain ⟨k', hk', ha, hz'⟩ := HP.out.ag.push xx (by omega) HP.out.z
  have Hk' := hide hk'
  clear hnx hk'
  refine wp_region_held_drew (S := fun v => v.cell? ⟨w.heap.size, 3, none⟩ = some (.int .i64 xx)) (by kernel_rfl) (hSd) (fun hHeld => ?_)
  refine wpAnyH_take (i := 0) (oi := { dst := some 31, op := Op.move (Operand.tmp 0), type := 26, pos := "law.go:88", after := #[], guard := none }) (v := ?_) rfl (by kernel_rfl) (by kernel_rfl) (by kernel_rfl) (fun _ _ _ h => h) (Or.inl ⟨by rfl, ?_⟩) (by assumption) ?_
  rotate_left
  · (intro w hSw; (try dsimp only at hSw); go_simp); first | done | with_reducible rfl
  simp only [Act.put, List.setIfInBounds_toArray, List.set_cons_zero, List.set_cons_succ]
  refine wpAnyH_take (i := 1) (oi := { dst := some 32, op := Op.fieldAddr 31 (Operand.tmp 5) 3, type := 0, pos := "law.go:88", after := #[], guard := none }) (v := ?_) rfl (by kernel_rfl) (by kernel_rfl) (by kernel_rfl) (fun _ _ _ h => h) (Or.inl ⟨by rfl, ?_⟩) (by assumption) ?_
  rotate_left
  · (intro w hSw; (try dsimp only at hSw); go_simp); first | done | with_reducible rfl
  simp only [Act.put, List.setIfInBounds_toArray, List.set_cons_zero, List.set_cons_succ]
  refine wpAnyH_take (i := 2) (oi := { dst := some 33, op := Op.load 3 (Operand.tmp 32), type := 3, pos := "law.go:88", after := #[{ on := 1, ground := Ground.data }], guard := none }) (v := ?_) rfl (by kernel_rfl) (by kernel_rfl) (by kernel_rfl) (fun _ _ _ h => h) (Or.inl ⟨by rfl, ?_⟩) (by assumption) ?_
  rotate_left
  · (intro w hSw; (try dsimp only at hSw); have hl := hSw; go_simp); first | done | with_reducible rfl
  simp only [Act.put, List.setIfInBounds_toArray, List.set_cons_zero, List.set_cons_succ]
  refine wpAnyH_take (i := 4) (oi := { dst := some 35, op := Op.move (Operand.tmp 1), type := 28, pos := "law.go:88", after := #[], guard := none }) (v := ?_) rfl (by kernel_rfl) (by kernel_rfl) (by kernel_rfl) (fun _ _ _ h => h) (Or.inl ⟨by rfl, ?_⟩) (by assumption) ?_
  rotate_left
  · (intro w hSw; (try dsimp only at hSw); go_simp); first | done | with_reducible rfl
  simp only [Act.put, List.setIfInBounds_toArray, List.set_cons_zero, List.set_cons_succ]
  refine wpAnyH_take (i := 5) (oi := { dst := some 36, op := Op.fieldAddr 31 (Operand.tmp 5) 3, type := 0, pos := "law.go:88", after := #[], guard := none }) (v := ?_) rfl (by kernel_rfl) (by kernel_rfl) (by kernel_rfl) (fun _ _ _ h => h) (Or.inl ⟨by rfl, ?_⟩) (by assumption) ?_
  rotate_left
  · (intro w hSw; (try dsimp only at hSw); go_simp); first | done | with_reducible rfl
  simp only [Act.put, List.setIfInBounds_toArray, List.set_cons_zero, List.set_cons_succ]
  refine wpAnyH_take (i := 6) (oi := { dst := some 37, op := Op.load 3 (Operand.tmp 36), type := 3, pos := "law.go:88", after := #[{ on := 5, ground := Ground.data }], guard := none }) (v := ?_) rfl (by kernel_rfl) (by kernel_rfl) (by kernel_rfl) (fun _ _ _ h => h) (Or.inl ⟨by rfl, ?_⟩) (by assumption) ?_
  rotate_left
  · (intro w hSw; (try dsimp only at hSw); have hl := hSw; go_simp); first | done | with_reducible rfl
  simp only [Act.put, List.setIfInBounds_toArray, List.set_cons_zero, List.set_cons_succ]
  refine wpAnyH_ready (rs := [3]) (by kernel_rfl) (by simp) ?_
  refine AllReadyH.cons rfl (fun K hK => ?_) ?_
  rotate_left
  · exact AllReadyH.nil
  go_simp
  go_wp2_with fail
  refine (push_any _ HPd.out.lg HPd.out.ag.bd HPd.out.z hnxb xx).mono ?_
  rintro e w2 ⟨bo2, cap2, rfl, L2, K2, N2⟩
  have HL2 := hide L2
  have HK2 := hide K2
  have HN2 := hide N2
  have hS2 := HK2.out.cellN hsz.out hbl.out.1 hbl.out.2.2.1 hSd
  have HR2 := hide (HPd.out.rfK HRd.out HK2.out)
  clear L2 K2 N2
  refine hK.out _ _ hS2 (fun hHeld => ?_)
  clear hK K
  refine wpAnyH_ready (rs := [7]) (by kernel_rfl) (by simp) ?_
  refine AllReadyH.cons rfl (fun K hK => ?_) ?_
  rotate_left
  · exact AllReadyH.nil
  go_simp
  go_wp2_with fail
  refine (rpush_any _ HR2.out HPd.out.ag.rb (by omega) xx).mono ?_
  rintro e w3 ⟨bo3, cap3, rfl, L3, K3, N3⟩
  have HL3 := hide L3
  have HK3 := hide K3
  have HN3 := hide N3
  have hS3 := HK3.out.cellN (Nat.lt_of_lt_of_le hsz.out HK2.out.size) hbl.out.2.1 hbl.out.2.2.2 hS2
  clear L3 K3 N3
  refine hK.out _ _ hS3 (fun hHeld => ?_)
  clear hK K
  refine wpAnyH_take (i := 8) (oi := { dst := some 39, op := Op.binOp BinOp.eql 3 (Operand.tmp 34) (Operand.tmp 38) 3, type := 4, pos := "law.go:88", after := #[{ on := 3, ground := Ground.data }, { on := 7, ground := Ground.data }], guard := none }) (v := .bool true) rfl (by kernel_rfl) (by kernel_rfl) (by kernel_rfl) (fun _ _ _ h => h) (Or.inl ⟨by rfl, ?_⟩) (by assumption) ?_
  skip
  · (intro w hSw; (try dsimp only at hSw); go_simp <;> (try simp only [heq]) <;> (try go_simp)); first | done | with_reducible rfl
  simp only [Act.put, List.setIfInBounds_toArray, List.set_cons_zero, List.set_cons_succ]
  refine wpAnyH_take (i := 9) (oi := { dst := some 6, op := Op.assign (Operand.tmp 39), type := 4, pos := "law.go:88", after := #[{ on := 8, ground := Ground.data }, { on := 7, ground := Ground.chain }, { on := 0, ground := Ground.phase }, { on := 1, ground := Ground.phase }, { on := 2, ground := Ground.phase }, { on := 3, ground := Ground.phase }, { on := 4, ground := Ground.phase }, { on := 5, ground := Ground.phase }, { on := 6, ground := Ground.phase }, { on := 7, ground := Ground.phase }, { on := 8, ground := Ground.phase }], guard := none }) (v := ?_) rfl (by kernel_rfl) (by kernel_rfl) (by kernel_rfl) (fun _ _ _ h => h) (Or.inl ⟨by rfl, ?_⟩) (by assumption) ?_
  rotate_left
  · (intro w hSw; (try dsimp only at hSw); go_simp); first | done | with_reducible rfl
  simp only [Act.put, List.setIfInBounds_toArray, List.set_cons_zero, List.set_cons_succ]
  refine wpAnyH_done (by kernel_rfl) ?_ _
  clear hHeld
  go_wp2_with fail
  go_ret
  refine ⟨rfl, PyA.both HR.out HP.out hB (HB1.out.trans ((below_drew1 w1).mono HB1.out.size)) HL2.out HK2.out HN2.out (Hk'.out.symm ▸ HL3.out) HK3.out HN3.out ha hz' (by simp; omega)⟩
set_option maxRecDepth 100000 in
set_option maxHeartbeats 3200000 in
theorem plays5 (w : World) (R : Reg w β) (P : Pw B w β i g h m nx Z al cl s k A ar cr) (N : Nat) (hN : A.length ≤ N) (_ : N < 4399000000000) (hB : B ≤ w.heap.size) (kd : Int) (sc : Bool) (nn xx : Int) (hk : kd = 5) : Calls Try.prog 8 #[ptr g, ptr h, .agg #[.int .i64 kd, .bool sc, .int .i64 nn, .int .i64 xx]] w fun e w' => e = .returned (.bool true) ∧ PyA B w w' β i g h N := by
  have HR := hide R
  have HP := hide P
  obtain ⟨w1, hw1⟩ : ∃ w1, w.alloc (.cells #[.int .i64 kd, .bool sc, .int .i64 nn, .int .i64 xx] 31) = w1 := ⟨_, rfl⟩
  have hb1 : Below w.heap.size w w1 := by rw [← hw1]; exact below_new _ _
  have hx1 : DBox w1 w.heap.size ⟨kd, sc, nn, xx⟩ := by rw [← hw1]; exact dbox_new w ⟨kd, sc, nn, xx⟩
  have hc0 : w1.cell? ⟨w.heap.size, 0, none⟩ = some (.int .i64 kd) := hx1.at.c0
  have hc2 : w1.cell? ⟨w.heap.size, 2, none⟩ = some (.int .i64 nn) := hx1.at.c2
  have hc3 : w1.cell? ⟨w.heap.size, 3, none⟩ = some (.int .i64 xx) := hx1.at.c3
  have HB1 := hide hb1
  have HX1 := hide hx1
  have HP1 := hide (P.below hb1)
  have e1 : (kd == 1) = false := by rw [hk]; rfl
  have e2 : (kd == 2) = false := by rw [hk]; rfl
  have e3 : (kd == 3) = false := by rw [hk]; rfl
  have e4 : (kd == 4) = false := by rw [hk]; rfl
  have e5 : (kd == 5) = true := by rw [hk]; rfl
  clear hk
  clear R P hb1 hx1
  go_enter Try.func8, Try.ntmps8
  go_wp2_with fail
  have HRd := hide (HR.out.below (HB1.out.trans ((below_drew1 w1).mono HB1.out.size)))
  have HPd := hide (HP1.out.below (below_drew1 w1))
  have hbl : Hid (g < w.heap.size ∧ h < w.heap.size ∧ (∀ ad, al = some ad → ad.block < w.heap.size) ∧ ∀ ad, ar = some ad → ad.block < w.heap.size) := ⟨HP.out.lg.lt, HP.out.rf.lt, lgRow HP.out.lg, rfRow HP.out.rf⟩
  have hsz : Hid (w.heap.size < w1.drew.heap.size) := HX1.out.lt
  have hSd : w1.drew.cell? ⟨w.heap.size, 2, none⟩ = some (.int .i64 nn) := hc2
  obtain ⟨hcr, ha⟩ := HP.out.ag.trim nn
  have heq : ((cutN nx Z nn : Int) == (rcut s k A nn : Int)) = true := by rw [hcr]; simp
  have hz' : (Z.drop (cutN nx Z nn)).length ≤ 64 := by rw [List.length_drop]; have := HP.out.z; omega
  have Hcr := hide hcr
  clear hcr
  refine wp_region_held_drew (S := fun v => v.cell? ⟨w.heap.size, 2, none⟩ = some (.int .i64 nn)) (by kernel_rfl) (hSd) (fun hHeld => ?_)
  refine wpAnyH_take (i := 0) (oi := { dst := some 104, op := Op.move (Operand.tmp 0), type := 26, pos := "law.go:100", after := #[], guard := none }) (v := ?_) rfl (by kernel_rfl) (by kernel_rfl) (by kernel_rfl) (fun _ _ _ h => h) (Or.inl ⟨by rfl, ?_⟩) (by assumption) ?_
  rotate_left
  · (intro w hSw; (try dsimp only at hSw); go_simp); first | done | with_reducible rfl
  simp only [Act.put, List.setIfInBounds_toArray, List.set_cons_zero, List.set_cons_succ]
  refine wpAnyH_take (i := 1) (oi := { dst := some 105, op := Op.fieldAddr 31 (Operand.tmp 5) 2, type := 0, pos := "law.go:100", after := #[], guard := none }) (v := ?_) rfl (by kernel_rfl) (by kernel_rfl) (by kernel_rfl) (fun _ _ _ h => h) (Or.inl ⟨by rfl, ?_⟩) (by assumption) ?_
  rotate_left
  · (intro w hSw; (try dsimp only at hSw); go_simp); first | done | with_reducible rfl
  simp only [Act.put, List.setIfInBounds_toArray, List.set_cons_zero, List.set_cons_succ]
  refine wpAnyH_take (i := 2) (oi := { dst := some 106, op := Op.load 3 (Operand.tmp 105), type := 3, pos := "law.go:100", after := #[{ on := 1, ground := Ground.data }], guard := none }) (v := ?_) rfl (by kernel_rfl) (by kernel_rfl) (by kernel_rfl) (fun _ _ _ h => h) (Or.inl ⟨by rfl, ?_⟩) (by assumption) ?_
  rotate_left
  · (intro w hSw; (try dsimp only at hSw); have hl := hSw; go_simp); first | done | with_reducible rfl
  simp only [Act.put, List.setIfInBounds_toArray, List.set_cons_zero, List.set_cons_succ]
  refine wpAnyH_take (i := 4) (oi := { dst := some 108, op := Op.move (Operand.tmp 1), type := 28, pos := "law.go:100", after := #[], guard := none }) (v := ?_) rfl (by kernel_rfl) (by kernel_rfl) (by kernel_rfl) (fun _ _ _ h => h) (Or.inl ⟨by rfl, ?_⟩) (by assumption) ?_
  rotate_left
  · (intro w hSw; (try dsimp only at hSw); go_simp); first | done | with_reducible rfl
  simp only [Act.put, List.setIfInBounds_toArray, List.set_cons_zero, List.set_cons_succ]
  refine wpAnyH_take (i := 5) (oi := { dst := some 109, op := Op.fieldAddr 31 (Operand.tmp 5) 2, type := 0, pos := "law.go:100", after := #[], guard := none }) (v := ?_) rfl (by kernel_rfl) (by kernel_rfl) (by kernel_rfl) (fun _ _ _ h => h) (Or.inl ⟨by rfl, ?_⟩) (by assumption) ?_
  rotate_left
  · (intro w hSw; (try dsimp only at hSw); go_simp); first | done | with_reducible rfl
  simp only [Act.put, List.setIfInBounds_toArray, List.set_cons_zero, List.set_cons_succ]
  refine wpAnyH_take (i := 6) (oi := { dst := some 110, op := Op.load 3 (Operand.tmp 109), type := 3, pos := "law.go:100", after := #[{ on := 5, ground := Ground.data }], guard := none }) (v := ?_) rfl (by kernel_rfl) (by kernel_rfl) (by kernel_rfl) (fun _ _ _ h => h) (Or.inl ⟨by rfl, ?_⟩) (by assumption) ?_
  rotate_left
  · (intro w hSw; (try dsimp only at hSw); have hl := hSw; go_simp); first | done | with_reducible rfl
  simp only [Act.put, List.setIfInBounds_toArray, List.set_cons_zero, List.set_cons_succ]
  refine wpAnyH_ready (rs := [3]) (by kernel_rfl) (by simp) ?_
  refine AllReadyH.cons rfl (fun K hK => ?_) ?_
  rotate_left
  · exact AllReadyH.nil
  go_simp
  go_wp2_with fail
  refine (trim_any _ HPd.out.lg HPd.out.ag.bd nn).mono ?_
  rintro e w2 ⟨rfl, L2, K2⟩
  have HL2 := hide L2
  have HK2 := hide K2
  have hS2 := HK2.out.cellN hsz.out hbl.out.1 hbl.out.2.2.1 hSd
  have HR2 := hide (HPd.out.rfK HRd.out HK2.out)
  clear L2 K2
  refine hK.out _ _ hS2 (fun hHeld => ?_)
  clear hK K
  refine wpAnyH_ready (rs := [7]) (by kernel_rfl) (by simp) ?_
  refine AllReadyH.cons rfl (fun K hK => ?_) ?_
  rotate_left
  · exact AllReadyH.nil
  go_simp
  go_wp2_with fail
  refine (rtrim_any _ HR2.out HPd.out.ag.rb nn).mono ?_
  rintro e w3 ⟨rfl, L3, K3⟩
  have HL3 : Hid (Rf B w3 h m s ((k + cutN nx Z nn : Nat) : Int) A ar cr) := by show Rf _ _ _ _ _ _ _ _ _; rw [Hcr.out]; exact_mod_cast L3
  have HK3 := hide K3
  have hS3 := HK3.out.cellN (Nat.lt_of_lt_of_le hsz.out HK2.out.size) hbl.out.2.1 hbl.out.2.2.2 hS2
  clear L3 K3
  refine hK.out _ _ hS3 (fun hHeld => ?_)
  clear hK K
  refine wpAnyH_take (i := 8) (oi := { dst := some 112, op := Op.binOp BinOp.eql 3 (Operand.tmp 107) (Operand.tmp 111) 3, type := 4, pos := "law.go:100", after := #[{ on := 3, ground := Ground.data }, { on := 7, ground := Ground.data }], guard := none }) (v := .bool true) rfl (by kernel_rfl) (by kernel_rfl) (by kernel_rfl) (fun _ _ _ h => h) (Or.inl ⟨by rfl, ?_⟩) (by assumption) ?_
  skip
  · (intro w hSw; (try dsimp only at hSw); go_simp <;> (try simp only [heq]) <;> (try go_simp)); first | done | with_reducible rfl
  simp only [Act.put, List.setIfInBounds_toArray, List.set_cons_zero, List.set_cons_succ]
  refine wpAnyH_take (i := 9) (oi := { dst := some 6, op := Op.assign (Operand.tmp 112), type := 4, pos := "law.go:100", after := #[{ on := 8, ground := Ground.data }, { on := 7, ground := Ground.chain }, { on := 0, ground := Ground.phase }, { on := 1, ground := Ground.phase }, { on := 2, ground := Ground.phase }, { on := 3, ground := Ground.phase }, { on := 4, ground := Ground.phase }, { on := 5, ground := Ground.phase }, { on := 6, ground := Ground.phase }, { on := 7, ground := Ground.phase }, { on := 8, ground := Ground.phase }], guard := none }) (v := ?_) rfl (by kernel_rfl) (by kernel_rfl) (by kernel_rfl) (fun _ _ _ h => h) (Or.inl ⟨by rfl, ?_⟩) (by assumption) ?_
  rotate_left
  · (intro w hSw; (try dsimp only at hSw); go_simp); first | done | with_reducible rfl
  simp only [Act.put, List.setIfInBounds_toArray, List.set_cons_zero, List.set_cons_succ]
  refine wpAnyH_done (by kernel_rfl) ?_ _
  clear hHeld
  go_wp2_with fail
  go_ret
  refine ⟨rfl, PyA.both HR.out HP.out hB (HB1.out.trans ((below_drew1 w1).mono HB1.out.size)) HL2.out HK2.out (Nw.refl _ _) HL3.out HK3.out (Nw.refl _ _) ha hz' (by omega)⟩
end Go.Proofs.Ytgnclfeicgbjpaa
