/- The law's play: All, New. -/
import Derived.Test.YtikpjlbchnpmmaaAPx
namespace Go.Proofs.Ytikpjlbchnpmmaa
open Go.RowKit
variable {w w' w0 : World} {g : Nat} {qs : Nat → Qp} {N : Nat} {k b : Nat} {o : Sp} {p : Nat → Pr}

theorem inv_all {q : Qp} (h : Inv q) : allL q.r q.f = allR q.s q.L q.r := by
  have key : ∀ n, n ≤ 16 → allL n q.f = allR q.s q.L n := by
    intro n
    induction n with
    | zero => intro _; rfl
    | succ n ih =>
      intro hn
      have e : allL (n + 1) q.f = allL n q.f ++ [q.f n] := by simp [allL, List.range_succ]
      rw [e, ih (by omega), allR]
      congr 2
      by_cases hs : (n : Int) = q.s
      · rw [if_pos hs]; exact h.self n hs
      · rw [if_neg hs]; exact h.eq n (by omega)
  exact key q.r h.r16
set_option maxRecDepth 100000 in
set_option maxHeartbeats 1000000 in
theorem play_all (Q : QI w0 w g qs N) (I : InvA qs) (hk : k < 4) (o : Sp) (ho : o.kind = 6) (f : Nat) (hf : k * 4 = f) :
    Calls Try.prog 8 #[.pointer (some ⟨g, f, none⟩), SV o] w fun e w' => Plays w0 g N e w' := by
  obtain ⟨w1, hw1⟩ : ∃ w1, w.alloc (.cells (SC o) 34) = w1 := ⟨_, rfl⟩
  obtain ⟨b, hb⟩ : ∃ b, w.heap.size = b := ⟨_, rfl⟩
  have HF : Hid (PyF w0 w1 g qs N k b o) := by rw [← hw1, ← hb]; exact pyf_new Q hk o
  have s0 := HF.out.S.c0
  rw [ho] at s0
  have HH := hide hf
  have HI := hide I
  have HR : Hid ((qs k).r ≤ 16) := (I k hk).r16
  clear Q I hf
  go_enter Try.func8, Try.ntmps8
  go_wp2_with fail
  clear hw1 s0
  have HSW : Hid (∀ W, PyF w0 W g qs N k b o → (fun W => W.cell? ⟨g, f, none⟩ = some (ptr (qs k).tb) ∧ W.cell? ⟨g, f + 1, none⟩ = some (.int .i64 (qs k).r) ∧ W.cell? ⟨g, f + 2, none⟩ = some (.int .i64 (qs k).s) ∧ W.cell? ⟨g, f + 3, none⟩ = some (.slice (qs k).bo (qs k).bn (qs k).bc)) W) := fun W F => ⟨F.p0 HH.out, F.p1 HH.out, F.p2 HH.out, F.p3 HH.out⟩
  refine wp_region_held_drew (S := fun W => W.cell? ⟨g, f, none⟩ = some (ptr (qs k).tb) ∧ W.cell? ⟨g, f + 1, none⟩ = some (.int .i64 (qs k).r) ∧ W.cell? ⟨g, f + 2, none⟩ = some (.int .i64 (qs k).s) ∧ W.cell? ⟨g, f + 3, none⟩ = some (.slice (qs k).bo (qs k).bn (qs k).bc)) (by kernel_rfl) (HSW.out _ (HF.out.below (below_drew1 _))) (fun hHeld => ?_)
  refine wpAnyH_take (i := 0) (oi := { dst := some 200, op := Op.move (Operand.tmp 0), type := 32, pos := "law.go:97", after := #[], guard := none }) (v := ?_) rfl (by kernel_rfl) (by kernel_rfl) (by kernel_rfl) (fun _ _ _ h => h) (Or.inl ⟨by rfl, ?_⟩) (by assumption) ?_
  rotate_left
  · (intro w hSw; (try dsimp only at hSw); go_simp); first | done | with_reducible rfl
  simp only [Act.put, List.setIfInBounds_toArray, List.set_cons_zero, List.set_cons_succ]
  refine wpAnyH_take (i := 1) (oi := { dst := some 201, op := Op.nilCheck (Operand.tmp 200), type := 0, pos := "law.go:97", after := #[{ on := 0, ground := Ground.data }], guard := none }) (v := ?_) rfl (by kernel_rfl) (by kernel_rfl) (by kernel_rfl) (fun _ _ _ h => h) (Or.inl ⟨by rfl, ?_⟩) (by assumption) ?_
  rotate_left
  · (intro w hSw; (try dsimp only at hSw); go_simp); first | done | with_reducible rfl
  simp only [Act.put, List.setIfInBounds_toArray, List.set_cons_zero, List.set_cons_succ]
  refine wpAnyH_take (i := 2) (oi := { dst := some 202, op := Op.fieldAddr 28 (Operand.tmp 201) 0, type := 0, pos := "law.go:97", after := #[{ on := 1, ground := Ground.data }], guard := none }) (v := ?_) rfl (by kernel_rfl) (by kernel_rfl) (by kernel_rfl) (fun _ _ _ h => h) (Or.inl ⟨by rfl, ?_⟩) (by assumption) ?_
  rotate_left
  · (intro w hSw; (try dsimp only at hSw); go_simp); first | done | with_reducible rfl
  simp only [Act.put, List.setIfInBounds_toArray, List.set_cons_zero, List.set_cons_succ]
  refine wpAnyH_take (i := 3) (oi := { dst := some 203, op := Op.load 23 (Operand.tmp 202), type := 23, pos := "law.go:97", after := #[{ on := 2, ground := Ground.data }], guard := none }) (v := ?_) rfl (by kernel_rfl) (by kernel_rfl) (by kernel_rfl) (fun _ _ _ h => h) (Or.inl ⟨by rfl, ?_⟩) (by assumption) ?_
  rotate_left
  · (intro w hSw; (try dsimp only at hSw); go_simp); first | done | with_reducible rfl
  simp only [Act.put, List.setIfInBounds_toArray, List.set_cons_zero, List.set_cons_succ]
  refine wpAnyH_take (i := 5) (oi := { dst := some 205, op := Op.move (Operand.tmp 0), type := 32, pos := "law.go:97", after := #[], guard := none }) (v := ?_) rfl (by kernel_rfl) (by kernel_rfl) (by kernel_rfl) (fun _ _ _ h => h) (Or.inl ⟨by rfl, ?_⟩) (by assumption) ?_
  rotate_left
  · (intro w hSw; (try dsimp only at hSw); go_simp); first | done | with_reducible rfl
  simp only [Act.put, List.setIfInBounds_toArray, List.set_cons_zero, List.set_cons_succ]
  refine wpAnyH_take (i := 6) (oi := { dst := some 206, op := Op.nilCheck (Operand.tmp 205), type := 0, pos := "law.go:97", after := #[{ on := 5, ground := Ground.data }], guard := none }) (v := ?_) rfl (by kernel_rfl) (by kernel_rfl) (by kernel_rfl) (fun _ _ _ h => h) (Or.inl ⟨by rfl, ?_⟩) (by assumption) ?_
  rotate_left
  · (intro w hSw; (try dsimp only at hSw); go_simp); first | done | with_reducible rfl
  simp only [Act.put, List.setIfInBounds_toArray, List.set_cons_zero, List.set_cons_succ]
  refine wpAnyH_take (i := 7) (oi := { dst := some 207, op := Op.fieldAddr 28 (Operand.tmp 206) 1, type := 0, pos := "law.go:97", after := #[{ on := 6, ground := Ground.data }], guard := none }) (v := ?_) rfl (by kernel_rfl) (by kernel_rfl) (by kernel_rfl) (fun _ _ _ h => h) (Or.inl ⟨by rfl, ?_⟩) (by assumption) ?_
  rotate_left
  · (intro w hSw; (try dsimp only at hSw); go_simp); first | done | with_reducible rfl
  simp only [Act.put, List.setIfInBounds_toArray, List.set_cons_zero, List.set_cons_succ]
  refine wpAnyH_take (i := 8) (oi := { dst := some 208, op := Op.load 26 (Operand.tmp 207), type := 26, pos := "law.go:97", after := #[{ on := 7, ground := Ground.data }], guard := none }) (v := ?_) rfl (by kernel_rfl) (by kernel_rfl) (by kernel_rfl) (fun _ _ _ h => h) (Or.inl ⟨by rfl, ?_⟩) (by assumption) ?_
  rotate_left
  · (intro w hSw; (try dsimp only at hSw); go_simp); first | done | with_reducible rfl
  simp only [Act.put, List.setIfInBounds_toArray, List.set_cons_zero, List.set_cons_succ]
  refine wpAnyH_ready (rs := [4]) (by kernel_rfl) (by simp) ?_
  refine AllReadyH.cons rfl (fun K hK => ?_) ?_
  rotate_left
  · exact AllReadyH.nil
  go_simp
  go_wp2_with fail
  refine (all_any w1.drew (qs k).r (HF.out.below (below_drew1 _)).T HR.out).mono ?_
  rintro e w2 ⟨a2, c2, rfl, o2, b2⟩
  have HF2 := hide ((HF.out.below (below_drew1 _)).below b2)
  have HS2 := hide (NSrc.of_own o2 (allL_len (qs k).r (qs k).f))
  refine hK.out _ _ (HSW.out _ HF2.out) (fun hHeld => ?_)
  clear hK K o2 b2
  refine wpAnyH_ready (rs := [9]) (by kernel_rfl) (by simp) ?_
  refine AllReadyH.cons rfl (fun K hK => ?_) ?_
  rotate_left
  · exact AllReadyH.nil
  go_simp
  go_wp2_with fail
  refine (rall_any _ _ _ (qs k).L (qs k).r HR.out w2 HF2.out.B).mono ?_
  rintro e w3 ⟨a3, c3, rfl, n3, b3⟩
  have HF3 := hide (HF2.out.below b3)
  have HS3 := hide n3
  have HS4 := hide (HS2.out.below b3)
  refine hK.out _ _ (HSW.out _ HF3.out) (fun hHeld => ?_)
  clear hK K n3 b3
  refine wpAnyH_ready (rs := [10]) (by kernel_rfl) (by simp) ?_
  refine AllReadyH.cons rfl (fun K hK => ?_) ?_
  rotate_left
  · exact AllReadyH.nil
  go_simp
  go_wp2_with fail
  refine (same_any a2 (qs k).r c2 _ a3 (qs k).r c3 _ w3 HS4.out HS3.out (by have := HR.out; omega)).mono ?_
  rintro e w4 ⟨rfl, b4⟩
  rw [decide_eq_true (inv_all (HI.out k HF.out.hk))]
  have HP := hide (Plays.same (HF3.out.below b4) HI.out)
  refine hK.out _ _ (HSW.out _ (HF3.out.below b4)) (fun hHeld => ?_)
  clear hK K b4
  refine wpAnyH_take (i := 11) (oi := { dst := some 4, op := Op.assign (Operand.tmp 210), type := 4, pos := "law.go:97", after := #[{ on := 10, ground := Ground.data }, { on := 10, ground := Ground.chain }, { on := 0, ground := Ground.phase }, { on := 1, ground := Ground.phase }, { on := 2, ground := Ground.phase }, { on := 3, ground := Ground.phase }, { on := 4, ground := Ground.phase }, { on := 5, ground := Ground.phase }, { on := 6, ground := Ground.phase }, { on := 7, ground := Ground.phase }, { on := 8, ground := Ground.phase }, { on := 9, ground := Ground.phase }, { on := 10, ground := Ground.phase }], guard := none }) (v := ?_) rfl (by kernel_rfl) (by kernel_rfl) (by kernel_rfl) (fun _ _ _ h => h) (Or.inl ⟨by rfl, ?_⟩) (by assumption) ?_
  rotate_left
  · (intro w hSw; (try dsimp only at hSw); go_simp); first | done | with_reducible rfl
  simp only [Act.put, List.setIfInBounds_toArray, List.set_cons_zero, List.set_cons_succ]
  refine wpAnyH_done (by kernel_rfl) ?_ _
  clear hHeld
  go_wp2_with fail
  go_ret
  exact HP.out
def stT (p v : Value) : Sem Unit := Instr.storeAt 26 p v
theorem stT_eq (p v : Value) : Instr.storeAt 26 p v = stT p v := rfl
theorem sizeT : (Try.prog.info? 26).map (·.size) = some 3 := by kernel_rfl
theorem PBox.put3 (A : PBox w g p) (k : Nat) (hk : k < 4) (q : Pr) (hq : (p k).pv = q.pv) : ∃ w', (stT (.pointer (some ⟨g, k * 4 + 1, none⟩)) (.agg #[.int .i64 q.reps, .int .i64 q.self, .slice q.bo q.bn q.bc])).run Try.prog w = .ok () w' ∧ PBox w' g (pset p k q) ∧ Fr w w' g := by
  have ht : w.there g (k * 4 + 1) 3 := fun j hj => ⟨by rw [Nat.add_assoc, A.cell k (1 + j) hk (by omega)]; match j, hj with | 0, _ | 1, _ | 2, _ => rfl, A.fz _⟩
  have h := run_storeAt_mid (P := Try.prog) w g (k * 4 + 1) 26 #[.int .i64 q.reps, .int .i64 q.self, .slice q.bo q.bn q.bc] ht sizeT (by simp [Value.oneCell'])
  refine ⟨_, h, ?_, ?_⟩
  · have a2 := A.set k 1 hk (by omega) (.int .i64 q.reps) ⟨q.pv, q.reps, (p k).self, (p k).bo, (p k).bn, (p k).bc⟩ (by rw [← hq]; rfl)
    have a3 := a2.set k 2 hk (by omega) (.int .i64 q.self) ⟨q.pv, q.reps, q.self, (p k).bo, (p k).bn, (p k).bc⟩ (by rw [pset_at]; rfl)
    have a4 := a3.set k 3 hk (by omega) (.slice q.bo q.bn q.bc) q (by rw [pset_at]; rfl)
    rw [pset_pset, pset_pset] at a4
    exact a4
  · exact ((Fr.setCell _ _ _ _).trans (Fr.setCell _ _ _ _)).trans (Fr.setCell _ _ _ _)
/-- behind a New: the pair is another -/
theorem new_end {W : World} {t f : Nat} {x y : Int} (F : PyF w0 W g qs N k b o) (T : Tb W t x y (fun _ => 0)) (I : InvA qs) (hv : 1 ≤ x ∧ x ≤ 16 ∧ 0 ≤ y ∧ y < x) (ha : o.a = x ∧ o.b = y) (hf : k * 4 = f)
    (ht : w0.heap.size ≤ t ∧ t ≠ g ∧ (∀ j, j < 4 → t ≠ (qs j).tb) ∧ (∀ j, j < 4 → ∀ ad, (qs j).bo = some ad → ad.block ≠ t)) :
    W.cell? ⟨g, f, none⟩ = some (ptr (qs k).tb) ∧ W.frozen? ⟨g, f, none⟩ = false ∧
    ((W.setCell ⟨g, f, none⟩ (ptr t)).drew.cell? ⟨b, 2, none⟩ = some (.int .i64 x) ∧ (W.setCell ⟨g, f, none⟩ (ptr t)).drew.cell? ⟨b, 3, none⟩ = some (.int .i64 y)) ∧
    ∃ w5, (stT (.pointer (some ⟨g, f + 1, none⟩)) (.agg #[.int .i64 x, .int .i64 y, .slice none 0 0])).run Try.prog (W.setCell ⟨g, f, none⟩ (ptr t)).drew = .ok () w5 ∧
      (w5.cell? ⟨b, 2, none⟩ = some (.int .i64 x) ∧ w5.cell? ⟨b, 3, none⟩ = some (.int .i64 y)) ∧ Hid (Plays w0 g N (.returned (.bool true)) w5) := by
  obtain ⟨hv1, hv2, hv3, hv4⟩ := hv
  obtain ⟨t0, t1, t2, t3⟩ := ht
  obtain ⟨m, rfl⟩ : ∃ m : Nat, x = m := ⟨x.toNat, by omega⟩
  have P0 := F.Q.box.set k 0 F.hk (by omega) (ptr t) ⟨some ⟨t, 0, none⟩, (prOf (qs k)).reps, (prOf (qs k)).self, (prOf (qs k)).bo, (prOf (qs k)).bn, (prOf (qs k)).bc⟩ rfl
  rw [Nat.add_zero, hf] at P0
  have F1 := (Fr.setCell W g f (ptr t)).trans (Fr.drew1 _ _)
  obtain ⟨w5, hst, P5, F5⟩ := (P0.below (below_drew1 _)).put3 k F.hk ⟨some ⟨t, 0, none⟩, m, y, none, 0, 0⟩ (by rw [pset_at])
  rw [pset_pset] at P5
  rw [hf] at hst
  have S1 := F.S.on F1 F.n1
  have S5 := S1.on F5 F.n1
  refine ⟨F.p0 hf, F.Q.box.fz _, ⟨by rw [← ha.1]; exact S1.c2, by rw [← ha.2]; exact S1.c3⟩, w5, hst, ⟨by rw [← ha.1]; exact S5.c2, by rw [← ha.2]; exact S5.c3⟩, ?_⟩
  refine ⟨rfl, _, F.Q.onPair F.hk ⟨t, m, y, fun _ => 0, none, 0, 0, []⟩ P5 (F1.trans F5) (Nat.le_succ N) T (RSrc.empty _) (by simp) t0 t1 (fun ad e => by cases e) (fun ad e => by cases e) (fun j hj _ => t2 j hj) (fun ad e => by cases e) (fun j hj _ => t3 j hj), ?_⟩
  exact I.set (inv_new t m y (by omega) (by omega) hv3 hv4)
attribute [local go_sem ↓] stT_eq
set_option maxRecDepth 100000 in
set_option maxHeartbeats 1000000 in
theorem play_new (Q : QI w0 w g qs N) (I : InvA qs) (hk : k < 4) (o : Sp) (ho : o.kind = 1) (f : Nat) (hf : k * 4 = f) :
    Calls Try.prog 8 #[.pointer (some ⟨g, f, none⟩), SV o] w fun e w' => Plays w0 g N e w' := by
  obtain ⟨w1, hw1⟩ : ∃ w1, w.alloc (.cells (SC o) 34) = w1 := ⟨_, rfl⟩
  obtain ⟨b, hb⟩ : ∃ b, w.heap.size = b := ⟨_, rfl⟩
  have HF : Hid (PyF w0 w1 g qs N k b o) := by rw [← hw1, ← hb]; exact pyf_new Q hk o
  have s0 := HF.out.S.c0
  rw [ho] at s0
  have s2 := HF.out.S.c2
  have s3 := HF.out.S.c3
  have HH := hide hf
  have HI := hide I
  obtain ⟨x, hx⟩ : ∃ x, o.a = x := ⟨_, rfl⟩
  obtain ⟨y, hy⟩ : ∃ y, o.b = y := ⟨_, rfl⟩
  rw [hx] at s2
  rw [hy] at s3
  have HA : Hid (o.a = x ∧ o.b = y) := ⟨hx, hy⟩
  clear Q I hf hx hy
  by_cases he : newE x y = 0
  · have HV : Hid (1 ≤ x ∧ x ≤ 16 ∧ 0 ≤ y ∧ y < x) := by
      unfold newE at he
      split at he
      · omega
      · split at he
        · omega
        · refine ⟨?_, ?_, ?_, ?_⟩ <;> omega
    have HC := hide (new_ok x y w1 HV.out.1 HV.out.2.1 HV.out.2.2.1 HV.out.2.2.2)
    go_enter Try.func8, Try.ntmps8
    go_wp2_with fail
    refine HC.out.mono ?_
    rintro e w3 ⟨rfl, T3, b3, z3⟩
    have HF3 := hide (HF.out.below b3)
    obtain ⟨t, hT⟩ : ∃ t, w1.heap.size = t := ⟨_, rfl⟩
    rw [hT] at T3 ⊢
    have HT3 := hide T3
    have HTB : Hid (w0.heap.size ≤ t ∧ t ≠ g ∧ (∀ j, j < 4 → t ≠ (qs j).tb) ∧ (∀ j, j < 4 → ∀ ad, (qs j).bo = some ad → ad.block ≠ t)) := by
      have h1 := HF.out.Q.bel.size
      have h2 := HF.out.Q.box.lt
      refine ⟨by omega, by omega, fun j hj => by have := (HF.out.Q.each j hj).tab.lt; omega, fun j hj ad ha e => ?_⟩
      have := (HF.out.Q.each j hj).bl ad ha
      omega
    have s2' := HF3.out.S.c2
    have s3' := HF3.out.S.c3
    rw [HA.out.1] at s2'
    rw [HA.out.2] at s3'
    clear T3 b3 z3 s0 s2 s3 hw1
    go_wp2_with fail
    refine (rnew_any x y w3).mono ?_
    rintro e w4 ⟨rfl, rfl⟩
    rw [he]
    clear he
    go_wp2_with fail
    refine wp_region_held_drew (S := fun W => W.cell? ⟨b, 2, none⟩ = some (.int .i64 x) ∧ W.cell? ⟨b, 3, none⟩ = some (.int .i64 y)) (by kernel_rfl) (⟨by rw [(HF3.out.below (below_drew1 _)).S.c2, HA.out.1], by rw [(HF3.out.below (below_drew1 _)).S.c3, HA.out.2]⟩) (fun hHeld => ?_)
    refine wpAnyH_take (i := 0) (oi := { dst := some 50, op := Op.move (Operand.tmp 0), type := 32, pos := "law.go:74", after := #[], guard := none }) (v := ?_) rfl (by kernel_rfl) (by kernel_rfl) (by kernel_rfl) (fun _ _ _ h => h) (Or.inl ⟨by rfl, ?_⟩) (by assumption) ?_
    rotate_left
    · (intro w hSw; (try dsimp only at hSw); go_simp); first | done | with_reducible rfl
    simp only [Act.put, List.setIfInBounds_toArray, List.set_cons_zero, List.set_cons_succ]
    refine wpAnyH_take (i := 1) (oi := { dst := some 51, op := Op.move (Operand.tmp 0), type := 32, pos := "law.go:74", after := #[{ on := 10, ground := Ground.gcOnly Departure.lateStores }], guard := none }) (v := ?_) rfl (by kernel_rfl) (by kernel_rfl) (by kernel_rfl) (fun _ _ _ h => h) (Or.inl ⟨by rfl, ?_⟩) (by assumption) ?_
    rotate_left
    · (intro w hSw; (try dsimp only at hSw); go_simp); first | done | with_reducible rfl
    simp only [Act.put, List.setIfInBounds_toArray, List.set_cons_zero, List.set_cons_succ]
    refine wpAnyH_take (i := 2) (oi := { dst := some 52, op := Op.move (Operand.tmp 5), type := 23, pos := "law.go:74", after := #[], guard := none }) (v := ?_) rfl (by kernel_rfl) (by kernel_rfl) (by kernel_rfl) (fun _ _ _ h => h) (Or.inl ⟨by rfl, ?_⟩) (by assumption) ?_
    rotate_left
    · (intro w hSw; (try dsimp only at hSw); go_simp); first | done | with_reducible rfl
    simp only [Act.put, List.setIfInBounds_toArray, List.set_cons_zero, List.set_cons_succ]
    refine wpAnyH_take (i := 3) (oi := { dst := some 53, op := Op.fieldAddr 34 (Operand.tmp 3) 2, type := 0, pos := "law.go:74", after := #[], guard := none }) (v := ?_) rfl (by kernel_rfl) (by kernel_rfl) (by kernel_rfl) (fun _ _ _ h => h) (Or.inl ⟨by rfl, ?_⟩) (by assumption) ?_
    rotate_left
    · (intro w hSw; (try dsimp only at hSw); go_simp); first | done | with_reducible rfl
    simp only [Act.put, List.setIfInBounds_toArray, List.set_cons_zero, List.set_cons_succ]
    refine wpAnyH_take (i := 4) (oi := { dst := some 54, op := Op.load 3 (Operand.tmp 53), type := 3, pos := "law.go:74", after := #[{ on := 3, ground := Ground.data }], guard := none }) (v := ?_) rfl (by kernel_rfl) (by kernel_rfl) (by kernel_rfl) (fun _ _ _ h => h) (Or.inl ⟨by rfl, ?_⟩) (by assumption) ?_
    rotate_left
    · (intro w hSw; (try dsimp only at hSw); go_simp); first | done | with_reducible rfl
    simp only [Act.put, List.setIfInBounds_toArray, List.set_cons_zero, List.set_cons_succ]
    refine wpAnyH_take (i := 5) (oi := { dst := some 55, op := Op.fieldAddr 34 (Operand.tmp 3) 3, type := 0, pos := "law.go:74", after := #[], guard := none }) (v := ?_) rfl (by kernel_rfl) (by kernel_rfl) (by kernel_rfl) (fun _ _ _ h => h) (Or.inl ⟨by rfl, ?_⟩) (by assumption) ?_
    rotate_left
    · (intro w hSw; (try dsimp only at hSw); go_simp); first | done | with_reducible rfl
    simp only [Act.put, List.setIfInBounds_toArray, List.set_cons_zero, List.set_cons_succ]
    refine wpAnyH_take (i := 6) (oi := { dst := some 56, op := Op.load 3 (Operand.tmp 55), type := 3, pos := "law.go:74", after := #[{ on := 5, ground := Ground.data }], guard := none }) (v := ?_) rfl (by kernel_rfl) (by kernel_rfl) (by kernel_rfl) (fun _ _ _ h => h) (Or.inl ⟨by rfl, ?_⟩) (by assumption) ?_
    rotate_left
    · (intro w hSw; (try dsimp only at hSw); go_simp); first | done | with_reducible rfl
    simp only [Act.put, List.setIfInBounds_toArray, List.set_cons_zero, List.set_cons_succ]
    refine wpAnyH_take (i := 7) (oi := { dst := some 57, op := Op.build 26 #[(0, Operand.tmp 54), (1, Operand.tmp 56)], type := 26, pos := "law.go:74", after := #[{ on := 4, ground := Ground.data }, { on := 6, ground := Ground.data }], guard := none }) (v := ?_) rfl (by kernel_rfl) (by kernel_rfl) (by kernel_rfl) (fun _ _ _ h => h) (Or.inl ⟨by rfl, ?_⟩) (by assumption) ?_
    rotate_left
    · (intro w hSw; (try dsimp only at hSw); go_simp); first | done | with_reducible rfl
    simp only [Act.put, List.setIfInBounds_toArray, List.set_cons_zero, List.set_cons_succ]
    refine wpAnyH_take (i := 8) (oi := { dst := some 58, op := Op.nilCheck (Operand.tmp 50), type := 0, pos := "law.go:74", after := #[{ on := 0, ground := Ground.data }, { on := 0, ground := Ground.phase }, { on := 1, ground := Ground.textOnly Departure.lateStores }, { on := 2, ground := Ground.phase }, { on := 3, ground := Ground.textOnly Departure.lateStores }, { on := 4, ground := Ground.textOnly Departure.lateStores }, { on := 5, ground := Ground.textOnly Departure.lateStores }, { on := 6, ground := Ground.textOnly Departure.lateStores }, { on := 7, ground := Ground.textOnly Departure.lateStoresUnsure }], guard := none }) (v := ?_) rfl (by kernel_rfl) (by kernel_rfl) (by kernel_rfl) (fun _ _ _ h => h) (Or.inl ⟨by rfl, ?_⟩) (by assumption) ?_
    rotate_left
    · (intro w hSw; (try dsimp only at hSw); go_simp); first | done | with_reducible rfl
    simp only [Act.put, List.setIfInBounds_toArray, List.set_cons_zero, List.set_cons_succ]
    refine wpAnyH_take (i := 9) (oi := { dst := some 59, op := Op.fieldAddr 28 (Operand.tmp 58) 0, type := 0, pos := "law.go:74", after := #[{ on := 8, ground := Ground.data }, { on := 0, ground := Ground.phase }, { on := 1, ground := Ground.textOnly Departure.lateStores }, { on := 2, ground := Ground.phase }, { on := 3, ground := Ground.textOnly Departure.lateStores }, { on := 4, ground := Ground.textOnly Departure.lateStores }, { on := 5, ground := Ground.textOnly Departure.lateStores }, { on := 6, ground := Ground.textOnly Departure.lateStores }, { on := 7, ground := Ground.textOnly Departure.lateStoresUnsure }], guard := none }) (v := ?_) rfl (by kernel_rfl) (by kernel_rfl) (by kernel_rfl) (fun _ _ _ h => h) (Or.inl ⟨by rfl, ?_⟩) (by assumption) ?_
    rotate_left
    · (intro w hSw; (try dsimp only at hSw); go_simp); first | done | with_reducible rfl
    simp only [Act.put, List.setIfInBounds_toArray, List.set_cons_zero, List.set_cons_succ]
    obtain ⟨d0, z0, hS4, w5, hst, hS5, HP⟩ := new_end HF3.out HT3.out HI.out HV.out HA.out HH.out HTB.out
    refine wpAnyH_ready (rs := [10]) (by kernel_rfl) (by simp) ?_
    refine AllReadyH.cons rfl (fun K hK => ?_) ?_
    rotate_left
    · exact AllReadyH.nil
    go_simp
    refine hK.out _ _ hS4 (fun hHeld => ?_)
    clear hK K
    refine wpAnyH_take (i := 11) (oi := { dst := some 60, op := Op.nilCheck (Operand.tmp 51), type := 0, pos := "law.go:74", after := #[{ on := 1, ground := Ground.data }, { on := 0, ground := Ground.phase }, { on := 1, ground := Ground.phase }, { on := 2, ground := Ground.phase }, { on := 3, ground := Ground.phase }, { on := 4, ground := Ground.phase }, { on := 5, ground := Ground.phase }, { on := 6, ground := Ground.phase }, { on := 7, ground := Ground.phase }, { on := 8, ground := Ground.phase }, { on := 9, ground := Ground.phase }, { on := 10, ground := Ground.phase }], guard := none }) (v := ?_) rfl (by kernel_rfl) (by kernel_rfl) (by kernel_rfl) (fun _ _ _ h => h) (Or.inl ⟨by rfl, ?_⟩) (by assumption) ?_
    rotate_left
    · (intro w hSw; (try dsimp only at hSw); go_simp); first | done | with_reducible rfl
    simp only [Act.put, List.setIfInBounds_toArray, List.set_cons_zero, List.set_cons_succ]
    refine wpAnyH_take (i := 12) (oi := { dst := some 61, op := Op.fieldAddr 28 (Operand.tmp 60) 1, type := 0, pos := "law.go:74", after := #[{ on := 11, ground := Ground.data }, { on := 0, ground := Ground.phase }, { on := 1, ground := Ground.phase }, { on := 2, ground := Ground.phase }, { on := 3, ground := Ground.phase }, { on := 4, ground := Ground.phase }, { on := 5, ground := Ground.phase }, { on := 6, ground := Ground.phase }, { on := 7, ground := Ground.phase }, { on := 8, ground := Ground.phase }, { on := 9, ground := Ground.phase }, { on := 10, ground := Ground.phase }], guard := none }) (v := ?_) rfl (by kernel_rfl) (by kernel_rfl) (by kernel_rfl) (fun _ _ _ h => h) (Or.inl ⟨by rfl, ?_⟩) (by assumption) ?_
    rotate_left
    · (intro w hSw; (try dsimp only at hSw); go_simp); first | done | with_reducible rfl
    simp only [Act.put, List.setIfInBounds_toArray, List.set_cons_zero, List.set_cons_succ]
    refine wpAnyH_ready (rs := [13]) (by kernel_rfl) (by simp) ?_
    refine AllReadyH.cons rfl (fun K hK => ?_) ?_
    rotate_left
    · exact AllReadyH.nil
    go_simp
    refine hK.out _ _ hS5 (fun hHeld => ?_)
    clear hK K
    refine wpAnyH_done (by kernel_rfl) ?_ _
    clear hHeld
    go_wp2_with fail
    go_ret
    exact HP.out
  · have HC := hide (new_bad x y w1 he)
    have HD := hide (rnew_any x y w1)
    have HP := hide (Plays.same HF.out HI.out)
    obtain ⟨E, hE⟩ : ∃ E, newE x y = E := ⟨_, rfl⟩
    rw [hE] at he HC HD
    have he2 : (E != 0) = true := by simpa using he
    have he3 : decide (E = 0) = false := by simpa using he
    clear hE HF
    go_enter Try.func8, Try.ntmps8
    go_wp2_with (first
      | (go_at_call 17; refine HC.out.mono ?_; rintro e w2 ⟨rfl, rfl⟩)
      | (go_at_call 18; refine HD.out.mono ?_; rintro e w2 ⟨rfl, rfl⟩))
    go_ret
    exact HP.out
end Go.Proofs.Ytikpjlbchnpmmaa
