/- The law's play: Plan. -/
import Derived.Test.YtikpjlbchnpmmaaAPy
namespace Go.Proofs.Ytikpjlbchnpmmaa
open Go.RowKit
attribute [local go_sem ↓] ldN_eq stN_eq run_eqN
attribute [local go_sem] to_NC NC_s0 NC_s1 NC_s2
variable {w w' w0 : World} {g : Nat} {qs : Nat → Qp} {N : Nat} {k b : Nat} {o : Sp}

set_option maxRecDepth 100000 in
set_option maxHeartbeats 1000000 in
theorem play_plan (Q : QI w0 w g qs N) (I : InvA qs) (hk : k < 4) (o : Sp) (ho : o.kind = 4) (f : Nat) (hf : k * 4 = f) :
    Calls Try.prog 8 #[.pointer (some ⟨g, f, none⟩), SV o] w fun e w' => Plays w0 g N e w' := by
  obtain ⟨w1, hw1⟩ : ∃ w1, w.alloc (.cells (SC o) 34) = w1 := ⟨_, rfl⟩
  obtain ⟨b, hb⟩ : ∃ b, w.heap.size = b := ⟨_, rfl⟩
  have HF : Hid (PyF w0 w1 g qs N k b o) := by rw [← hw1, ← hb]; exact pyf_new Q hk o
  have s0 := HF.out.S.c0
  rw [ho] at s0
  have s2 := HF.out.S.c2
  have s3 := HF.out.S.c3
  have s4 := HF.out.S.c4
  have p0 := HF.out.p0 hf
  have HH := hide hf
  have HI := hide I
  have HR : Hid (((qs k).r : Int) ≤ 16) := by show _ ≤ _; have := (I k hk).r16; omega
  obtain ⟨x, hx⟩ : ∃ x, o.a = x := ⟨_, rfl⟩
  obtain ⟨y, hy⟩ : ∃ y, o.b = y := ⟨_, rfl⟩
  obtain ⟨z, hz⟩ : ∃ z, o.c = z := ⟨_, rfl⟩
  rw [hx] at s2
  rw [hy] at s3
  rw [hz] at s4
  have HA : Hid (o.a = x ∧ o.b = y ∧ o.c = z) := ⟨hx, hy, hz⟩
  obtain ⟨V, hV⟩ : ∃ V, planV (qs k).r (qs k).s (qs k).f x y z = V := ⟨_, rfl⟩
  obtain ⟨E, hE⟩ : ∃ E, planE (qs k).r (qs k).s x y z = E := ⟨_, rfl⟩
  have HC : Hid (∀ W, PyF w0 W g qs N k b o → Calls Try.prog 15 #[ptr (qs k).tb, .int .i64 x, .int .i64 y, .int .i64 z] W fun e w' => e = .returned (.tuple #[.agg (NC V), .int .i64 E]) ∧ PyF w0 w' g qs N k b o ∧ Below W.heap.size W w') := fun W F => by
    refine (plan_any W F.T HR.out x y z).mono ?_
    rintro e w' ⟨rfl, b'⟩
    exact ⟨by rw [hV, hE], F.below b', b'⟩
  have HD : Hid (∀ W, PyF w0 W g qs N k b o → Calls Try.prog 21 #[TV (qs k).r (qs k).s (qs k).bo (qs k).bn (qs k).bc, .int .i64 x, .int .i64 y, .int .i64 z] W fun e w' => e = .returned (.tuple #[.agg (NC V), .int .i64 E]) ∧ PyF w0 w' g qs N k b o ∧ Below W.heap.size W w') := fun W F => by
    refine (rplan_any _ _ _ (qs k).L x y z W F.B).mono ?_
    rintro e w' ⟨rfl, b'⟩
    exact ⟨by rw [inv_plan (HI.out k F.hk), hV, hE], F.below b', b'⟩
  clear Q I hf hx hy hz hV hE
  go_enter Try.func8, Try.ntmps8
  go_upto_region 20 with fail
  clear hw1
  go_cut [13, 14] from 21 to 221 (fun u v wx => ∃ n : Nat, u = ptr n ∧ v = .int .i64 E ∧ Hid (NBox wx n V ∧ PyF w0 wx g qs N k b o))
  case first =>
    have HSW : Hid (∀ W, PyF w0 W g qs N k b o → (fun W => W.cell? ⟨g, f, none⟩ = some (ptr (qs k).tb) ∧ W.cell? ⟨b, 2, none⟩ = some (.int .i64 x) ∧ W.cell? ⟨b, 3, none⟩ = some (.int .i64 y) ∧ W.cell? ⟨b, 4, none⟩ = some (.int .i64 z)) W) := fun W F => ⟨F.p0 HH.out, by rw [F.S.c2, HA.out.1], by rw [F.S.c3, HA.out.2.1], by rw [F.S.c4, HA.out.2.2]⟩
    clear s0 s2 s3 s4 p0
    refine wp_region_held_drew (S := fun W => W.cell? ⟨g, f, none⟩ = some (ptr (qs k).tb) ∧ W.cell? ⟨b, 2, none⟩ = some (.int .i64 x) ∧ W.cell? ⟨b, 3, none⟩ = some (.int .i64 y) ∧ W.cell? ⟨b, 4, none⟩ = some (.int .i64 z)) (by kernel_rfl) (HSW.out _ (HF.out.below (below_drew1 _))) (fun hHeld => ?_)
    refine wpAnyH_take (i := 0) (oi := { dst := some 137, op := Op.move (Operand.tmp 0), type := 32, pos := "law.go:89", after := #[], guard := none }) (v := ?_) rfl (by kernel_rfl) (by kernel_rfl) (by kernel_rfl) (fun _ _ _ h => h) (Or.inl ⟨by rfl, ?_⟩) (by assumption) ?_
    rotate_left
    · (intro w hSw; (try dsimp only at hSw); go_simp); first | done | with_reducible rfl
    simp only [Act.put, List.setIfInBounds_toArray, List.set_cons_zero, List.set_cons_succ]
    refine wpAnyH_take (i := 1) (oi := { dst := some 138, op := Op.nilCheck (Operand.tmp 137), type := 0, pos := "law.go:89", after := #[{ on := 0, ground := Ground.data }], guard := none }) (v := ?_) rfl (by kernel_rfl) (by kernel_rfl) (by kernel_rfl) (fun _ _ _ h => h) (Or.inl ⟨by rfl, ?_⟩) (by assumption) ?_
    rotate_left
    · (intro w hSw; (try dsimp only at hSw); go_simp); first | done | with_reducible rfl
    simp only [Act.put, List.setIfInBounds_toArray, List.set_cons_zero, List.set_cons_succ]
    refine wpAnyH_take (i := 2) (oi := { dst := some 139, op := Op.fieldAddr 28 (Operand.tmp 138) 0, type := 0, pos := "law.go:89", after := #[{ on := 1, ground := Ground.data }], guard := none }) (v := ?_) rfl (by kernel_rfl) (by kernel_rfl) (by kernel_rfl) (fun _ _ _ h => h) (Or.inl ⟨by rfl, ?_⟩) (by assumption) ?_
    rotate_left
    · (intro w hSw; (try dsimp only at hSw); go_simp); first | done | with_reducible rfl
    simp only [Act.put, List.setIfInBounds_toArray, List.set_cons_zero, List.set_cons_succ]
    refine wpAnyH_take (i := 3) (oi := { dst := some 140, op := Op.load 23 (Operand.tmp 139), type := 23, pos := "law.go:89", after := #[{ on := 2, ground := Ground.data }], guard := none }) (v := ?_) rfl (by kernel_rfl) (by kernel_rfl) (by kernel_rfl) (fun _ _ _ h => h) (Or.inl ⟨by rfl, ?_⟩) (by assumption) ?_
    rotate_left
    · (intro w hSw; (try dsimp only at hSw); go_simp); first | done | with_reducible rfl
    simp only [Act.put, List.setIfInBounds_toArray, List.set_cons_zero, List.set_cons_succ]
    refine wpAnyH_take (i := 4) (oi := { dst := some 141, op := Op.fieldAddr 34 (Operand.tmp 3) 2, type := 0, pos := "law.go:89", after := #[], guard := none }) (v := ?_) rfl (by kernel_rfl) (by kernel_rfl) (by kernel_rfl) (fun _ _ _ h => h) (Or.inl ⟨by rfl, ?_⟩) (by assumption) ?_
    rotate_left
    · (intro w hSw; (try dsimp only at hSw); go_simp); first | done | with_reducible rfl
    simp only [Act.put, List.setIfInBounds_toArray, List.set_cons_zero, List.set_cons_succ]
    refine wpAnyH_take (i := 5) (oi := { dst := some 142, op := Op.load 3 (Operand.tmp 141), type := 3, pos := "law.go:89", after := #[{ on := 4, ground := Ground.data }], guard := none }) (v := ?_) rfl (by kernel_rfl) (by kernel_rfl) (by kernel_rfl) (fun _ _ _ h => h) (Or.inl ⟨by rfl, ?_⟩) (by assumption) ?_
    rotate_left
    · (intro w hSw; (try dsimp only at hSw); go_simp); first | done | with_reducible rfl
    simp only [Act.put, List.setIfInBounds_toArray, List.set_cons_zero, List.set_cons_succ]
    refine wpAnyH_take (i := 6) (oi := { dst := some 143, op := Op.fieldAddr 34 (Operand.tmp 3) 3, type := 0, pos := "law.go:89", after := #[], guard := none }) (v := ?_) rfl (by kernel_rfl) (by kernel_rfl) (by kernel_rfl) (fun _ _ _ h => h) (Or.inl ⟨by rfl, ?_⟩) (by assumption) ?_
    rotate_left
    · (intro w hSw; (try dsimp only at hSw); go_simp); first | done | with_reducible rfl
    simp only [Act.put, List.setIfInBounds_toArray, List.set_cons_zero, List.set_cons_succ]
    refine wpAnyH_take (i := 7) (oi := { dst := some 144, op := Op.load 3 (Operand.tmp 143), type := 3, pos := "law.go:89", after := #[{ on := 6, ground := Ground.data }], guard := none }) (v := ?_) rfl (by kernel_rfl) (by kernel_rfl) (by kernel_rfl) (fun _ _ _ h => h) (Or.inl ⟨by rfl, ?_⟩) (by assumption) ?_
    rotate_left
    · (intro w hSw; (try dsimp only at hSw); go_simp); first | done | with_reducible rfl
    simp only [Act.put, List.setIfInBounds_toArray, List.set_cons_zero, List.set_cons_succ]
    refine wpAnyH_take (i := 8) (oi := { dst := some 145, op := Op.fieldAddr 34 (Operand.tmp 3) 4, type := 0, pos := "law.go:89", after := #[], guard := none }) (v := ?_) rfl (by kernel_rfl) (by kernel_rfl) (by kernel_rfl) (fun _ _ _ h => h) (Or.inl ⟨by rfl, ?_⟩) (by assumption) ?_
    rotate_left
    · (intro w hSw; (try dsimp only at hSw); go_simp); first | done | with_reducible rfl
    simp only [Act.put, List.setIfInBounds_toArray, List.set_cons_zero, List.set_cons_succ]
    refine wpAnyH_take (i := 9) (oi := { dst := some 146, op := Op.load 3 (Operand.tmp 145), type := 3, pos := "law.go:89", after := #[{ on := 8, ground := Ground.data }], guard := none }) (v := ?_) rfl (by kernel_rfl) (by kernel_rfl) (by kernel_rfl) (fun _ _ _ h => h) (Or.inl ⟨by rfl, ?_⟩) (by assumption) ?_
    rotate_left
    · (intro w hSw; (try dsimp only at hSw); go_simp); first | done | with_reducible rfl
    simp only [Act.put, List.setIfInBounds_toArray, List.set_cons_zero, List.set_cons_succ]
    refine wpAnyH_ready (rs := [10, 14]) (by kernel_rfl) (by simp) ?_
    refine AllReadyH.cons rfl (fun K hK => ?_) (AllReadyH.cons rfl (fun K hK => ?_) AllReadyH.nil)
    · go_simp
      go_wp2_with fail
      refine (HC.out _ (HF.out.below (below_drew1 _))).mono ?_
      rintro e w3 ⟨rfl, F3, b3⟩
      refine hK.out _ _ (HSW.out _ F3) (fun hHeld => ?_)
      clear hK K
      refine wpAnyH_take (i := 11) (oi := { dst := some 136, op := Op.move (Operand.tmp 147), type := 52, pos := "law.go:89", after := #[{ on := 10, ground := Ground.data }], guard := none }) (v := ?_) rfl (by kernel_rfl) (by kernel_rfl) (by kernel_rfl) (fun _ _ _ h => h) (Or.inl ⟨by rfl, ?_⟩) (by assumption) ?_
      rotate_left
      · (intro w hSw; (try dsimp only at hSw); go_simp); first | done | with_reducible rfl
      simp only [Act.put, List.setIfInBounds_toArray, List.set_cons_zero, List.set_cons_succ]
      refine wpAnyH_take (i := 12) (oi := { dst := some 148, op := Op.extract (Operand.tmp 136) 0, type := 51, pos := "law.go:89", after := #[{ on := 11, ground := Ground.data }], guard := none }) (v := ?_) rfl (by kernel_rfl) (by kernel_rfl) (by kernel_rfl) (fun _ _ _ h => h) (Or.inl ⟨by rfl, ?_⟩) (by assumption) ?_
      rotate_left
      · (intro w hSw; (try dsimp only at hSw); go_simp); first | done | with_reducible rfl
      simp only [Act.put, List.setIfInBounds_toArray, List.set_cons_zero, List.set_cons_succ]
      refine wpAnyH_take (i := 13) (oi := { dst := some 149, op := Op.extract (Operand.tmp 136) 1, type := 40, pos := "law.go:89", after := #[{ on := 11, ground := Ground.data }, { on := 15, ground := Ground.gcOnly Departure.lateStores }], guard := none }) (v := ?_) rfl (by kernel_rfl) (by kernel_rfl) (by kernel_rfl) (fun _ _ _ h => h) (Or.inl ⟨by rfl, ?_⟩) (by assumption) ?_
      rotate_left
      · (intro w hSw; (try dsimp only at hSw); go_simp); first | done | with_reducible rfl
      simp only [Act.put, List.setIfInBounds_toArray, List.set_cons_zero, List.set_cons_succ]
      refine wpAnyH_ready (rs := [14]) (by kernel_rfl) (by simp) ?_
      refine AllReadyH.cons rfl (fun K hK => ?_) ?_
      rotate_left
      · exact AllReadyH.nil
      go_simp
      refine hK.out _ _ (HSW.out _ (F3.below (below_new _ _))) (fun hHeld => ?_)
      clear hK K
      have t1 := run_stN (p' := V) (nbox_new w3 ⟨false, 0, 0⟩)
      have F4 := F3.below (below_setRow (cs := NC V) (below_new w3 (.cells (NC ⟨false, 0, 0⟩) 51)) (Nat.le_refl _))
      have HN : Hid (NBox ((w3.alloc (.cells (NC ⟨false, 0, 0⟩) 51)).setRow w3.heap.size (NC V)) w3.heap.size V ∧ PyF w0 ((w3.alloc (.cells (NC ⟨false, 0, 0⟩) 51)).setRow w3.heap.size (NC V)) g qs N k b o) := ⟨(nbox_new w3 ⟨false, 0, 0⟩).setRow, F4⟩
      have HF4 := hide F4
      clear F4 F3 b3
      refine wpAnyH_ready (rs := [15]) (by kernel_rfl) (by simp) ?_
      refine AllReadyH.cons rfl (fun K hK => ?_) ?_
      rotate_left
      · exact AllReadyH.nil
      go_simp
      refine hK.out _ _ (HSW.out _ HF4.out) (fun hHeld => ?_)
      clear hK K
      refine wpAnyH_take (i := 16) (oi := { dst := some 14, op := Op.assign (Operand.tmp 149), type := 40, pos := "law.go:89", after := #[{ on := 13, ground := Ground.data }, { on := 15, ground := Ground.chain }, { on := 0, ground := Ground.phase }, { on := 1, ground := Ground.phase }, { on := 2, ground := Ground.phase }, { on := 3, ground := Ground.phase }, { on := 4, ground := Ground.phase }, { on := 5, ground := Ground.phase }, { on := 6, ground := Ground.phase }, { on := 7, ground := Ground.phase }, { on := 8, ground := Ground.phase }, { on := 9, ground := Ground.phase }, { on := 10, ground := Ground.phase }, { on := 11, ground := Ground.phase }, { on := 12, ground := Ground.phase }, { on := 13, ground := Ground.phase }, { on := 14, ground := Ground.phase }, { on := 15, ground := Ground.phase }], guard := none }) (v := ?_) rfl (by kernel_rfl) (by kernel_rfl) (by kernel_rfl) (fun _ _ _ h => h) (Or.inl ⟨by rfl, ?_⟩) (by assumption) ?_
      rotate_left
      · (intro w hSw; (try dsimp only at hSw); go_simp); first | done | with_reducible rfl
      simp only [Act.put, List.setIfInBounds_toArray, List.set_cons_zero, List.set_cons_succ]
      refine wpAnyH_done (by kernel_rfl) ?_ _
      clear hHeld
      go_wp2_with fail
      go_meet
      exact ⟨_, rfl, rfl, HN⟩
    · go_simp
      refine hK.out _ _ (HSW.out _ ((HF.out.below (below_drew1 _)).below (below_new _ _))) (fun hHeld => ?_)
      clear hK K
      refine wpAnyH_ready (rs := [10]) (by kernel_rfl) (by simp) ?_
      refine AllReadyH.cons rfl (fun K hK => ?_) ?_
      rotate_left
      · exact AllReadyH.nil
      go_simp
      go_wp2_with fail
      refine (HC.out _ ((HF.out.below (below_drew1 _)).below (below_new _ _))).mono ?_
      rintro e w3 ⟨rfl, F3, b3⟩
      refine hK.out _ _ (HSW.out _ F3) (fun hHeld => ?_)
      clear hK K
      refine wpAnyH_take (i := 11) (oi := { dst := some 136, op := Op.move (Operand.tmp 147), type := 52, pos := "law.go:89", after := #[{ on := 10, ground := Ground.data }], guard := none }) (v := ?_) rfl (by kernel_rfl) (by kernel_rfl) (by kernel_rfl) (fun _ _ _ h => h) (Or.inl ⟨by rfl, ?_⟩) (by assumption) ?_
      rotate_left
      · (intro w hSw; (try dsimp only at hSw); go_simp); first | done | with_reducible rfl
      simp only [Act.put, List.setIfInBounds_toArray, List.set_cons_zero, List.set_cons_succ]
      refine wpAnyH_take (i := 12) (oi := { dst := some 148, op := Op.extract (Operand.tmp 136) 0, type := 51, pos := "law.go:89", after := #[{ on := 11, ground := Ground.data }], guard := none }) (v := ?_) rfl (by kernel_rfl) (by kernel_rfl) (by kernel_rfl) (fun _ _ _ h => h) (Or.inl ⟨by rfl, ?_⟩) (by assumption) ?_
      rotate_left
      · (intro w hSw; (try dsimp only at hSw); go_simp); first | done | with_reducible rfl
      simp only [Act.put, List.setIfInBounds_toArray, List.set_cons_zero, List.set_cons_succ]
      refine wpAnyH_take (i := 13) (oi := { dst := some 149, op := Op.extract (Operand.tmp 136) 1, type := 40, pos := "law.go:89", after := #[{ on := 11, ground := Ground.data }, { on := 15, ground := Ground.gcOnly Departure.lateStores }], guard := none }) (v := ?_) rfl (by kernel_rfl) (by kernel_rfl) (by kernel_rfl) (fun _ _ _ h => h) (Or.inl ⟨by rfl, ?_⟩) (by assumption) ?_
      rotate_left
      · (intro w hSw; (try dsimp only at hSw); go_simp); first | done | with_reducible rfl
      simp only [Act.put, List.setIfInBounds_toArray, List.set_cons_zero, List.set_cons_succ]
      have n3 : NBox w3 w1.heap.size ⟨false, 0, 0⟩ := (nbox_new w1.drew ⟨false, 0, 0⟩).below b3
      have t1 := run_stN (p' := V) n3
      have F4 : PyF w0 (w3.setRow w1.heap.size (NC V)) g qs N k b o := (HF.out.below (below_drew1 _)).below (below_setRow (cs := NC V) ((below_new w1.drew (.cells (NC ⟨false, 0, 0⟩) 51)).trans (b3.mono (by simp))) (Nat.le_refl _))
      have HN : Hid (NBox (w3.setRow w1.heap.size (NC V)) w1.heap.size V ∧ PyF w0 (w3.setRow w1.heap.size (NC V)) g qs N k b o) := ⟨n3.setRow, F4⟩
      have HF4 := hide F4
      clear F4 F3 b3 n3
      refine wpAnyH_ready (rs := [15]) (by kernel_rfl) (by simp) ?_
      refine AllReadyH.cons rfl (fun K hK => ?_) ?_
      rotate_left
      · exact AllReadyH.nil
      go_simp
      refine hK.out _ _ (HSW.out _ HF4.out) (fun hHeld => ?_)
      clear hK K
      refine wpAnyH_take (i := 16) (oi := { dst := some 14, op := Op.assign (Operand.tmp 149), type := 40, pos := "law.go:89", after := #[{ on := 13, ground := Ground.data }, { on := 15, ground := Ground.chain }, { on := 0, ground := Ground.phase }, { on := 1, ground := Ground.phase }, { on := 2, ground := Ground.phase }, { on := 3, ground := Ground.phase }, { on := 4, ground := Ground.phase }, { on := 5, ground := Ground.phase }, { on := 6, ground := Ground.phase }, { on := 7, ground := Ground.phase }, { on := 8, ground := Ground.phase }, { on := 9, ground := Ground.phase }, { on := 10, ground := Ground.phase }, { on := 11, ground := Ground.phase }, { on := 12, ground := Ground.phase }, { on := 13, ground := Ground.phase }, { on := 14, ground := Ground.phase }, { on := 15, ground := Ground.phase }], guard := none }) (v := ?_) rfl (by kernel_rfl) (by kernel_rfl) (by kernel_rfl) (fun _ _ _ h => h) (Or.inl ⟨by rfl, ?_⟩) (by assumption) ?_
      rotate_left
      · (intro w hSw; (try dsimp only at hSw); go_simp); first | done | with_reducible rfl
      simp only [Act.put, List.setIfInBounds_toArray, List.set_cons_zero, List.set_cons_succ]
      refine wpAnyH_done (by kernel_rfl) ?_ _
      clear hHeld
      go_wp2_with fail
      go_meet
      exact ⟨_, rfl, rfl, HN⟩
  case rest =>
    obtain ⟨n, rfl, rfl, HX⟩ := hcut
    clear HF s0 s2 s3 s4 p0
    have HF := hide HX.out.2
    have HNB := hide HX.out.1
    clear HX
    go_upto_region 21 with fail
    go_cut [15, 16] from 21 to 221 (fun u v wx => ∃ m : Nat, u = ptr m ∧ v = .int .i64 E ∧ Hid (NBox wx m V ∧ PyF w0 wx g qs N k b o ∧ NBox wx n V))
    case first =>
      have HSW : Hid (∀ W, PyF w0 W g qs N k b o → (fun W => W.cell? ⟨g, f + 1, none⟩ = some (.int .i64 (qs k).r) ∧ W.cell? ⟨g, f + 2, none⟩ = some (.int .i64 (qs k).s) ∧ W.cell? ⟨g, f + 3, none⟩ = some (.slice (qs k).bo (qs k).bn (qs k).bc) ∧ W.cell? ⟨b, 2, none⟩ = some (.int .i64 x) ∧ W.cell? ⟨b, 3, none⟩ = some (.int .i64 y) ∧ W.cell? ⟨b, 4, none⟩ = some (.int .i64 z)) W) := fun W F => ⟨F.p1 HH.out, F.p2 HH.out, F.p3 HH.out, by rw [F.S.c2, HA.out.1], by rw [F.S.c3, HA.out.2.1], by rw [F.S.c4, HA.out.2.2]⟩
      refine wp_region_held_drew (S := fun W => W.cell? ⟨g, f + 1, none⟩ = some (.int .i64 (qs k).r) ∧ W.cell? ⟨g, f + 2, none⟩ = some (.int .i64 (qs k).s) ∧ W.cell? ⟨g, f + 3, none⟩ = some (.slice (qs k).bo (qs k).bn (qs k).bc) ∧ W.cell? ⟨b, 2, none⟩ = some (.int .i64 x) ∧ W.cell? ⟨b, 3, none⟩ = some (.int .i64 y) ∧ W.cell? ⟨b, 4, none⟩ = some (.int .i64 z)) (by kernel_rfl) (HSW.out _ (HF.out.below (below_drew1 _))) (fun hHeld => ?_)
      refine wpAnyH_take (i := 0) (oi := { dst := some 151, op := Op.move (Operand.tmp 0), type := 32, pos := "law.go:90", after := #[], guard := none }) (v := ?_) rfl (by kernel_rfl) (by kernel_rfl) (by kernel_rfl) (fun _ _ _ h => h) (Or.inl ⟨by rfl, ?_⟩) (by assumption) ?_
      rotate_left
      · (intro w hSw; (try dsimp only at hSw); go_simp); first | done | with_reducible rfl
      simp only [Act.put, List.setIfInBounds_toArray, List.set_cons_zero, List.set_cons_succ]
      refine wpAnyH_take (i := 1) (oi := { dst := some 152, op := Op.nilCheck (Operand.tmp 151), type := 0, pos := "law.go:90", after := #[{ on := 0, ground := Ground.data }], guard := none }) (v := ?_) rfl (by kernel_rfl) (by kernel_rfl) (by kernel_rfl) (fun _ _ _ h => h) (Or.inl ⟨by rfl, ?_⟩) (by assumption) ?_
      rotate_left
      · (intro w hSw; (try dsimp only at hSw); go_simp); first | done | with_reducible rfl
      simp only [Act.put, List.setIfInBounds_toArray, List.set_cons_zero, List.set_cons_succ]
      refine wpAnyH_take (i := 2) (oi := { dst := some 153, op := Op.fieldAddr 28 (Operand.tmp 152) 1, type := 0, pos := "law.go:90", after := #[{ on := 1, ground := Ground.data }], guard := none }) (v := ?_) rfl (by kernel_rfl) (by kernel_rfl) (by kernel_rfl) (fun _ _ _ h => h) (Or.inl ⟨by rfl, ?_⟩) (by assumption) ?_
      rotate_left
      · (intro w hSw; (try dsimp only at hSw); go_simp); first | done | with_reducible rfl
      simp only [Act.put, List.setIfInBounds_toArray, List.set_cons_zero, List.set_cons_succ]
      refine wpAnyH_take (i := 3) (oi := { dst := some 154, op := Op.load 26 (Operand.tmp 153), type := 26, pos := "law.go:90", after := #[{ on := 2, ground := Ground.data }], guard := none }) (v := ?_) rfl (by kernel_rfl) (by kernel_rfl) (by kernel_rfl) (fun _ _ _ h => h) (Or.inl ⟨by rfl, ?_⟩) (by assumption) ?_
      rotate_left
      · (intro w hSw; (try dsimp only at hSw); go_simp); first | done | with_reducible rfl
      simp only [Act.put, List.setIfInBounds_toArray, List.set_cons_zero, List.set_cons_succ]
      refine wpAnyH_take (i := 4) (oi := { dst := some 155, op := Op.fieldAddr 34 (Operand.tmp 3) 2, type := 0, pos := "law.go:90", after := #[], guard := none }) (v := ?_) rfl (by kernel_rfl) (by kernel_rfl) (by kernel_rfl) (fun _ _ _ h => h) (Or.inl ⟨by rfl, ?_⟩) (by assumption) ?_
      rotate_left
      · (intro w hSw; (try dsimp only at hSw); go_simp); first | done | with_reducible rfl
      simp only [Act.put, List.setIfInBounds_toArray, List.set_cons_zero, List.set_cons_succ]
      refine wpAnyH_take (i := 5) (oi := { dst := some 156, op := Op.load 3 (Operand.tmp 155), type := 3, pos := "law.go:90", after := #[{ on := 4, ground := Ground.data }], guard := none }) (v := ?_) rfl (by kernel_rfl) (by kernel_rfl) (by kernel_rfl) (fun _ _ _ h => h) (Or.inl ⟨by rfl, ?_⟩) (by assumption) ?_
      rotate_left
      · (intro w hSw; (try dsimp only at hSw); go_simp); first | done | with_reducible rfl
      simp only [Act.put, List.setIfInBounds_toArray, List.set_cons_zero, List.set_cons_succ]
      refine wpAnyH_take (i := 6) (oi := { dst := some 157, op := Op.fieldAddr 34 (Operand.tmp 3) 3, type := 0, pos := "law.go:90", after := #[], guard := none }) (v := ?_) rfl (by kernel_rfl) (by kernel_rfl) (by kernel_rfl) (fun _ _ _ h => h) (Or.inl ⟨by rfl, ?_⟩) (by assumption) ?_
      rotate_left
      · (intro w hSw; (try dsimp only at hSw); go_simp); first | done | with_reducible rfl
      simp only [Act.put, List.setIfInBounds_toArray, List.set_cons_zero, List.set_cons_succ]
      refine wpAnyH_take (i := 7) (oi := { dst := some 158, op := Op.load 3 (Operand.tmp 157), type := 3, pos := "law.go:90", after := #[{ on := 6, ground := Ground.data }], guard := none }) (v := ?_) rfl (by kernel_rfl) (by kernel_rfl) (by kernel_rfl) (fun _ _ _ h => h) (Or.inl ⟨by rfl, ?_⟩) (by assumption) ?_
      rotate_left
      · (intro w hSw; (try dsimp only at hSw); go_simp); first | done | with_reducible rfl
      simp only [Act.put, List.setIfInBounds_toArray, List.set_cons_zero, List.set_cons_succ]
      refine wpAnyH_take (i := 8) (oi := { dst := some 159, op := Op.fieldAddr 34 (Operand.tmp 3) 4, type := 0, pos := "law.go:90", after := #[], guard := none }) (v := ?_) rfl (by kernel_rfl) (by kernel_rfl) (by kernel_rfl) (fun _ _ _ h => h) (Or.inl ⟨by rfl, ?_⟩) (by assumption) ?_
      rotate_left
      · (intro w hSw; (try dsimp only at hSw); go_simp); first | done | with_reducible rfl
      simp only [Act.put, List.setIfInBounds_toArray, List.set_cons_zero, List.set_cons_succ]
      refine wpAnyH_take (i := 9) (oi := { dst := some 160, op := Op.load 3 (Operand.tmp 159), type := 3, pos := "law.go:90", after := #[{ on := 8, ground := Ground.data }], guard := none }) (v := ?_) rfl (by kernel_rfl) (by kernel_rfl) (by kernel_rfl) (fun _ _ _ h => h) (Or.inl ⟨by rfl, ?_⟩) (by assumption) ?_
      rotate_left
      · (intro w hSw; (try dsimp only at hSw); go_simp); first | done | with_reducible rfl
      simp only [Act.put, List.setIfInBounds_toArray, List.set_cons_zero, List.set_cons_succ]
      refine wpAnyH_ready (rs := [10, 14]) (by kernel_rfl) (by simp) ?_
      refine AllReadyH.cons rfl (fun K hK => ?_) (AllReadyH.cons rfl (fun K hK => ?_) AllReadyH.nil)
      · go_simp
        go_wp2_with fail
        refine (HD.out _ (HF.out.below (below_drew1 _))).mono ?_
        rintro e w3 ⟨rfl, F3, b3⟩
        refine hK.out _ _ (HSW.out _ F3) (fun hHeld => ?_)
        clear hK K
        refine wpAnyH_take (i := 11) (oi := { dst := some 150, op := Op.move (Operand.tmp 161), type := 52, pos := "law.go:90", after := #[{ on := 10, ground := Ground.data }], guard := none }) (v := ?_) rfl (by kernel_rfl) (by kernel_rfl) (by kernel_rfl) (fun _ _ _ h => h) (Or.inl ⟨by rfl, ?_⟩) (by assumption) ?_
        rotate_left
        · (intro w hSw; (try dsimp only at hSw); go_simp); first | done | with_reducible rfl
        simp only [Act.put, List.setIfInBounds_toArray, List.set_cons_zero, List.set_cons_succ]
        refine wpAnyH_take (i := 12) (oi := { dst := some 162, op := Op.extract (Operand.tmp 150) 0, type := 51, pos := "law.go:90", after := #[{ on := 11, ground := Ground.data }], guard := none }) (v := ?_) rfl (by kernel_rfl) (by kernel_rfl) (by kernel_rfl) (fun _ _ _ h => h) (Or.inl ⟨by rfl, ?_⟩) (by assumption) ?_
        rotate_left
        · (intro w hSw; (try dsimp only at hSw); go_simp); first | done | with_reducible rfl
        simp only [Act.put, List.setIfInBounds_toArray, List.set_cons_zero, List.set_cons_succ]
        refine wpAnyH_take (i := 13) (oi := { dst := some 163, op := Op.extract (Operand.tmp 150) 1, type := 40, pos := "law.go:90", after := #[{ on := 11, ground := Ground.data }, { on := 15, ground := Ground.gcOnly Departure.lateStores }], guard := none }) (v := ?_) rfl (by kernel_rfl) (by kernel_rfl) (by kernel_rfl) (fun _ _ _ h => h) (Or.inl ⟨by rfl, ?_⟩) (by assumption) ?_
        rotate_left
        · (intro w hSw; (try dsimp only at hSw); go_simp); first | done | with_reducible rfl
        simp only [Act.put, List.setIfInBounds_toArray, List.set_cons_zero, List.set_cons_succ]
        refine wpAnyH_ready (rs := [14]) (by kernel_rfl) (by simp) ?_
        refine AllReadyH.cons rfl (fun K hK => ?_) ?_
        rotate_left
        · exact AllReadyH.nil
        go_simp
        refine hK.out _ _ (HSW.out _ (F3.below (below_new _ _))) (fun hHeld => ?_)
        clear hK K
        have t1 := run_stN (p' := V) (nbox_new w3 ⟨false, 0, 0⟩)
        have F4 := F3.below (below_setRow (cs := NC V) (below_new w3 (.cells (NC ⟨false, 0, 0⟩) 51)) (Nat.le_refl _))
        have HN : Hid (NBox ((w3.alloc (.cells (NC ⟨false, 0, 0⟩) 51)).setRow w3.heap.size (NC V)) w3.heap.size V ∧ PyF w0 ((w3.alloc (.cells (NC ⟨false, 0, 0⟩) 51)).setRow w3.heap.size (NC V)) g qs N k b o ∧ NBox ((w3.alloc (.cells (NC ⟨false, 0, 0⟩) 51)).setRow w3.heap.size (NC V)) n V) := ⟨(nbox_new w3 ⟨false, 0, 0⟩).setRow, F4, ((HNB.out.below (below_drew1 _)).below b3).below (below_setRow (cs := NC V) (below_new w3 (.cells (NC ⟨false, 0, 0⟩) 51)) (Nat.le_refl _))⟩
        have HF4 := hide F4
        clear F4 F3 b3
        refine wpAnyH_ready (rs := [15]) (by kernel_rfl) (by simp) ?_
        refine AllReadyH.cons rfl (fun K hK => ?_) ?_
        rotate_left
        · exact AllReadyH.nil
        go_simp
        refine hK.out _ _ (HSW.out _ HF4.out) (fun hHeld => ?_)
        clear hK K
        refine wpAnyH_take (i := 16) (oi := { dst := some 16, op := Op.assign (Operand.tmp 163), type := 40, pos := "law.go:90", after := #[{ on := 13, ground := Ground.data }, { on := 15, ground := Ground.chain }, { on := 0, ground := Ground.phase }, { on := 1, ground := Ground.phase }, { on := 2, ground := Ground.phase }, { on := 3, ground := Ground.phase }, { on := 4, ground := Ground.phase }, { on := 5, ground := Ground.phase }, { on := 6, ground := Ground.phase }, { on := 7, ground := Ground.phase }, { on := 8, ground := Ground.phase }, { on := 9, ground := Ground.phase }, { on := 10, ground := Ground.phase }, { on := 11, ground := Ground.phase }, { on := 12, ground := Ground.phase }, { on := 13, ground := Ground.phase }, { on := 14, ground := Ground.phase }, { on := 15, ground := Ground.phase }], guard := none }) (v := ?_) rfl (by kernel_rfl) (by kernel_rfl) (by kernel_rfl) (fun _ _ _ h => h) (Or.inl ⟨by rfl, ?_⟩) (by assumption) ?_
        rotate_left
        · (intro w hSw; (try dsimp only at hSw); go_simp); first | done | with_reducible rfl
        simp only [Act.put, List.setIfInBounds_toArray, List.set_cons_zero, List.set_cons_succ]
        refine wpAnyH_done (by kernel_rfl) ?_ _
        clear hHeld
        go_wp2_with fail
        go_meet
        exact ⟨_, rfl, rfl, HN⟩
      · go_simp
        refine hK.out _ _ (HSW.out _ ((HF.out.below (below_drew1 _)).below (below_new _ _))) (fun hHeld => ?_)
        clear hK K
        refine wpAnyH_ready (rs := [10]) (by kernel_rfl) (by simp) ?_
        refine AllReadyH.cons rfl (fun K hK => ?_) ?_
        rotate_left
        · exact AllReadyH.nil
        go_simp
        go_wp2_with fail
        refine (HD.out _ ((HF.out.below (below_drew1 _)).below (below_new _ _))).mono ?_
        rintro e w3 ⟨rfl, F3, b3⟩
        refine hK.out _ _ (HSW.out _ F3) (fun hHeld => ?_)
        clear hK K
        refine wpAnyH_take (i := 11) (oi := { dst := some 150, op := Op.move (Operand.tmp 161), type := 52, pos := "law.go:90", after := #[{ on := 10, ground := Ground.data }], guard := none }) (v := ?_) rfl (by kernel_rfl) (by kernel_rfl) (by kernel_rfl) (fun _ _ _ h => h) (Or.inl ⟨by rfl, ?_⟩) (by assumption) ?_
        rotate_left
        · (intro w hSw; (try dsimp only at hSw); go_simp); first | done | with_reducible rfl
        simp only [Act.put, List.setIfInBounds_toArray, List.set_cons_zero, List.set_cons_succ]
        refine wpAnyH_take (i := 12) (oi := { dst := some 162, op := Op.extract (Operand.tmp 150) 0, type := 51, pos := "law.go:90", after := #[{ on := 11, ground := Ground.data }], guard := none }) (v := ?_) rfl (by kernel_rfl) (by kernel_rfl) (by kernel_rfl) (fun _ _ _ h => h) (Or.inl ⟨by rfl, ?_⟩) (by assumption) ?_
        rotate_left
        · (intro w hSw; (try dsimp only at hSw); go_simp); first | done | with_reducible rfl
        simp only [Act.put, List.setIfInBounds_toArray, List.set_cons_zero, List.set_cons_succ]
        refine wpAnyH_take (i := 13) (oi := { dst := some 163, op := Op.extract (Operand.tmp 150) 1, type := 40, pos := "law.go:90", after := #[{ on := 11, ground := Ground.data }, { on := 15, ground := Ground.gcOnly Departure.lateStores }], guard := none }) (v := ?_) rfl (by kernel_rfl) (by kernel_rfl) (by kernel_rfl) (fun _ _ _ h => h) (Or.inl ⟨by rfl, ?_⟩) (by assumption) ?_
        rotate_left
        · (intro w hSw; (try dsimp only at hSw); go_simp); first | done | with_reducible rfl
        simp only [Act.put, List.setIfInBounds_toArray, List.set_cons_zero, List.set_cons_succ]
        have n3 : NBox w3 wc.heap.size ⟨false, 0, 0⟩ := (nbox_new wc.drew ⟨false, 0, 0⟩).below b3
        have t1 := run_stN (p' := V) n3
        have F4 : PyF w0 (w3.setRow wc.heap.size (NC V)) g qs N k b o := (HF.out.below (below_drew1 _)).below (below_setRow (cs := NC V) ((below_new wc.drew (.cells (NC ⟨false, 0, 0⟩) 51)).trans (b3.mono (by simp))) (Nat.le_refl _))
        have HN : Hid (NBox (w3.setRow wc.heap.size (NC V)) wc.heap.size V ∧ PyF w0 (w3.setRow wc.heap.size (NC V)) g qs N k b o ∧ NBox (w3.setRow wc.heap.size (NC V)) n V) := ⟨n3.setRow, F4, (HNB.out.below (below_drew1 _)).below (below_setRow (cs := NC V) ((below_new wc.drew (.cells (NC ⟨false, 0, 0⟩) 51)).trans (b3.mono (by simp))) (Nat.le_refl _))⟩
        have HF4 := hide F4
        clear F4 F3 b3 n3
        refine wpAnyH_ready (rs := [15]) (by kernel_rfl) (by simp) ?_
        refine AllReadyH.cons rfl (fun K hK => ?_) ?_
        rotate_left
        · exact AllReadyH.nil
        go_simp
        refine hK.out _ _ (HSW.out _ HF4.out) (fun hHeld => ?_)
        clear hK K
        refine wpAnyH_take (i := 16) (oi := { dst := some 16, op := Op.assign (Operand.tmp 163), type := 40, pos := "law.go:90", after := #[{ on := 13, ground := Ground.data }, { on := 15, ground := Ground.chain }, { on := 0, ground := Ground.phase }, { on := 1, ground := Ground.phase }, { on := 2, ground := Ground.phase }, { on := 3, ground := Ground.phase }, { on := 4, ground := Ground.phase }, { on := 5, ground := Ground.phase }, { on := 6, ground := Ground.phase }, { on := 7, ground := Ground.phase }, { on := 8, ground := Ground.phase }, { on := 9, ground := Ground.phase }, { on := 10, ground := Ground.phase }, { on := 11, ground := Ground.phase }, { on := 12, ground := Ground.phase }, { on := 13, ground := Ground.phase }, { on := 14, ground := Ground.phase }, { on := 15, ground := Ground.phase }], guard := none }) (v := ?_) rfl (by kernel_rfl) (by kernel_rfl) (by kernel_rfl) (fun _ _ _ h => h) (Or.inl ⟨by rfl, ?_⟩) (by assumption) ?_
        rotate_left
        · (intro w hSw; (try dsimp only at hSw); go_simp); first | done | with_reducible rfl
        simp only [Act.put, List.setIfInBounds_toArray, List.set_cons_zero, List.set_cons_succ]
        refine wpAnyH_done (by kernel_rfl) ?_ _
        clear hHeld
        go_wp2_with fail
        go_meet
        exact ⟨_, rfl, rfl, HN⟩
    case rest =>
      obtain ⟨m, rfl, rfl, HX⟩ := hcut
      have l1 : (ldN (.pointer (some ⟨n, 0, none⟩))).run Try.prog wc = .ok (.agg (NC V)) wc := run_ldN HX.out.2.2
      have l2 : (ldN (.pointer (some ⟨m, 0, none⟩))).run Try.prog wc = .ok (.agg (NC V)) wc := run_ldN HX.out.1
      have hv : decide (V = V) = true := decide_eq_true rfl
      have HP := hide (Plays.same HX.out.2.1 HI.out)
      go_wp2_with fail
      go_ret
      exact HP.out
end Go.Proofs.Ytikpjlbchnpmmaa
