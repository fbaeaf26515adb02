/- The law's play: Heard. -/
import Derived.Test.YtikpjlbchnpmmaaAAp
namespace Go.Proofs.Ytikpjlbchnpmmaa
open Go.RowKit
variable {w w' w0 : World} {g : Nat} {qs : Nat → Qp} {N : Nat} {k b : Nat} {o : Sp}

theorem heard_end {W wF : World} {ap : Option Addr} {c f : Nat} {x y : Int} {qs0 : Nat → Qp} (O : OwnR W.heap.size W.heap.size W wF ap c (([] ++ (qs k).L) ++ [⟨x, y⟩])) (F : PyF w0 W g qs N k b o) (hN : N + 1 ≤ 8796093022206)
    (I : InvA qs0) (hq : qs = qset qs0 k { qs0 k with f := heardF (qs0 k).r (qs0 k).s (qs0 k).f x y } ∧ o.a = x ∧ o.b = y) (hf : k * 4 = f) (he : heardE (qs0 k).r (qs0 k).s x y = 0) :
    wF.cell? ⟨g, f + 3, none⟩ = some (.slice (qs k).bo (qs k).bn (qs k).bc) ∧ wF.frozen? ⟨g, f + 3, none⟩ = false ∧
    Hid (Plays w0 g N (.returned (.bool true)) (wF.setCell ⟨g, f + 3, none⟩ (.slice ap ((qs k).bn + 1) c)) ∧ (wF.setCell ⟨g, f + 3, none⟩ (.slice ap ((qs k).bn + 1) c)).cell? ⟨b, 2, none⟩ = some (.int .i64 x) ∧ (wF.setCell ⟨g, f + 3, none⟩ (.slice ap ((qs k).bn + 1) c)).cell? ⟨b, 3, none⟩ = some (.int .i64 y)) := by
  have FF := F.below O.below
  have hlen : ([] ++ (qs k).L ++ [(⟨x, y⟩ : Rn)]).length = (qs k).bn + 1 := by simp; exact F.B.len
  have hL : (qs k).L.length ≤ N := (F.Q.each k F.hk).len
  have SS := FF.S.on (Fr.setCell wF g (f + 3) (.slice ap ((qs k).bn + 1) c)) FF.n1
  refine ⟨FF.p3 hf, FF.Q.box.fz _, ⟨?_, by rw [← hq.2.1]; exact SS.c2, by rw [← hq.2.2]; exact SS.c3⟩⟩
  obtain ⟨S, hb⟩ := O.src (by simp; omega)
  rw [hlen] at S
  have S' : RSrc wF ap ((qs k).bn + 1) c ((qs k).L ++ [⟨x, y⟩]) := S
  refine ⟨rfl, _, FF.Q.book FF.hk ap ((qs k).bn + 1) c ((qs k).L ++ [⟨x, y⟩]) S' (by simp; omega) (fun ad ha => ?_) hf, ?_⟩
  · have h1 := hb ad ha
    have h2 := F.Q.box.lt
    have h3 := (O.own.lt ad.block (by rw [ha]; rfl)).2
    exact ⟨h3, by omega, fun j hj => by have := (F.Q.each j hj).tab.lt; omega⟩
  · obtain ⟨rfl, -, -⟩ := hq
    rw [qset_qset]
    refine I.set ?_
    have := (I k F.hk).heard x y he ap ((qs0 k).bn + 1) c
    rw [qset_at]
    exact this
theorem PyF.heard (h : PyF w0 w g qs N k b o) {f' : Nat → Int} (T : Tb w' (qs k).tb (qs k).r (qs k).s f') (F : Fr w w' (qs k).tb) : PyF w0 w' g (qset qs k { qs k with f := f' }) N k b o :=
  ⟨h.Q.onTab h.hk T F, h.S.on F h.n2, h.hk, h.n1, by rw [qset_at]; exact h.n2⟩
set_option maxRecDepth 100000 in
set_option maxHeartbeats 8000000 in
theorem play_heard (Q : QI w0 w g qs N) (I : InvA qs) (hk : k < 4) (hN : N + 1 ≤ 8796093022206) (o : Sp) (ho : o.kind = 2) (f : Nat) (hf : k * 4 = f) :
    Calls Try.prog 8 #[.pointer (some ⟨g, f, none⟩), SV o] w fun e w' => Plays w0 g N e w' := by
  obtain ⟨w1, hw1⟩ : ∃ w1, w.alloc (.cells (SC o) 34) = w1 := ⟨_, rfl⟩
  obtain ⟨b, hb⟩ : ∃ b, w.heap.size = b := ⟨_, rfl⟩
  have HF : Hid (PyF w0 w1 g qs N k b o) := by rw [← hw1, ← hb]; exact pyf_new Q hk o
  have s0 := HF.out.S.c0
  rw [ho] at s0
  have s2 := HF.out.S.c2
  have s3 := HF.out.S.c3
  have p1 := HF.out.p1 hf
  have p2 := HF.out.p2 hf
  have p3 := HF.out.p3 hf
  have HH := hide hf
  have HI := hide I
  have HN := hide hN
  have HR : Hid (((qs k).r : Int) ≤ 16) := by show _ ≤ _; have := (I k hk).r16; omega
  obtain ⟨x, hx⟩ : ∃ x, o.a = x := ⟨_, rfl⟩
  obtain ⟨y, hy⟩ : ∃ y, o.b = y := ⟨_, rfl⟩
  rw [hx] at s2
  rw [hy] at s3
  have HA : Hid (o.a = x ∧ o.b = y) := ⟨hx, hy⟩
  obtain ⟨E, hE⟩ : ∃ E, heardE (qs k).r (qs k).s x y = E := ⟨_, rfl⟩
  have HEE := hide hE
  have HC : Hid (∀ n, Calls Try.prog 19 #[TV (qs k).r (qs k).s (qs k).bo (qs k).bn (qs k).bc, .int .i64 x, .int .i64 y] (w1.drewN n) fun e w' => e = .returned (.int .i64 E) ∧ Below w1.heap.size w1 w') := fun n => by
    refine (rheard_any _ _ _ x y (w1.drewN n)).mono ?_
    rintro e w' ⟨rfl, b'⟩
    exact ⟨by rw [hE], (below_drewN w1 n).trans b'⟩
  clear Q I hf hx hy hE hN
  go_enter Try.func8, Try.ntmps8
  go_upto_region 10 with fail
  clear hw1
  go_cut [8] from 21 to 221 (fun u wx => u = .int .i64 E ∧ Hid (PyF w0 wx g qs N k b o))
  case first =>
    have HSX : Hid (∀ W, PyF w0 W g qs N k b o → (fun W => W.cell? ⟨g, f + 1, none⟩ = some (.int .i64 (qs k).r) ∧ W.cell? ⟨g, f + 2, none⟩ = some (.int .i64 (qs k).s) ∧ W.cell? ⟨g, f + 3, none⟩ = some (.slice (qs k).bo (qs k).bn (qs k).bc) ∧ W.cell? ⟨b, 2, none⟩ = some (.int .i64 x) ∧ W.cell? ⟨b, 3, none⟩ = some (.int .i64 y)) W) := fun W F => ⟨F.p1 HH.out, F.p2 HH.out, F.p3 HH.out, by rw [F.S.c2, HA.out.1], by rw [F.S.c3, HA.out.2]⟩
    refine wp_region_held_drew (S := fun W => W.cell? ⟨g, f + 1, none⟩ = some (.int .i64 (qs k).r) ∧ W.cell? ⟨g, f + 2, none⟩ = some (.int .i64 (qs k).s) ∧ W.cell? ⟨g, f + 3, none⟩ = some (.slice (qs k).bo (qs k).bn (qs k).bc) ∧ W.cell? ⟨b, 2, none⟩ = some (.int .i64 x) ∧ W.cell? ⟨b, 3, none⟩ = some (.int .i64 y)) (by kernel_rfl) (HSX.out _ (HF.out.below (below_drew1 _))) (fun hHeld => ?_)
    refine wpAnyH_take (i := 0) (oi := { dst := some 64, op := Op.move (Operand.tmp 0), type := 32, pos := "law.go:77", after := #[], guard := none }) (v := ?_) rfl (by kernel_rfl) (by kernel_rfl) (by kernel_rfl) (fun _ _ _ h => h) (Or.inl ⟨by rfl, ?_⟩) (by assumption) ?_
    rotate_left
    · (intro w hSw; (try dsimp only at hSw); go_simp); first | done | with_reducible rfl
    simp only [Act.put, List.setIfInBounds_toArray, List.set_cons_zero, List.set_cons_succ]
    refine wpAnyH_take (i := 1) (oi := { dst := some 65, op := Op.nilCheck (Operand.tmp 64), type := 0, pos := "law.go:77", after := #[{ on := 0, ground := Ground.data }], guard := none }) (v := ?_) rfl (by kernel_rfl) (by kernel_rfl) (by kernel_rfl) (fun _ _ _ h => h) (Or.inl ⟨by rfl, ?_⟩) (by assumption) ?_
    rotate_left
    · (intro w hSw; (try dsimp only at hSw); go_simp); first | done | with_reducible rfl
    simp only [Act.put, List.setIfInBounds_toArray, List.set_cons_zero, List.set_cons_succ]
    refine wpAnyH_take (i := 2) (oi := { dst := some 66, op := Op.fieldAddr 28 (Operand.tmp 65) 1, type := 0, pos := "law.go:77", after := #[{ on := 1, ground := Ground.data }], guard := none }) (v := ?_) rfl (by kernel_rfl) (by kernel_rfl) (by kernel_rfl) (fun _ _ _ h => h) (Or.inl ⟨by rfl, ?_⟩) (by assumption) ?_
    rotate_left
    · (intro w hSw; (try dsimp only at hSw); go_simp); first | done | with_reducible rfl
    simp only [Act.put, List.setIfInBounds_toArray, List.set_cons_zero, List.set_cons_succ]
    refine wpAnyH_take (i := 3) (oi := { dst := some 67, op := Op.load 26 (Operand.tmp 66), type := 26, pos := "law.go:77", after := #[{ on := 2, ground := Ground.data }], guard := none }) (v := ?_) rfl (by kernel_rfl) (by kernel_rfl) (by kernel_rfl) (fun _ _ _ h => h) (Or.inl ⟨by rfl, ?_⟩) (by assumption) ?_
    rotate_left
    · (intro w hSw; (try dsimp only at hSw); go_simp); first | done | with_reducible rfl
    simp only [Act.put, List.setIfInBounds_toArray, List.set_cons_zero, List.set_cons_succ]
    refine wpAnyH_take (i := 4) (oi := { dst := some 68, op := Op.fieldAddr 34 (Operand.tmp 3) 2, type := 0, pos := "law.go:77", after := #[], guard := none }) (v := ?_) rfl (by kernel_rfl) (by kernel_rfl) (by kernel_rfl) (fun _ _ _ h => h) (Or.inl ⟨by rfl, ?_⟩) (by assumption) ?_
    rotate_left
    · (intro w hSw; (try dsimp only at hSw); go_simp); first | done | with_reducible rfl
    simp only [Act.put, List.setIfInBounds_toArray, List.set_cons_zero, List.set_cons_succ]
    refine wpAnyH_take (i := 5) (oi := { dst := some 69, op := Op.load 3 (Operand.tmp 68), type := 3, pos := "law.go:77", after := #[{ on := 4, ground := Ground.data }], guard := none }) (v := ?_) rfl (by kernel_rfl) (by kernel_rfl) (by kernel_rfl) (fun _ _ _ h => h) (Or.inl ⟨by rfl, ?_⟩) (by assumption) ?_
    rotate_left
    · (intro w hSw; (try dsimp only at hSw); go_simp); first | done | with_reducible rfl
    simp only [Act.put, List.setIfInBounds_toArray, List.set_cons_zero, List.set_cons_succ]
    refine wpAnyH_take (i := 6) (oi := { dst := some 70, op := Op.fieldAddr 34 (Operand.tmp 3) 3, type := 0, pos := "law.go:77", after := #[], guard := none }) (v := ?_) rfl (by kernel_rfl) (by kernel_rfl) (by kernel_rfl) (fun _ _ _ h => h) (Or.inl ⟨by rfl, ?_⟩) (by assumption) ?_
    rotate_left
    · (intro w hSw; (try dsimp only at hSw); go_simp); first | done | with_reducible rfl
    simp only [Act.put, List.setIfInBounds_toArray, List.set_cons_zero, List.set_cons_succ]
    refine wpAnyH_take (i := 7) (oi := { dst := some 71, op := Op.load 3 (Operand.tmp 70), type := 3, pos := "law.go:77", after := #[{ on := 6, ground := Ground.data }], guard := none }) (v := ?_) rfl (by kernel_rfl) (by kernel_rfl) (by kernel_rfl) (fun _ _ _ h => h) (Or.inl ⟨by rfl, ?_⟩) (by assumption) ?_
    rotate_left
    · (intro w hSw; (try dsimp only at hSw); go_simp); first | done | with_reducible rfl
    simp only [Act.put, List.setIfInBounds_toArray, List.set_cons_zero, List.set_cons_succ]
    refine wpAnyH_ready (rs := [8]) (by kernel_rfl) (by simp) ?_
    refine AllReadyH.cons rfl (fun K hK => ?_) ?_
    rotate_left
    · exact AllReadyH.nil
    go_simp
    go_wp2_with fail
    refine (HC.out 1).mono ?_
    rintro e w3 ⟨rfl, b3⟩
    have HF3 := hide (HF.out.below b3)
    clear b3
    refine hK.out _ _ (HSX.out _ HF3.out) (fun hHeld => ?_)
    clear hK K
    refine wpAnyH_take (i := 9) (oi := { dst := some 8, op := Op.assign (Operand.tmp 72), type := 40, pos := "law.go:77", after := #[{ on := 8, ground := Ground.data }, { on := 8, ground := Ground.chain }, { on := 0, ground := Ground.phase }, { on := 1, ground := Ground.phase }, { on := 2, ground := Ground.phase }, { on := 3, ground := Ground.phase }, { on := 4, ground := Ground.phase }, { on := 5, ground := Ground.phase }, { on := 6, ground := Ground.phase }, { on := 7, ground := Ground.phase }, { on := 8, ground := Ground.phase }], guard := none }) (v := ?_) rfl (by kernel_rfl) (by kernel_rfl) (by kernel_rfl) (fun _ _ _ h => h) (Or.inl ⟨by rfl, ?_⟩) (by assumption) ?_
    rotate_left
    · (intro w hSw; (try dsimp only at hSw); go_simp); first | done | with_reducible rfl
    simp only [Act.put, List.setIfInBounds_toArray, List.set_cons_zero, List.set_cons_succ]
    refine wpAnyH_done (by kernel_rfl) ?_ _
    clear hHeld
    go_wp2_with fail
    go_meet
    exact ⟨rfl, HF3⟩
  case rest =>
    obtain ⟨rfl, HF3⟩ := hcut
    clear HF HC s0 s2 s3 p1 p2 p3
    have s2 := HF3.out.S.c2
    have s3 := HF3.out.S.c3
    rw [HA.out.1] at s2
    rw [HA.out.2] at s3
    have p0 := HF3.out.p0 HH.out
    have HC : Hid (∀ n, Calls Try.prog 10 #[ptr (qs k).tb, .int .i64 x, .int .i64 y] (wc.drewN n) fun e w' => e = .returned (.int .i64 E) ∧ Tb w' (qs k).tb (qs k).r (qs k).s (heardF (qs k).r (qs k).s (qs k).f x y) ∧ Fr wc w' (qs k).tb) := fun n => by
      refine (heard_any (wc.drewN n) (HF3.out.drewN n).T HR.out x y).mono ?_
      rintro e w' ⟨rfl, T', F'⟩
      exact ⟨by rw [HEE.out], T', (Fr.drew wc n _).trans F'⟩
    go_upto_region 11 with fail
    go_cut [83] from 21 to 221 (fun u wx => u = .bool false ∧ Hid (PyF w0 wx g (qset qs k { qs k with f := heardF (qs k).r (qs k).s (qs k).f x y }) N k b o))
    case first =>
      refine wp_region_held_drew (S := fun W => W.cell? ⟨g, f, none⟩ = some (ptr (qs k).tb) ∧ W.cell? ⟨b, 2, none⟩ = some (.int .i64 x) ∧ W.cell? ⟨b, 3, none⟩ = some (.int .i64 y)) (by kernel_rfl) (⟨(HF3.out.below (below_drew1 _)).p0 HH.out, by rw [(HF3.out.below (below_drew1 _)).S.c2, HA.out.1], by rw [(HF3.out.below (below_drew1 _)).S.c3, HA.out.2]⟩) (fun hHeld => ?_)
      refine wpAnyH_take (i := 0) (oi := { dst := some 73, op := Op.move (Operand.tmp 0), type := 32, pos := "law.go:78", after := #[], guard := none }) (v := ?_) rfl (by kernel_rfl) (by kernel_rfl) (by kernel_rfl) (fun _ _ _ h => h) (Or.inl ⟨by rfl, ?_⟩) (by assumption) ?_
      rotate_left
      · (intro w hSw; (try dsimp only at hSw); go_simp); first | done | with_reducible rfl
      simp only [Act.put, List.setIfInBounds_toArray, List.set_cons_zero, List.set_cons_succ]
      refine wpAnyH_take (i := 1) (oi := { dst := some 74, op := Op.nilCheck (Operand.tmp 73), type := 0, pos := "law.go:78", after := #[{ on := 0, ground := Ground.data }], guard := none }) (v := ?_) rfl (by kernel_rfl) (by kernel_rfl) (by kernel_rfl) (fun _ _ _ h => h) (Or.inl ⟨by rfl, ?_⟩) (by assumption) ?_
      rotate_left
      · (intro w hSw; (try dsimp only at hSw); go_simp); first | done | with_reducible rfl
      simp only [Act.put, List.setIfInBounds_toArray, List.set_cons_zero, List.set_cons_succ]
      refine wpAnyH_take (i := 2) (oi := { dst := some 75, op := Op.fieldAddr 28 (Operand.tmp 74) 0, type := 0, pos := "law.go:78", after := #[{ on := 1, ground := Ground.data }], guard := none }) (v := ?_) rfl (by kernel_rfl) (by kernel_rfl) (by kernel_rfl) (fun _ _ _ h => h) (Or.inl ⟨by rfl, ?_⟩) (by assumption) ?_
      rotate_left
      · (intro w hSw; (try dsimp only at hSw); go_simp); first | done | with_reducible rfl
      simp only [Act.put, List.setIfInBounds_toArray, List.set_cons_zero, List.set_cons_succ]
      refine wpAnyH_take (i := 3) (oi := { dst := some 76, op := Op.load 23 (Operand.tmp 75), type := 23, pos := "law.go:78", after := #[{ on := 2, ground := Ground.data }], guard := none }) (v := ?_) rfl (by kernel_rfl) (by kernel_rfl) (by kernel_rfl) (fun _ _ _ h => h) (Or.inl ⟨by rfl, ?_⟩) (by assumption) ?_
      rotate_left
      · (intro w hSw; (try dsimp only at hSw); go_simp); first | done | with_reducible rfl
      simp only [Act.put, List.setIfInBounds_toArray, List.set_cons_zero, List.set_cons_succ]
      refine wpAnyH_take (i := 4) (oi := { dst := some 77, op := Op.fieldAddr 34 (Operand.tmp 3) 2, type := 0, pos := "law.go:78", after := #[], guard := none }) (v := ?_) rfl (by kernel_rfl) (by kernel_rfl) (by kernel_rfl) (fun _ _ _ h => h) (Or.inl ⟨by rfl, ?_⟩) (by assumption) ?_
      rotate_left
      · (intro w hSw; (try dsimp only at hSw); go_simp); first | done | with_reducible rfl
      simp only [Act.put, List.setIfInBounds_toArray, List.set_cons_zero, List.set_cons_succ]
      refine wpAnyH_take (i := 5) (oi := { dst := some 78, op := Op.load 3 (Operand.tmp 77), type := 3, pos := "law.go:78", after := #[{ on := 4, ground := Ground.data }], guard := none }) (v := ?_) rfl (by kernel_rfl) (by kernel_rfl) (by kernel_rfl) (fun _ _ _ h => h) (Or.inl ⟨by rfl, ?_⟩) (by assumption) ?_
      rotate_left
      · (intro w hSw; (try dsimp only at hSw); go_simp); first | done | with_reducible rfl
      simp only [Act.put, List.setIfInBounds_toArray, List.set_cons_zero, List.set_cons_succ]
      refine wpAnyH_take (i := 6) (oi := { dst := some 79, op := Op.fieldAddr 34 (Operand.tmp 3) 3, type := 0, pos := "law.go:78", after := #[], guard := none }) (v := ?_) rfl (by kernel_rfl) (by kernel_rfl) (by kernel_rfl) (fun _ _ _ h => h) (Or.inl ⟨by rfl, ?_⟩) (by assumption) ?_
      rotate_left
      · (intro w hSw; (try dsimp only at hSw); go_simp); first | done | with_reducible rfl
      simp only [Act.put, List.setIfInBounds_toArray, List.set_cons_zero, List.set_cons_succ]
      refine wpAnyH_take (i := 7) (oi := { dst := some 80, op := Op.load 3 (Operand.tmp 79), type := 3, pos := "law.go:78", after := #[{ on := 6, ground := Ground.data }], guard := none }) (v := ?_) rfl (by kernel_rfl) (by kernel_rfl) (by kernel_rfl) (fun _ _ _ h => h) (Or.inl ⟨by rfl, ?_⟩) (by assumption) ?_
      rotate_left
      · (intro w hSw; (try dsimp only at hSw); go_simp); first | done | with_reducible rfl
      simp only [Act.put, List.setIfInBounds_toArray, List.set_cons_zero, List.set_cons_succ]
      refine wpAnyH_take (i := 9) (oi := { dst := some 82, op := Op.move (Operand.tmp 8), type := 40, pos := "law.go:78", after := #[], guard := none }) (v := ?_) rfl (by kernel_rfl) (by kernel_rfl) (by kernel_rfl) (fun _ _ _ h => h) (Or.inl ⟨by rfl, ?_⟩) (by assumption) ?_
      rotate_left
      · (intro w hSw; (try dsimp only at hSw); go_simp); first | done | with_reducible rfl
      simp only [Act.put, List.setIfInBounds_toArray, List.set_cons_zero, List.set_cons_succ]
      refine wpAnyH_ready (rs := [8]) (by kernel_rfl) (by simp) ?_
      refine AllReadyH.cons rfl (fun K hK => ?_) ?_
      rotate_left
      · exact AllReadyH.nil
      go_simp
      go_wp2_with fail
      refine (HC.out 1).mono ?_
      rintro e w4 ⟨rfl, T4, F4⟩
      have HF4 := hide (HF3.out.heard T4 F4)
      have hS4 : (fun W => W.cell? ⟨g, f, none⟩ = some (ptr (qs k).tb) ∧ W.cell? ⟨b, 2, none⟩ = some (.int .i64 x) ∧ W.cell? ⟨b, 3, none⟩ = some (.int .i64 y)) w4 := ⟨by have := HF4.out.p0 HH.out; rw [qset_at] at this; exact this, by rw [HF4.out.S.c2, HA.out.1], by rw [HF4.out.S.c3, HA.out.2]⟩
      refine hK.out _ _ hS4 (fun hHeld => ?_)
      clear hK K T4 F4 hS4
      refine wpAnyH_take (i := 10) (oi := { dst := some 83, op := Op.binOp BinOp.neq 40 (Operand.tmp 81) (Operand.tmp 82) 40, type := 4, pos := "law.go:78", after := #[{ on := 8, ground := Ground.data }, { on := 9, ground := Ground.data }], guard := none }) (v := ?_) rfl (by kernel_rfl) (by kernel_rfl) (by kernel_rfl) (fun _ _ _ h => h) (Or.inl ⟨by rfl, ?_⟩) (by assumption) ?_
      rotate_left
      · (intro w hSw; (try dsimp only at hSw); go_simp); first | done | with_reducible rfl
      simp only [Act.put, List.setIfInBounds_toArray, List.set_cons_zero, List.set_cons_succ]
      refine wpAnyH_done (by kernel_rfl) ?_ _
      clear hHeld
      go_wp2_with fail
      go_meet
      exact ⟨by simp, HF4⟩
    case rest =>
      obtain ⟨rfl, HF4⟩ := hcut
      clear HF3 HC s2 s3 p0
      obtain ⟨qt, hqt⟩ : ∃ qt, qset qs k { qs k with f := heardF (qs k).r (qs k).s (qs k).f x y } = qt := ⟨_, rfl⟩
      have HQ : Hid (qt = qset qs k { qs k with f := heardF (qs k).r (qs k).s (qs k).f x y } ∧ o.a = x ∧ o.b = y) := ⟨hqt.symm, HA.out⟩
      rw [hqt] at HF4
      clear hqt
      by_cases h0 : E = 0
      · have HE : Hid (heardE (qs k).r (qs k).s x y = 0) := by show _ = _; rw [HEE.out, h0]
        subst h0
        have HL : Hid ((qt k).bn + 2 ≤ 8796093022207 ∧ N + 1 ≤ 8796093022206 ∧ (qt k).L.length = (qt k).bn) := by
          have h1 := (HF4.out.Q.each k HF4.out.hk).len
          have h2 := HF4.out.B.len
          have h3 := HN.out
          exact ⟨by omega, h3, h2⟩
        have HSW : Hid (∀ W, PyF w0 W g qt N k b o → (fun W => W.cell? ⟨b, 2, none⟩ = some (.int .i64 x) ∧ W.cell? ⟨b, 3, none⟩ = some (.int .i64 y)) W) := fun W F => ⟨by rw [F.S.c2, HA.out.1], by rw [F.S.c3, HA.out.2]⟩
        go_wp2_with fail
        obtain ⟨w5, hw5⟩ : ∃ w5, wc = w5 := ⟨_, rfl⟩
        rw [hw5] at HF4 ⊢
        clear hw5
        have F0 : Hid (PyF w0 w5.drew g qt N k b o) := HF4.out.below (below_drew1 _)
        refine wp_region_held_drew (S := fun W => W.cell? ⟨b, 2, none⟩ = some (.int .i64 x) ∧ W.cell? ⟨b, 3, none⟩ = some (.int .i64 y)) (by kernel_rfl) (HSW.out _ F0.out) (fun hHeld => ?_)
        refine wpAnyH_take (i := 0) (oi := { dst := some 86, op := Op.move (Operand.tmp 0), type := 32, pos := "law.go:82", after := #[], guard := none }) (v := ?_) rfl (by kernel_rfl) (by kernel_rfl) (by kernel_rfl) (fun _ _ _ h => h) (Or.inl ⟨by rfl, ?_⟩) (by assumption) ?_
        rotate_left
        · (intro w hSw; (try dsimp only at hSw); go_simp); first | done | with_reducible rfl
        simp only [Act.put, List.setIfInBounds_toArray, List.set_cons_zero, List.set_cons_succ]
        refine wpAnyH_take (i := 2) (oi := { dst := some 88, op := Op.move (Operand.tmp 0), type := 32, pos := "law.go:82", after := #[], guard := none }) (v := ?_) rfl (by kernel_rfl) (by kernel_rfl) (by kernel_rfl) (fun _ _ _ h => h) (Or.inl ⟨by rfl, ?_⟩) (by assumption) ?_
        rotate_left
        · (intro w hSw; (try dsimp only at hSw); go_simp); first | done | with_reducible rfl
        simp only [Act.put, List.setIfInBounds_toArray, List.set_cons_zero, List.set_cons_succ]
        refine wpAnyH_take (i := 3) (oi := { dst := some 89, op := Op.nilCheck (Operand.tmp 88), type := 0, pos := "law.go:82", after := #[{ on := 2, ground := Ground.data }], guard := none }) (v := ?_) rfl (by kernel_rfl) (by kernel_rfl) (by kernel_rfl) (fun _ _ _ h => h) (Or.inl ⟨by rfl, ?_⟩) (by assumption) ?_
        rotate_left
        · (intro w hSw; (try dsimp only at hSw); go_simp); first | done | with_reducible rfl
        simp only [Act.put, List.setIfInBounds_toArray, List.set_cons_zero, List.set_cons_succ]
        refine wpAnyH_take (i := 4) (oi := { dst := some 90, op := Op.fieldAddr 28 (Operand.tmp 89) 1, type := 0, pos := "law.go:82", after := #[{ on := 3, ground := Ground.data }], guard := none }) (v := ?_) rfl (by kernel_rfl) (by kernel_rfl) (by kernel_rfl) (fun _ _ _ h => h) (Or.inl ⟨by rfl, ?_⟩) (by assumption) ?_
        rotate_left
        · (intro w hSw; (try dsimp only at hSw); go_simp); first | done | with_reducible rfl
        simp only [Act.put, List.setIfInBounds_toArray, List.set_cons_zero, List.set_cons_succ]
        refine wpAnyH_take (i := 5) (oi := { dst := some 91, op := Op.fieldAddr 26 (Operand.tmp 90) 2, type := 0, pos := "law.go:82", after := #[{ on := 4, ground := Ground.data }], guard := none }) (v := ?_) rfl (by kernel_rfl) (by kernel_rfl) (by kernel_rfl) (fun _ _ _ h => h) (Or.inl ⟨by rfl, ?_⟩) (by assumption) ?_
        rotate_left
        · (intro w hSw; (try dsimp only at hSw); go_simp); first | done | with_reducible rfl
        simp only [Act.put, List.setIfInBounds_toArray, List.set_cons_zero, List.set_cons_succ]
        refine wpAnyH_take (i := 8) (oi := { dst := some 94, op := Op.fieldAddr 34 (Operand.tmp 3) 2, type := 0, pos := "law.go:82", after := #[], guard := none }) (v := ?_) rfl (by kernel_rfl) (by kernel_rfl) (by kernel_rfl) (fun _ _ _ h => h) (Or.inl ⟨by rfl, ?_⟩) (by assumption) ?_
        rotate_left
        · (intro w hSw; (try dsimp only at hSw); go_simp); first | done | with_reducible rfl
        simp only [Act.put, List.setIfInBounds_toArray, List.set_cons_zero, List.set_cons_succ]
        refine wpAnyH_take (i := 9) (oi := { dst := some 95, op := Op.load 3 (Operand.tmp 94), type := 3, pos := "law.go:82", after := #[{ on := 8, ground := Ground.data }], guard := none }) (v := ?_) rfl (by kernel_rfl) (by kernel_rfl) (by kernel_rfl) (fun _ _ _ h => h) (Or.inl ⟨by rfl, ?_⟩) (by assumption) ?_
        rotate_left
        · (intro w hSw; (try dsimp only at hSw); go_simp); first | done | with_reducible rfl
        simp only [Act.put, List.setIfInBounds_toArray, List.set_cons_zero, List.set_cons_succ]
        refine wpAnyH_take (i := 10) (oi := { dst := some 96, op := Op.fieldAddr 34 (Operand.tmp 3) 3, type := 0, pos := "law.go:82", after := #[], guard := none }) (v := ?_) rfl (by kernel_rfl) (by kernel_rfl) (by kernel_rfl) (fun _ _ _ h => h) (Or.inl ⟨by rfl, ?_⟩) (by assumption) ?_
        rotate_left
        · (intro w hSw; (try dsimp only at hSw); go_simp); first | done | with_reducible rfl
        simp only [Act.put, List.setIfInBounds_toArray, List.set_cons_zero, List.set_cons_succ]
        refine wpAnyH_take (i := 11) (oi := { dst := some 97, op := Op.load 3 (Operand.tmp 96), type := 3, pos := "law.go:82", after := #[{ on := 10, ground := Ground.data }], guard := none }) (v := ?_) rfl (by kernel_rfl) (by kernel_rfl) (by kernel_rfl) (fun _ _ _ h => h) (Or.inl ⟨by rfl, ?_⟩) (by assumption) ?_
        rotate_left
        · (intro w hSw; (try dsimp only at hSw); go_simp); first | done | with_reducible rfl
        simp only [Act.put, List.setIfInBounds_toArray, List.set_cons_zero, List.set_cons_succ]
        refine wpAnyH_take (i := 12) (oi := { dst := some 98, op := Op.build 39 #[(0, Operand.tmp 95), (1, Operand.tmp 97)], type := 39, pos := "law.go:82", after := #[{ on := 9, ground := Ground.data }, { on := 11, ground := Ground.data }], guard := none }) (v := ?_) rfl (by kernel_rfl) (by kernel_rfl) (by kernel_rfl) (fun _ _ _ h => h) (Or.inl ⟨by rfl, ?_⟩) (by assumption) ?_
        rotate_left
        · (intro w hSw; (try dsimp only at hSw); go_simp); first | done | with_reducible rfl
        simp only [Act.put, List.setIfInBounds_toArray, List.set_cons_zero, List.set_cons_succ]
        refine wpAnyH_ready (rs := [1, 6, 13]) (by kernel_rfl) (by simp) ?_
        refine AllReadyH.cons rfl (fun K hK => ?_) (AllReadyH.cons rfl (fun K hK => ?_) (AllReadyH.cons rfl (fun K hK => ?_) AllReadyH.nil))
        · go_simp
          have v1 : Below w5.drew.heap.size w5.drew (w5.drew.alloc (.cells #[] 39)) := (Below.refl w5.drew.heap.size w5.drew).alloc (Below.refl w5.drew.heap.size w5.drew).size _
          refine hK.out _ _ (HSW.out _ (F0.out.below v1)) (fun hHeld => ?_)
          clear hK K
          have o1 := (own_lit w5.drew).rebase (Below.refl w5.drew.heap.size w5.drew) (Nat.le_refl _)
          refine wpAnyH_ready (rs := [6, 13]) (by kernel_rfl) (by simp) ?_
          refine AllReadyH.cons rfl (fun K hK => ?_) (AllReadyH.cons rfl (fun K hK => ?_) AllReadyH.nil)
          · have e2 : ((w5.alloc (.cells #[] 39))).cell? ⟨g, f + 1 + 2, none⟩ = some (.slice (qt k).bo (qt k).bn (qt k).bc) := (F0.out.below (v1)).p3 HH.out
            go_simp
            refine hK.out _ _ (HSW.out _ (F0.out.below (v1))) (fun hHeld => ?_)
            clear hK K e2
            refine wpAnyH_ready (rs := [7, 13]) (by kernel_rfl) (by simp) ?_
            refine AllReadyH.cons rfl (fun K hK => ?_) (AllReadyH.cons rfl (fun K hK => ?_) AllReadyH.nil)
            · obtain ⟨a3, c3, u3, r3, o3, f3, z3⟩ := o1.runs _ _ _ (qt k).L (F0.out.below (v1)).B (by have := HL.out; rw [List.length_nil, Nat.zero_add]; omega) 24 0 rfl
              rw [Nat.zero_add] at r3
              refine step_app (by rfl) (.tmp 87) (.tmp 92) (by rfl) (by rfl) (by rfl) r3 ?_
              refine hK.out _ _ (HSW.out _ (F0.out.below o3.below)) (fun hHeld => ?_)
              clear hK K
              refine wpAnyH_ready (rs := [13]) (by kernel_rfl) (by simp) ?_
              refine AllReadyH.cons rfl (fun K hK => ?_) AllReadyH.nil
              go_simp
              have v4 : Below w5.drew.heap.size w5.drew (u3.alloc (.cells #[.int .i64 x, .int .i64 y] 39)) := (o3.below).alloc (o3.below).size _
              refine hK.out _ _ (HSW.out _ (F0.out.below v4)) (fun hHeld => ?_)
              clear hK K
              have l4 := lit_rsrc u3 [⟨x, y⟩] _ rfl 39 1 rfl (by omega)
              have o4 := o3.later (below_new u3 (.cells #[.int .i64 x, .int .i64 y] 39))
              obtain ⟨ap, c3, wF, hrun, OF, -, -⟩ := o4.runs _ 1 1 [⟨x, y⟩] l4 (by have := HL.out; rw [List.nil_append]; omega) 24 (qt k).bn (by rw [List.nil_append]; exact HL.out.2.2)
              refine wpAnyH_ready (rs := [14]) (by kernel_rfl) (by simp) ?_
              refine AllReadyH.cons rfl (fun K hK => ?_) ?_
              rotate_left
              · exact AllReadyH.nil
              refine step_app (by rfl) (.tmp 93) (.tmp 99) (by rfl) (by rfl) (by rfl) hrun ?_
              refine hK.out _ _ (HSW.out _ (F0.out.below OF.below)) (fun hHeld => ?_)
              clear hK K
              obtain ⟨d3, z3, HP⟩ := heard_end OF F0.out HL.out.2.1 HI.out HQ.out HH.out HE.out
              have d3b : wF.cell? ⟨g, f + 1 + 2, none⟩ = some (.slice (qt k).bo (qt k).bn (qt k).bc) := d3
              have z3b : wF.frozen? ⟨g, f + 1 + 2, none⟩ = false := z3
              clear OF
              refine wpAnyH_take (i := 15) (oi := { dst := some 101, op := Op.nilCheck (Operand.tmp 86), type := 0, pos := "law.go:82", after := #[{ on := 0, ground := Ground.data }, { on := 0, ground := Ground.phase }, { on := 1, ground := Ground.phase }, { on := 2, ground := Ground.phase }, { on := 3, ground := Ground.phase }, { on := 4, ground := Ground.phase }, { on := 5, ground := Ground.phase }, { on := 6, ground := Ground.phase }, { on := 7, ground := Ground.phase }, { on := 8, ground := Ground.phase }, { on := 9, ground := Ground.phase }, { on := 10, ground := Ground.phase }, { on := 11, ground := Ground.phase }, { on := 12, ground := Ground.phase }, { on := 13, ground := Ground.phase }, { on := 14, ground := Ground.phase }], guard := none }) (v := ?_) rfl (by kernel_rfl) (by kernel_rfl) (by kernel_rfl) (fun _ _ _ h => h) (Or.inl ⟨by rfl, ?_⟩) (by assumption) ?_
              rotate_left
              · (intro w hSw; (try dsimp only at hSw); go_simp); first | done | with_reducible rfl
              simp only [Act.put, List.setIfInBounds_toArray]
              refine wpAnyH_take (i := 16) (oi := { dst := some 102, op := Op.fieldAddr 28 (Operand.tmp 101) 1, type := 0, pos := "law.go:82", after := #[{ on := 15, ground := Ground.data }, { on := 0, ground := Ground.phase }, { on := 1, ground := Ground.phase }, { on := 2, ground := Ground.phase }, { on := 3, ground := Ground.phase }, { on := 4, ground := Ground.phase }, { on := 5, ground := Ground.phase }, { on := 6, ground := Ground.phase }, { on := 7, ground := Ground.phase }, { on := 8, ground := Ground.phase }, { on := 9, ground := Ground.phase }, { on := 10, ground := Ground.phase }, { on := 11, ground := Ground.phase }, { on := 12, ground := Ground.phase }, { on := 13, ground := Ground.phase }, { on := 14, ground := Ground.phase }], guard := none }) (v := ?_) rfl (by kernel_rfl) (by kernel_rfl) (by kernel_rfl) (fun _ _ _ h => h) (Or.inl ⟨by rfl, ?_⟩) (by assumption) ?_
              rotate_left
              · (intro w hSw; (try dsimp only at hSw); go_simp); first | done | with_reducible rfl
              simp only [Act.put]
              refine wpAnyH_take (i := 17) (oi := { dst := some 103, op := Op.fieldAddr 26 (Operand.tmp 102) 2, type := 0, pos := "law.go:82", after := #[{ on := 16, ground := Ground.data }, { on := 0, ground := Ground.phase }, { on := 1, ground := Ground.phase }, { on := 2, ground := Ground.phase }, { on := 3, ground := Ground.phase }, { on := 4, ground := Ground.phase }, { on := 5, ground := Ground.phase }, { on := 6, ground := Ground.phase }, { on := 7, ground := Ground.phase }, { on := 8, ground := Ground.phase }, { on := 9, ground := Ground.phase }, { on := 10, ground := Ground.phase }, { on := 11, ground := Ground.phase }, { on := 12, ground := Ground.phase }, { on := 13, ground := Ground.phase }, { on := 14, ground := Ground.phase }], guard := none }) (v := ?_) rfl (by kernel_rfl) (by kernel_rfl) (by kernel_rfl) (fun _ _ _ h => h) (Or.inl ⟨by rfl, ?_⟩) (by assumption) ?_
              rotate_left
              · (intro w hSw; (try dsimp only at hSw); go_simp); first | done | with_reducible rfl
              simp only [Act.put]
              refine wpAnyH_ready (rs := [18]) (by kernel_rfl) (by simp) ?_
              refine AllReadyH.cons rfl (fun K hK => ?_) ?_
              rotate_left
              · exact AllReadyH.nil
              go_simp
              refine hK.out _ _ HP.out.2 (fun hHeld => ?_)
              clear hK K
              refine wpAnyH_done (by kernel_rfl) ?_ _
              clear hHeld
              go_wp2_with fail
              go_ret
              exact HP.out.1
            · go_simp
              have v6 : Below w5.drew.heap.size w5.drew ((w5.drew.alloc (.cells #[] 39)).alloc (.cells #[.int .i64 x, .int .i64 y] 39)) := (v1).alloc (v1).size _
              refine hK.out _ _ (HSW.out _ (F0.out.below v6)) (fun hHeld => ?_)
              clear hK K
              have l6 := lit_rsrc (w5.drew.alloc (.cells #[] 39)) [⟨x, y⟩] _ rfl 39 1 rfl (by omega)
              rw [World.size_alloc] at l6
              have o6 := o1.later (below_new (w5.drew.alloc (.cells #[] 39)) (.cells #[.int .i64 x, .int .i64 y] 39))
              refine wpAnyH_ready (rs := [7]) (by kernel_rfl) (by simp) ?_
              refine AllReadyH.cons rfl (fun K hK => ?_) AllReadyH.nil
              obtain ⟨a7, c7, u7, r7, o7, f7, z7⟩ := o6.runs _ _ _ (qt k).L (F0.out.below (v6)).B (by have := HL.out; rw [List.length_nil, Nat.zero_add]; omega) 24 0 rfl
              rw [Nat.zero_add] at r7
              refine step_app (by rfl) (.tmp 87) (.tmp 92) (by rfl) (by rfl) (by rfl) r7 ?_
              refine hK.out _ _ (HSW.out _ (F0.out.below o7.below)) (fun hHeld => ?_)
              clear hK K
              have l7 := l6.onBlk (w' := u7) (fun ad e => by obtain rfl := Option.some.inj e; exact f7 _ (by simp only [World.size_alloc]; omega) (fun h => by have h2 := Option.some.inj h; (try simp only at h2); omega))
              obtain ⟨ap, c3, wF, hrun, OF, -, -⟩ := o7.runs _ 1 1 [⟨x, y⟩] l7 (by have := HL.out; rw [List.nil_append]; omega) 24 (qt k).bn (by rw [List.nil_append]; exact HL.out.2.2)
              refine wpAnyH_ready (rs := [14]) (by kernel_rfl) (by simp) ?_
              refine AllReadyH.cons rfl (fun K hK => ?_) ?_
              rotate_left
              · exact AllReadyH.nil
              refine step_app (by rfl) (.tmp 93) (.tmp 99) (by rfl) (by rfl) (by rfl) hrun ?_
              refine hK.out _ _ (HSW.out _ (F0.out.below OF.below)) (fun hHeld => ?_)
              clear hK K
              obtain ⟨d3, z3, HP⟩ := heard_end OF F0.out HL.out.2.1 HI.out HQ.out HH.out HE.out
              have d3b : wF.cell? ⟨g, f + 1 + 2, none⟩ = some (.slice (qt k).bo (qt k).bn (qt k).bc) := d3
              have z3b : wF.frozen? ⟨g, f + 1 + 2, none⟩ = false := z3
              clear OF
              refine wpAnyH_take (i := 15) (oi := { dst := some 101, op := Op.nilCheck (Operand.tmp 86), type := 0, pos := "law.go:82", after := #[{ on := 0, ground := Ground.data }, { on := 0, ground := Ground.phase }, { on := 1, ground := Ground.phase }, { on := 2, ground := Ground.phase }, { on := 3, ground := Ground.phase }, { on := 4, ground := Ground.phase }, { on := 5, ground := Ground.phase }, { on := 6, ground := Ground.phase }, { on := 7, ground := Ground.phase }, { on := 8, ground := Ground.phase }, { on := 9, ground := Ground.phase }, { on := 10, ground := Ground.phase }, { on := 11, ground := Ground.phase }, { on := 12, ground := Ground.phase }, { on := 13, ground := Ground.phase }, { on := 14, ground := Ground.phase }], guard := none }) (v := ?_) rfl (by kernel_rfl) (by kernel_rfl) (by kernel_rfl) (fun _ _ _ h => h) (Or.inl ⟨by rfl, ?_⟩) (by assumption) ?_
              rotate_left
              · (intro w hSw; (try dsimp only at hSw); go_simp); first | done | with_reducible rfl
              simp only [Act.put, List.setIfInBounds_toArray]
              refine wpAnyH_take (i := 16) (oi := { dst := some 102, op := Op.fieldAddr 28 (Operand.tmp 101) 1, type := 0, pos := "law.go:82", after := #[{ on := 15, ground := Ground.data }, { on := 0, ground := Ground.phase }, { on := 1, ground := Ground.phase }, { on := 2, ground := Ground.phase }, { on := 3, ground := Ground.phase }, { on := 4, ground := Ground.phase }, { on := 5, ground := Ground.phase }, { on := 6, ground := Ground.phase }, { on := 7, ground := Ground.phase }, { on := 8, ground := Ground.phase }, { on := 9, ground := Ground.phase }, { on := 10, ground := Ground.phase }, { on := 11, ground := Ground.phase }, { on := 12, ground := Ground.phase }, { on := 13, ground := Ground.phase }, { on := 14, ground := Ground.phase }], guard := none }) (v := ?_) rfl (by kernel_rfl) (by kernel_rfl) (by kernel_rfl) (fun _ _ _ h => h) (Or.inl ⟨by rfl, ?_⟩) (by assumption) ?_
              rotate_left
              · (intro w hSw; (try dsimp only at hSw); go_simp); first | done | with_reducible rfl
              simp only [Act.put]
              refine wpAnyH_take (i := 17) (oi := { dst := some 103, op := Op.fieldAddr 26 (Operand.tmp 102) 2, type := 0, pos := "law.go:82", after := #[{ on := 16, ground := Ground.data }, { on := 0, ground := Ground.phase }, { on := 1, ground := Ground.phase }, { on := 2, ground := Ground.phase }, { on := 3, ground := Ground.phase }, { on := 4, ground := Ground.phase }, { on := 5, ground := Ground.phase }, { on := 6, ground := Ground.phase }, { on := 7, ground := Ground.phase }, { on := 8, ground := Ground.phase }, { on := 9, ground := Ground.phase }, { on := 10, ground := Ground.phase }, { on := 11, ground := Ground.phase }, { on := 12, ground := Ground.phase }, { on := 13, ground := Ground.phase }, { on := 14, ground := Ground.phase }], guard := none }) (v := ?_) rfl (by kernel_rfl) (by kernel_rfl) (by kernel_rfl) (fun _ _ _ h => h) (Or.inl ⟨by rfl, ?_⟩) (by assumption) ?_
              rotate_left
              · (intro w hSw; (try dsimp only at hSw); go_simp); first | done | with_reducible rfl
              simp only [Act.put]
              refine wpAnyH_ready (rs := [18]) (by kernel_rfl) (by simp) ?_
              refine AllReadyH.cons rfl (fun K hK => ?_) ?_
              rotate_left
              · exact AllReadyH.nil
              go_simp
              refine hK.out _ _ HP.out.2 (fun hHeld => ?_)
              clear hK K
              refine wpAnyH_done (by kernel_rfl) ?_ _
              clear hHeld
              go_wp2_with fail
              go_ret
              exact HP.out.1
          · go_simp
            have v9 : Below w5.drew.heap.size w5.drew ((w5.drew.alloc (.cells #[] 39)).alloc (.cells #[.int .i64 x, .int .i64 y] 39)) := (v1).alloc (v1).size _
            refine hK.out _ _ (HSW.out _ (F0.out.below v9)) (fun hHeld => ?_)
            clear hK K
            have l9 := lit_rsrc (w5.drew.alloc (.cells #[] 39)) [⟨x, y⟩] _ rfl 39 1 rfl (by omega)
            rw [World.size_alloc] at l9
            have o9 := o1.later (below_new (w5.drew.alloc (.cells #[] 39)) (.cells #[.int .i64 x, .int .i64 y] 39))
            refine wpAnyH_ready (rs := [6]) (by kernel_rfl) (by simp) ?_
            refine AllReadyH.cons rfl (fun K hK => ?_) AllReadyH.nil
            have e10 : (((w5.alloc (.cells #[] 39)).alloc (.cells #[.int .i64 x, .int .i64 y] 39))).cell? ⟨g, f + 1 + 2, none⟩ = some (.slice (qt k).bo (qt k).bn (qt k).bc) := (F0.out.below (v9)).p3 HH.out
            go_simp
            refine hK.out _ _ (HSW.out _ (F0.out.below (v9))) (fun hHeld => ?_)
            clear hK K e10
            refine wpAnyH_ready (rs := [7]) (by kernel_rfl) (by simp) ?_
            refine AllReadyH.cons rfl (fun K hK => ?_) AllReadyH.nil
            obtain ⟨a11, c11, u11, r11, o11, f11, z11⟩ := o9.runs _ _ _ (qt k).L (F0.out.below (v9)).B (by have := HL.out; rw [List.length_nil, Nat.zero_add]; omega) 24 0 rfl
            rw [Nat.zero_add] at r11
            refine step_app (by rfl) (.tmp 87) (.tmp 92) (by rfl) (by rfl) (by rfl) r11 ?_
            refine hK.out _ _ (HSW.out _ (F0.out.below o11.below)) (fun hHeld => ?_)
            clear hK K
            have l11 := l9.onBlk (w' := u11) (fun ad e => by obtain rfl := Option.some.inj e; exact f11 _ (by simp only [World.size_alloc]; omega) (fun h => by have h2 := Option.some.inj h; (try simp only at h2); omega))
            obtain ⟨ap, c3, wF, hrun, OF, -, -⟩ := o11.runs _ 1 1 [⟨x, y⟩] l11 (by have := HL.out; rw [List.nil_append]; omega) 24 (qt k).bn (by rw [List.nil_append]; exact HL.out.2.2)
            refine wpAnyH_ready (rs := [14]) (by kernel_rfl) (by simp) ?_
            refine AllReadyH.cons rfl (fun K hK => ?_) ?_
            rotate_left
            · exact AllReadyH.nil
            refine step_app (by rfl) (.tmp 93) (.tmp 99) (by rfl) (by rfl) (by rfl) hrun ?_
            refine hK.out _ _ (HSW.out _ (F0.out.below OF.below)) (fun hHeld => ?_)
            clear hK K
            obtain ⟨d3, z3, HP⟩ := heard_end OF F0.out HL.out.2.1 HI.out HQ.out HH.out HE.out
            have d3b : wF.cell? ⟨g, f + 1 + 2, none⟩ = some (.slice (qt k).bo (qt k).bn (qt k).bc) := d3
            have z3b : wF.frozen? ⟨g, f + 1 + 2, none⟩ = false := z3
            clear OF
            refine wpAnyH_take (i := 15) (oi := { dst := some 101, op := Op.nilCheck (Operand.tmp 86), type := 0, pos := "law.go:82", after := #[{ on := 0, ground := Ground.data }, { on := 0, ground := Ground.phase }, { on := 1, ground := Ground.phase }, { on := 2, ground := Ground.phase }, { on := 3, ground := Ground.phase }, { on := 4, ground := Ground.phase }, { on := 5, ground := Ground.phase }, { on := 6, ground := Ground.phase }, { on := 7, ground := Ground.phase }, { on := 8, ground := Ground.phase }, { on := 9, ground := Ground.phase }, { on := 10, ground := Ground.phase }, { on := 11, ground := Ground.phase }, { on := 12, ground := Ground.phase }, { on := 13, ground := Ground.phase }, { on := 14, ground := Ground.phase }], guard := none }) (v := ?_) rfl (by kernel_rfl) (by kernel_rfl) (by kernel_rfl) (fun _ _ _ h => h) (Or.inl ⟨by rfl, ?_⟩) (by assumption) ?_
            rotate_left
            · (intro w hSw; (try dsimp only at hSw); go_simp); first | done | with_reducible rfl
            simp only [Act.put, List.setIfInBounds_toArray]
            refine wpAnyH_take (i := 16) (oi := { dst := some 102, op := Op.fieldAddr 28 (Operand.tmp 101) 1, type := 0, pos := "law.go:82", after := #[{ on := 15, ground := Ground.data }, { on := 0, ground := Ground.phase }, { on := 1, ground := Ground.phase }, { on := 2, ground := Ground.phase }, { on := 3, ground := Ground.phase }, { on := 4, ground := Ground.phase }, { on := 5, ground := Ground.phase }, { on := 6, ground := Ground.phase }, { on := 7, ground := Ground.phase }, { on := 8, ground := Ground.phase }, { on := 9, ground := Ground.phase }, { on := 10, ground := Ground.phase }, { on := 11, ground := Ground.phase }, { on := 12, ground := Ground.phase }, { on := 13, ground := Ground.phase }, { on := 14, ground := Ground.phase }], guard := none }) (v := ?_) rfl (by kernel_rfl) (by kernel_rfl) (by kernel_rfl) (fun _ _ _ h => h) (Or.inl ⟨by rfl, ?_⟩) (by assumption) ?_
            rotate_left
            · (intro w hSw; (try dsimp only at hSw); go_simp); first | done | with_reducible rfl
            simp only [Act.put]
            refine wpAnyH_take (i := 17) (oi := { dst := some 103, op := Op.fieldAddr 26 (Operand.tmp 102) 2, type := 0, pos := "law.go:82", after := #[{ on := 16, ground := Ground.data }, { on := 0, ground := Ground.phase }, { on := 1, ground := Ground.phase }, { on := 2, ground := Ground.phase }, { on := 3, ground := Ground.phase }, { on := 4, ground := Ground.phase }, { on := 5, ground := Ground.phase }, { on := 6, ground := Ground.phase }, { on := 7, ground := Ground.phase }, { on := 8, ground := Ground.phase }, { on := 9, ground := Ground.phase }, { on := 10, ground := Ground.phase }, { on := 11, ground := Ground.phase }, { on := 12, ground := Ground.phase }, { on := 13, ground := Ground.phase }, { on := 14, ground := Ground.phase }], guard := none }) (v := ?_) rfl (by kernel_rfl) (by kernel_rfl) (by kernel_rfl) (fun _ _ _ h => h) (Or.inl ⟨by rfl, ?_⟩) (by assumption) ?_
            rotate_left
            · (intro w hSw; (try dsimp only at hSw); go_simp); first | done | with_reducible rfl
            simp only [Act.put]
            refine wpAnyH_ready (rs := [18]) (by kernel_rfl) (by simp) ?_
            refine AllReadyH.cons rfl (fun K hK => ?_) ?_
            rotate_left
            · exact AllReadyH.nil
            go_simp
            refine hK.out _ _ HP.out.2 (fun hHeld => ?_)
            clear hK K
            refine wpAnyH_done (by kernel_rfl) ?_ _
            clear hHeld
            go_wp2_with fail
            go_ret
            exact HP.out.1
        · have e13 : (w5).cell? ⟨g, f + 1 + 2, none⟩ = some (.slice (qt k).bo (qt k).bn (qt k).bc) := (F0.out.below (Below.refl w5.drew.heap.size w5.drew)).p3 HH.out
          go_simp
          refine hK.out _ _ (HSW.out _ (F0.out.below (Below.refl w5.drew.heap.size w5.drew))) (fun hHeld => ?_)
          clear hK K e13
          refine wpAnyH_ready (rs := [1, 13]) (by kernel_rfl) (by simp) ?_
          refine AllReadyH.cons rfl (fun K hK => ?_) (AllReadyH.cons rfl (fun K hK => ?_) AllReadyH.nil)
          · go_simp
            have v14 : Below w5.drew.heap.size w5.drew (w5.drew.alloc (.cells #[] 39)) := (Below.refl w5.drew.heap.size w5.drew).alloc (Below.refl w5.drew.heap.size w5.drew).size _
            refine hK.out _ _ (HSW.out _ (F0.out.below v14)) (fun hHeld => ?_)
            clear hK K
            have o14 := (own_lit w5.drew).rebase (Below.refl w5.drew.heap.size w5.drew) (Nat.le_refl _)
            refine wpAnyH_ready (rs := [7, 13]) (by kernel_rfl) (by simp) ?_
            refine AllReadyH.cons rfl (fun K hK => ?_) (AllReadyH.cons rfl (fun K hK => ?_) AllReadyH.nil)
            · obtain ⟨a15, c15, u15, r15, o15, f15, z15⟩ := o14.runs _ _ _ (qt k).L (F0.out.below (v14)).B (by have := HL.out; rw [List.length_nil, Nat.zero_add]; omega) 24 0 rfl
              rw [Nat.zero_add] at r15
              refine step_app (by rfl) (.tmp 87) (.tmp 92) (by rfl) (by rfl) (by rfl) r15 ?_
              refine hK.out _ _ (HSW.out _ (F0.out.below o15.below)) (fun hHeld => ?_)
              clear hK K
              refine wpAnyH_ready (rs := [13]) (by kernel_rfl) (by simp) ?_
              refine AllReadyH.cons rfl (fun K hK => ?_) AllReadyH.nil
              go_simp
              have v16 : Below w5.drew.heap.size w5.drew (u15.alloc (.cells #[.int .i64 x, .int .i64 y] 39)) := (o15.below).alloc (o15.below).size _
              refine hK.out _ _ (HSW.out _ (F0.out.below v16)) (fun hHeld => ?_)
              clear hK K
              have l16 := lit_rsrc u15 [⟨x, y⟩] _ rfl 39 1 rfl (by omega)
              have o16 := o15.later (below_new u15 (.cells #[.int .i64 x, .int .i64 y] 39))
              obtain ⟨ap, c3, wF, hrun, OF, -, -⟩ := o16.runs _ 1 1 [⟨x, y⟩] l16 (by have := HL.out; rw [List.nil_append]; omega) 24 (qt k).bn (by rw [List.nil_append]; exact HL.out.2.2)
              refine wpAnyH_ready (rs := [14]) (by kernel_rfl) (by simp) ?_
              refine AllReadyH.cons rfl (fun K hK => ?_) ?_
              rotate_left
              · exact AllReadyH.nil
              refine step_app (by rfl) (.tmp 93) (.tmp 99) (by rfl) (by rfl) (by rfl) hrun ?_
              refine hK.out _ _ (HSW.out _ (F0.out.below OF.below)) (fun hHeld => ?_)
              clear hK K
              obtain ⟨d3, z3, HP⟩ := heard_end OF F0.out HL.out.2.1 HI.out HQ.out HH.out HE.out
              have d3b : wF.cell? ⟨g, f + 1 + 2, none⟩ = some (.slice (qt k).bo (qt k).bn (qt k).bc) := d3
              have z3b : wF.frozen? ⟨g, f + 1 + 2, none⟩ = false := z3
              clear OF
              refine wpAnyH_take (i := 15) (oi := { dst := some 101, op := Op.nilCheck (Operand.tmp 86), type := 0, pos := "law.go:82", after := #[{ on := 0, ground := Ground.data }, { on := 0, ground := Ground.phase }, { on := 1, ground := Ground.phase }, { on := 2, ground := Ground.phase }, { on := 3, ground := Ground.phase }, { on := 4, ground := Ground.phase }, { on := 5, ground := Ground.phase }, { on := 6, ground := Ground.phase }, { on := 7, ground := Ground.phase }, { on := 8, ground := Ground.phase }, { on := 9, ground := Ground.phase }, { on := 10, ground := Ground.phase }, { on := 11, ground := Ground.phase }, { on := 12, ground := Ground.phase }, { on := 13, ground := Ground.phase }, { on := 14, ground := Ground.phase }], guard := none }) (v := ?_) rfl (by kernel_rfl) (by kernel_rfl) (by kernel_rfl) (fun _ _ _ h => h) (Or.inl ⟨by rfl, ?_⟩) (by assumption) ?_
              rotate_left
              · (intro w hSw; (try dsimp only at hSw); go_simp); first | done | with_reducible rfl
              simp only [Act.put, List.setIfInBounds_toArray]
              refine wpAnyH_take (i := 16) (oi := { dst := some 102, op := Op.fieldAddr 28 (Operand.tmp 101) 1, type := 0, pos := "law.go:82", after := #[{ on := 15, ground := Ground.data }, { on := 0, ground := Ground.phase }, { on := 1, ground := Ground.phase }, { on := 2, ground := Ground.phase }, { on := 3, ground := Ground.phase }, { on := 4, ground := Ground.phase }, { on := 5, ground := Ground.phase }, { on := 6, ground := Ground.phase }, { on := 7, ground := Ground.phase }, { on := 8, ground := Ground.phase }, { on := 9, ground := Ground.phase }, { on := 10, ground := Ground.phase }, { on := 11, ground := Ground.phase }, { on := 12, ground := Ground.phase }, { on := 13, ground := Ground.phase }, { on := 14, ground := Ground.phase }], guard := none }) (v := ?_) rfl (by kernel_rfl) (by kernel_rfl) (by kernel_rfl) (fun _ _ _ h => h) (Or.inl ⟨by rfl, ?_⟩) (by assumption) ?_
              rotate_left
              · (intro w hSw; (try dsimp only at hSw); go_simp); first | done | with_reducible rfl
              simp only [Act.put]
              refine wpAnyH_take (i := 17) (oi := { dst := some 103, op := Op.fieldAddr 26 (Operand.tmp 102) 2, type := 0, pos := "law.go:82", after := #[{ on := 16, ground := Ground.data }, { on := 0, ground := Ground.phase }, { on := 1, ground := Ground.phase }, { on := 2, ground := Ground.phase }, { on := 3, ground := Ground.phase }, { on := 4, ground := Ground.phase }, { on := 5, ground := Ground.phase }, { on := 6, ground := Ground.phase }, { on := 7, ground := Ground.phase }, { on := 8, ground := Ground.phase }, { on := 9, ground := Ground.phase }, { on := 10, ground := Ground.phase }, { on := 11, ground := Ground.phase }, { on := 12, ground := Ground.phase }, { on := 13, ground := Ground.phase }, { on := 14, ground := Ground.phase }], guard := none }) (v := ?_) rfl (by kernel_rfl) (by kernel_rfl) (by kernel_rfl) (fun _ _ _ h => h) (Or.inl ⟨by rfl, ?_⟩) (by assumption) ?_
              rotate_left
              · (intro w hSw; (try dsimp only at hSw); go_simp); first | done | with_reducible rfl
              simp only [Act.put]
              refine wpAnyH_ready (rs := [18]) (by kernel_rfl) (by simp) ?_
              refine AllReadyH.cons rfl (fun K hK => ?_) ?_
              rotate_left
              · exact AllReadyH.nil
              go_simp
              refine hK.out _ _ HP.out.2 (fun hHeld => ?_)
              clear hK K
              refine wpAnyH_done (by kernel_rfl) ?_ _
              clear hHeld
              go_wp2_with fail
              go_ret
              exact HP.out.1
            · go_simp
              have v18 : Below w5.drew.heap.size w5.drew ((w5.drew.alloc (.cells #[] 39)).alloc (.cells #[.int .i64 x, .int .i64 y] 39)) := (v14).alloc (v14).size _
              refine hK.out _ _ (HSW.out _ (F0.out.below v18)) (fun hHeld => ?_)
              clear hK K
              have l18 := lit_rsrc (w5.drew.alloc (.cells #[] 39)) [⟨x, y⟩] _ rfl 39 1 rfl (by omega)
              rw [World.size_alloc] at l18
              have o18 := o14.later (below_new (w5.drew.alloc (.cells #[] 39)) (.cells #[.int .i64 x, .int .i64 y] 39))
              refine wpAnyH_ready (rs := [7]) (by kernel_rfl) (by simp) ?_
              refine AllReadyH.cons rfl (fun K hK => ?_) AllReadyH.nil
              obtain ⟨a19, c19, u19, r19, o19, f19, z19⟩ := o18.runs _ _ _ (qt k).L (F0.out.below (v18)).B (by have := HL.out; rw [List.length_nil, Nat.zero_add]; omega) 24 0 rfl
              rw [Nat.zero_add] at r19
              refine step_app (by rfl) (.tmp 87) (.tmp 92) (by rfl) (by rfl) (by rfl) r19 ?_
              refine hK.out _ _ (HSW.out _ (F0.out.below o19.below)) (fun hHeld => ?_)
              clear hK K
              have l19 := l18.onBlk (w' := u19) (fun ad e => by obtain rfl := Option.some.inj e; exact f19 _ (by simp only [World.size_alloc]; omega) (fun h => by have h2 := Option.some.inj h; (try simp only at h2); omega))
              obtain ⟨ap, c3, wF, hrun, OF, -, -⟩ := o19.runs _ 1 1 [⟨x, y⟩] l19 (by have := HL.out; rw [List.nil_append]; omega) 24 (qt k).bn (by rw [List.nil_append]; exact HL.out.2.2)
              refine wpAnyH_ready (rs := [14]) (by kernel_rfl) (by simp) ?_
              refine AllReadyH.cons rfl (fun K hK => ?_) ?_
              rotate_left
              · exact AllReadyH.nil
              refine step_app (by rfl) (.tmp 93) (.tmp 99) (by rfl) (by rfl) (by rfl) hrun ?_
              refine hK.out _ _ (HSW.out _ (F0.out.below OF.below)) (fun hHeld => ?_)
              clear hK K
              obtain ⟨d3, z3, HP⟩ := heard_end OF F0.out HL.out.2.1 HI.out HQ.out HH.out HE.out
              have d3b : wF.cell? ⟨g, f + 1 + 2, none⟩ = some (.slice (qt k).bo (qt k).bn (qt k).bc) := d3
              have z3b : wF.frozen? ⟨g, f + 1 + 2, none⟩ = false := z3
              clear OF
              refine wpAnyH_take (i := 15) (oi := { dst := some 101, op := Op.nilCheck (Operand.tmp 86), type := 0, pos := "law.go:82", after := #[{ on := 0, ground := Ground.data }, { on := 0, ground := Ground.phase }, { on := 1, ground := Ground.phase }, { on := 2, ground := Ground.phase }, { on := 3, ground := Ground.phase }, { on := 4, ground := Ground.phase }, { on := 5, ground := Ground.phase }, { on := 6, ground := Ground.phase }, { on := 7, ground := Ground.phase }, { on := 8, ground := Ground.phase }, { on := 9, ground := Ground.phase }, { on := 10, ground := Ground.phase }, { on := 11, ground := Ground.phase }, { on := 12, ground := Ground.phase }, { on := 13, ground := Ground.phase }, { on := 14, ground := Ground.phase }], guard := none }) (v := ?_) rfl (by kernel_rfl) (by kernel_rfl) (by kernel_rfl) (fun _ _ _ h => h) (Or.inl ⟨by rfl, ?_⟩) (by assumption) ?_
              rotate_left
              · (intro w hSw; (try dsimp only at hSw); go_simp); first | done | with_reducible rfl
              simp only [Act.put, List.setIfInBounds_toArray]
              refine wpAnyH_take (i := 16) (oi := { dst := some 102, op := Op.fieldAddr 28 (Operand.tmp 101) 1, type := 0, pos := "law.go:82", after := #[{ on := 15, ground := Ground.data }, { on := 0, ground := Ground.phase }, { on := 1, ground := Ground.phase }, { on := 2, ground := Ground.phase }, { on := 3, ground := Ground.phase }, { on := 4, ground := Ground.phase }, { on := 5, ground := Ground.phase }, { on := 6, ground := Ground.phase }, { on := 7, ground := Ground.phase }, { on := 8, ground := Ground.phase }, { on := 9, ground := Ground.phase }, { on := 10, ground := Ground.phase }, { on := 11, ground := Ground.phase }, { on := 12, ground := Ground.phase }, { on := 13, ground := Ground.phase }, { on := 14, ground := Ground.phase }], guard := none }) (v := ?_) rfl (by kernel_rfl) (by kernel_rfl) (by kernel_rfl) (fun _ _ _ h => h) (Or.inl ⟨by rfl, ?_⟩) (by assumption) ?_
              rotate_left
              · (intro w hSw; (try dsimp only at hSw); go_simp); first | done | with_reducible rfl
              simp only [Act.put]
              refine wpAnyH_take (i := 17) (oi := { dst := some 103, op := Op.fieldAddr 26 (Operand.tmp 102) 2, type := 0, pos := "law.go:82", after := #[{ on := 16, ground := Ground.data }, { on := 0, ground := Ground.phase }, { on := 1, ground := Ground.phase }, { on := 2, ground := Ground.phase }, { on := 3, ground := Ground.phase }, { on := 4, ground := Ground.phase }, { on := 5, ground := Ground.phase }, { on := 6, ground := Ground.phase }, { on := 7, ground := Ground.phase }, { on := 8, ground := Ground.phase }, { on := 9, ground := Ground.phase }, { on := 10, ground := Ground.phase }, { on := 11, ground := Ground.phase }, { on := 12, ground := Ground.phase }, { on := 13, ground := Ground.phase }, { on := 14, ground := Ground.phase }], guard := none }) (v := ?_) rfl (by kernel_rfl) (by kernel_rfl) (by kernel_rfl) (fun _ _ _ h => h) (Or.inl ⟨by rfl, ?_⟩) (by assumption) ?_
              rotate_left
              · (intro w hSw; (try dsimp only at hSw); go_simp); first | done | with_reducible rfl
              simp only [Act.put]
              refine wpAnyH_ready (rs := [18]) (by kernel_rfl) (by simp) ?_
              refine AllReadyH.cons rfl (fun K hK => ?_) ?_
              rotate_left
              · exact AllReadyH.nil
              go_simp
              refine hK.out _ _ HP.out.2 (fun hHeld => ?_)
              clear hK K
              refine wpAnyH_done (by kernel_rfl) ?_ _
              clear hHeld
              go_wp2_with fail
              go_ret
              exact HP.out.1
          · go_simp
            have v21 : Below w5.drew.heap.size w5.drew (w5.drew.alloc (.cells #[.int .i64 x, .int .i64 y] 39)) := (Below.refl w5.drew.heap.size w5.drew).alloc (Below.refl w5.drew.heap.size w5.drew).size _
            refine hK.out _ _ (HSW.out _ (F0.out.below v21)) (fun hHeld => ?_)
            clear hK K
            have l21 := lit_rsrc w5.drew [⟨x, y⟩] _ rfl 39 1 rfl (by omega)
            refine wpAnyH_ready (rs := [1]) (by kernel_rfl) (by simp) ?_
            refine AllReadyH.cons rfl (fun K hK => ?_) AllReadyH.nil
            go_simp
            have v22 : Below w5.drew.heap.size w5.drew ((w5.drew.alloc (.cells #[.int .i64 x, .int .i64 y] 39)).alloc (.cells #[] 39)) := (v21).alloc (v21).size _
            refine hK.out _ _ (HSW.out _ (F0.out.below v22)) (fun hHeld => ?_)
            clear hK K
            have o22 := (own_lit (w5.drew.alloc (.cells #[.int .i64 x, .int .i64 y] 39))).rebase (v21) (Nat.le_refl _)
            rw [World.size_alloc] at o22
            have l22 := l21.below (below_new (w5.drew.alloc (.cells #[.int .i64 x, .int .i64 y] 39)) (.cells #[] 39))
            refine wpAnyH_ready (rs := [7]) (by kernel_rfl) (by simp) ?_
            refine AllReadyH.cons rfl (fun K hK => ?_) AllReadyH.nil
            obtain ⟨a23, c23, u23, r23, o23, f23, z23⟩ := o22.runs _ _ _ (qt k).L (F0.out.below (v22)).B (by have := HL.out; rw [List.length_nil, Nat.zero_add]; omega) 24 0 rfl
            rw [Nat.zero_add] at r23
            refine step_app (by rfl) (.tmp 87) (.tmp 92) (by rfl) (by rfl) (by rfl) r23 ?_
            refine hK.out _ _ (HSW.out _ (F0.out.below o23.below)) (fun hHeld => ?_)
            clear hK K
            have l23 := l22.onBlk (w' := u23) (fun ad e => by obtain rfl := Option.some.inj e; exact f23 _ (by simp only [World.size_alloc]; omega) (fun h => by have h2 := Option.some.inj h; (try simp only at h2); omega))
            obtain ⟨ap, c3, wF, hrun, OF, -, -⟩ := o23.runs _ 1 1 [⟨x, y⟩] l23 (by have := HL.out; rw [List.nil_append]; omega) 24 (qt k).bn (by rw [List.nil_append]; exact HL.out.2.2)
            refine wpAnyH_ready (rs := [14]) (by kernel_rfl) (by simp) ?_
            refine AllReadyH.cons rfl (fun K hK => ?_) ?_
            rotate_left
            · exact AllReadyH.nil
            refine step_app (by rfl) (.tmp 93) (.tmp 99) (by rfl) (by rfl) (by rfl) hrun ?_
            refine hK.out _ _ (HSW.out _ (F0.out.below OF.below)) (fun hHeld => ?_)
            clear hK K
            obtain ⟨d3, z3, HP⟩ := heard_end OF F0.out HL.out.2.1 HI.out HQ.out HH.out HE.out
            have d3b : wF.cell? ⟨g, f + 1 + 2, none⟩ = some (.slice (qt k).bo (qt k).bn (qt k).bc) := d3
            have z3b : wF.frozen? ⟨g, f + 1 + 2, none⟩ = false := z3
            clear OF
            refine wpAnyH_take (i := 15) (oi := { dst := some 101, op := Op.nilCheck (Operand.tmp 86), type := 0, pos := "law.go:82", after := #[{ on := 0, ground := Ground.data }, { on := 0, ground := Ground.phase }, { on := 1, ground := Ground.phase }, { on := 2, ground := Ground.phase }, { on := 3, ground := Ground.phase }, { on := 4, ground := Ground.phase }, { on := 5, ground := Ground.phase }, { on := 6, ground := Ground.phase }, { on := 7, ground := Ground.phase }, { on := 8, ground := Ground.phase }, { on := 9, ground := Ground.phase }, { on := 10, ground := Ground.phase }, { on := 11, ground := Ground.phase }, { on := 12, ground := Ground.phase }, { on := 13, ground := Ground.phase }, { on := 14, ground := Ground.phase }], guard := none }) (v := ?_) rfl (by kernel_rfl) (by kernel_rfl) (by kernel_rfl) (fun _ _ _ h => h) (Or.inl ⟨by rfl, ?_⟩) (by assumption) ?_
            rotate_left
            · (intro w hSw; (try dsimp only at hSw); go_simp); first | done | with_reducible rfl
            simp only [Act.put, List.setIfInBounds_toArray]
            refine wpAnyH_take (i := 16) (oi := { dst := some 102, op := Op.fieldAddr 28 (Operand.tmp 101) 1, type := 0, pos := "law.go:82", after := #[{ on := 15, ground := Ground.data }, { on := 0, ground := Ground.phase }, { on := 1, ground := Ground.phase }, { on := 2, ground := Ground.phase }, { on := 3, ground := Ground.phase }, { on := 4, ground := Ground.phase }, { on := 5, ground := Ground.phase }, { on := 6, ground := Ground.phase }, { on := 7, ground := Ground.phase }, { on := 8, ground := Ground.phase }, { on := 9, ground := Ground.phase }, { on := 10, ground := Ground.phase }, { on := 11, ground := Ground.phase }, { on := 12, ground := Ground.phase }, { on := 13, ground := Ground.phase }, { on := 14, ground := Ground.phase }], guard := none }) (v := ?_) rfl (by kernel_rfl) (by kernel_rfl) (by kernel_rfl) (fun _ _ _ h => h) (Or.inl ⟨by rfl, ?_⟩) (by assumption) ?_
            rotate_left
            · (intro w hSw; (try dsimp only at hSw); go_simp); first | done | with_reducible rfl
            simp only [Act.put]
            refine wpAnyH_take (i := 17) (oi := { dst := some 103, op := Op.fieldAddr 26 (Operand.tmp 102) 2, type := 0, pos := "law.go:82", after := #[{ on := 16, ground := Ground.data }, { on := 0, ground := Ground.phase }, { on := 1, ground := Ground.phase }, { on := 2, ground := Ground.phase }, { on := 3, ground := Ground.phase }, { on := 4, ground := Ground.phase }, { on := 5, ground := Ground.phase }, { on := 6, ground := Ground.phase }, { on := 7, ground := Ground.phase }, { on := 8, ground := Ground.phase }, { on := 9, ground := Ground.phase }, { on := 10, ground := Ground.phase }, { on := 11, ground := Ground.phase }, { on := 12, ground := Ground.phase }, { on := 13, ground := Ground.phase }, { on := 14, ground := Ground.phase }], guard := none }) (v := ?_) rfl (by kernel_rfl) (by kernel_rfl) (by kernel_rfl) (fun _ _ _ h => h) (Or.inl ⟨by rfl, ?_⟩) (by assumption) ?_
            rotate_left
            · (intro w hSw; (try dsimp only at hSw); go_simp); first | done | with_reducible rfl
            simp only [Act.put]
            refine wpAnyH_ready (rs := [18]) (by kernel_rfl) (by simp) ?_
            refine AllReadyH.cons rfl (fun K hK => ?_) ?_
            rotate_left
            · exact AllReadyH.nil
            go_simp
            refine hK.out _ _ HP.out.2 (fun hHeld => ?_)
            clear hK K
            refine wpAnyH_done (by kernel_rfl) ?_ _
            clear hHeld
            go_wp2_with fail
            go_ret
            exact HP.out.1
        · go_simp
          have v25 : Below w5.drew.heap.size w5.drew (w5.drew.alloc (.cells #[.int .i64 x, .int .i64 y] 39)) := (Below.refl w5.drew.heap.size w5.drew).alloc (Below.refl w5.drew.heap.size w5.drew).size _
          refine hK.out _ _ (HSW.out _ (F0.out.below v25)) (fun hHeld => ?_)
          clear hK K
          have l25 := lit_rsrc w5.drew [⟨x, y⟩] _ rfl 39 1 rfl (by omega)
          refine wpAnyH_ready (rs := [1, 6]) (by kernel_rfl) (by simp) ?_
          refine AllReadyH.cons rfl (fun K hK => ?_) (AllReadyH.cons rfl (fun K hK => ?_) AllReadyH.nil)
          · go_simp
            have v26 : Below w5.drew.heap.size w5.drew ((w5.drew.alloc (.cells #[.int .i64 x, .int .i64 y] 39)).alloc (.cells #[] 39)) := (v25).alloc (v25).size _
            refine hK.out _ _ (HSW.out _ (F0.out.below v26)) (fun hHeld => ?_)
            clear hK K
            have o26 := (own_lit (w5.drew.alloc (.cells #[.int .i64 x, .int .i64 y] 39))).rebase (v25) (Nat.le_refl _)
            rw [World.size_alloc] at o26
            have l26 := l25.below (below_new (w5.drew.alloc (.cells #[.int .i64 x, .int .i64 y] 39)) (.cells #[] 39))
            refine wpAnyH_ready (rs := [6]) (by kernel_rfl) (by simp) ?_
            refine AllReadyH.cons rfl (fun K hK => ?_) AllReadyH.nil
            have e27 : (((w5.alloc (.cells #[.int .i64 x, .int .i64 y] 39)).alloc (.cells #[] 39))).cell? ⟨g, f + 1 + 2, none⟩ = some (.slice (qt k).bo (qt k).bn (qt k).bc) := (F0.out.below (v26)).p3 HH.out
            go_simp
            refine hK.out _ _ (HSW.out _ (F0.out.below (v26))) (fun hHeld => ?_)
            clear hK K e27
            refine wpAnyH_ready (rs := [7]) (by kernel_rfl) (by simp) ?_
            refine AllReadyH.cons rfl (fun K hK => ?_) AllReadyH.nil
            obtain ⟨a28, c28, u28, r28, o28, f28, z28⟩ := o26.runs _ _ _ (qt k).L (F0.out.below (v26)).B (by have := HL.out; rw [List.length_nil, Nat.zero_add]; omega) 24 0 rfl
            rw [Nat.zero_add] at r28
            refine step_app (by rfl) (.tmp 87) (.tmp 92) (by rfl) (by rfl) (by rfl) r28 ?_
            refine hK.out _ _ (HSW.out _ (F0.out.below o28.below)) (fun hHeld => ?_)
            clear hK K
            have l28 := l26.onBlk (w' := u28) (fun ad e => by obtain rfl := Option.some.inj e; exact f28 _ (by simp only [World.size_alloc]; omega) (fun h => by have h2 := Option.some.inj h; (try simp only at h2); omega))
            obtain ⟨ap, c3, wF, hrun, OF, -, -⟩ := o28.runs _ 1 1 [⟨x, y⟩] l28 (by have := HL.out; rw [List.nil_append]; omega) 24 (qt k).bn (by rw [List.nil_append]; exact HL.out.2.2)
            refine wpAnyH_ready (rs := [14]) (by kernel_rfl) (by simp) ?_
            refine AllReadyH.cons rfl (fun K hK => ?_) ?_
            rotate_left
            · exact AllReadyH.nil
            refine step_app (by rfl) (.tmp 93) (.tmp 99) (by rfl) (by rfl) (by rfl) hrun ?_
            refine hK.out _ _ (HSW.out _ (F0.out.below OF.below)) (fun hHeld => ?_)
            clear hK K
            obtain ⟨d3, z3, HP⟩ := heard_end OF F0.out HL.out.2.1 HI.out HQ.out HH.out HE.out
            have d3b : wF.cell? ⟨g, f + 1 + 2, none⟩ = some (.slice (qt k).bo (qt k).bn (qt k).bc) := d3
            have z3b : wF.frozen? ⟨g, f + 1 + 2, none⟩ = false := z3
            clear OF
            refine wpAnyH_take (i := 15) (oi := { dst := some 101, op := Op.nilCheck (Operand.tmp 86), type := 0, pos := "law.go:82", after := #[{ on := 0, ground := Ground.data }, { on := 0, ground := Ground.phase }, { on := 1, ground := Ground.phase }, { on := 2, ground := Ground.phase }, { on := 3, ground := Ground.phase }, { on := 4, ground := Ground.phase }, { on := 5, ground := Ground.phase }, { on := 6, ground := Ground.phase }, { on := 7, ground := Ground.phase }, { on := 8, ground := Ground.phase }, { on := 9, ground := Ground.phase }, { on := 10, ground := Ground.phase }, { on := 11, ground := Ground.phase }, { on := 12, ground := Ground.phase }, { on := 13, ground := Ground.phase }, { on := 14, ground := Ground.phase }], guard := none }) (v := ?_) rfl (by kernel_rfl) (by kernel_rfl) (by kernel_rfl) (fun _ _ _ h => h) (Or.inl ⟨by rfl, ?_⟩) (by assumption) ?_
            rotate_left
            · (intro w hSw; (try dsimp only at hSw); go_simp); first | done | with_reducible rfl
            simp only [Act.put, List.setIfInBounds_toArray]
            refine wpAnyH_take (i := 16) (oi := { dst := some 102, op := Op.fieldAddr 28 (Operand.tmp 101) 1, type := 0, pos := "law.go:82", after := #[{ on := 15, ground := Ground.data }, { on := 0, ground := Ground.phase }, { on := 1, ground := Ground.phase }, { on := 2, ground := Ground.phase }, { on := 3, ground := Ground.phase }, { on := 4, ground := Ground.phase }, { on := 5, ground := Ground.phase }, { on := 6, ground := Ground.phase }, { on := 7, ground := Ground.phase }, { on := 8, ground := Ground.phase }, { on := 9, ground := Ground.phase }, { on := 10, ground := Ground.phase }, { on := 11, ground := Ground.phase }, { on := 12, ground := Ground.phase }, { on := 13, ground := Ground.phase }, { on := 14, ground := Ground.phase }], guard := none }) (v := ?_) rfl (by kernel_rfl) (by kernel_rfl) (by kernel_rfl) (fun _ _ _ h => h) (Or.inl ⟨by rfl, ?_⟩) (by assumption) ?_
            rotate_left
            · (intro w hSw; (try dsimp only at hSw); go_simp); first | done | with_reducible rfl
            simp only [Act.put]
            refine wpAnyH_take (i := 17) (oi := { dst := some 103, op := Op.fieldAddr 26 (Operand.tmp 102) 2, type := 0, pos := "law.go:82", after := #[{ on := 16, ground := Ground.data }, { on := 0, ground := Ground.phase }, { on := 1, ground := Ground.phase }, { on := 2, ground := Ground.phase }, { on := 3, ground := Ground.phase }, { on := 4, ground := Ground.phase }, { on := 5, ground := Ground.phase }, { on := 6, ground := Ground.phase }, { on := 7, ground := Ground.phase }, { on := 8, ground := Ground.phase }, { on := 9, ground := Ground.phase }, { on := 10, ground := Ground.phase }, { on := 11, ground := Ground.phase }, { on := 12, ground := Ground.phase }, { on := 13, ground := Ground.phase }, { on := 14, ground := Ground.phase }], guard := none }) (v := ?_) rfl (by kernel_rfl) (by kernel_rfl) (by kernel_rfl) (fun _ _ _ h => h) (Or.inl ⟨by rfl, ?_⟩) (by assumption) ?_
            rotate_left
            · (intro w hSw; (try dsimp only at hSw); go_simp); first | done | with_reducible rfl
            simp only [Act.put]
            refine wpAnyH_ready (rs := [18]) (by kernel_rfl) (by simp) ?_
            refine AllReadyH.cons rfl (fun K hK => ?_) ?_
            rotate_left
            · exact AllReadyH.nil
            go_simp
            refine hK.out _ _ HP.out.2 (fun hHeld => ?_)
            clear hK K
            refine wpAnyH_done (by kernel_rfl) ?_ _
            clear hHeld
            go_wp2_with fail
            go_ret
            exact HP.out.1
          · have e30 : ((w5.alloc (.cells #[.int .i64 x, .int .i64 y] 39))).cell? ⟨g, f + 1 + 2, none⟩ = some (.slice (qt k).bo (qt k).bn (qt k).bc) := (F0.out.below (v25)).p3 HH.out
            go_simp
            refine hK.out _ _ (HSW.out _ (F0.out.below (v25))) (fun hHeld => ?_)
            clear hK K e30
            refine wpAnyH_ready (rs := [1]) (by kernel_rfl) (by simp) ?_
            refine AllReadyH.cons rfl (fun K hK => ?_) AllReadyH.nil
            go_simp
            have v31 : Below w5.drew.heap.size w5.drew ((w5.drew.alloc (.cells #[.int .i64 x, .int .i64 y] 39)).alloc (.cells #[] 39)) := (v25).alloc (v25).size _
            refine hK.out _ _ (HSW.out _ (F0.out.below v31)) (fun hHeld => ?_)
            clear hK K
            have o31 := (own_lit (w5.drew.alloc (.cells #[.int .i64 x, .int .i64 y] 39))).rebase (v25) (Nat.le_refl _)
            rw [World.size_alloc] at o31
            have l31 := l25.below (below_new (w5.drew.alloc (.cells #[.int .i64 x, .int .i64 y] 39)) (.cells #[] 39))
            refine wpAnyH_ready (rs := [7]) (by kernel_rfl) (by simp) ?_
            refine AllReadyH.cons rfl (fun K hK => ?_) AllReadyH.nil
            obtain ⟨a32, c32, u32, r32, o32, f32, z32⟩ := o31.runs _ _ _ (qt k).L (F0.out.below (v31)).B (by have := HL.out; rw [List.length_nil, Nat.zero_add]; omega) 24 0 rfl
            rw [Nat.zero_add] at r32
            refine step_app (by rfl) (.tmp 87) (.tmp 92) (by rfl) (by rfl) (by rfl) r32 ?_
            refine hK.out _ _ (HSW.out _ (F0.out.below o32.below)) (fun hHeld => ?_)
            clear hK K
            have l32 := l31.onBlk (w' := u32) (fun ad e => by obtain rfl := Option.some.inj e; exact f32 _ (by simp only [World.size_alloc]; omega) (fun h => by have h2 := Option.some.inj h; (try simp only at h2); omega))
            obtain ⟨ap, c3, wF, hrun, OF, -, -⟩ := o32.runs _ 1 1 [⟨x, y⟩] l32 (by have := HL.out; rw [List.nil_append]; omega) 24 (qt k).bn (by rw [List.nil_append]; exact HL.out.2.2)
            refine wpAnyH_ready (rs := [14]) (by kernel_rfl) (by simp) ?_
            refine AllReadyH.cons rfl (fun K hK => ?_) ?_
            rotate_left
            · exact AllReadyH.nil
            refine step_app (by rfl) (.tmp 93) (.tmp 99) (by rfl) (by rfl) (by rfl) hrun ?_
            refine hK.out _ _ (HSW.out _ (F0.out.below OF.below)) (fun hHeld => ?_)
            clear hK K
            obtain ⟨d3, z3, HP⟩ := heard_end OF F0.out HL.out.2.1 HI.out HQ.out HH.out HE.out
            have d3b : wF.cell? ⟨g, f + 1 + 2, none⟩ = some (.slice (qt k).bo (qt k).bn (qt k).bc) := d3
            have z3b : wF.frozen? ⟨g, f + 1 + 2, none⟩ = false := z3
            clear OF
            refine wpAnyH_take (i := 15) (oi := { dst := some 101, op := Op.nilCheck (Operand.tmp 86), type := 0, pos := "law.go:82", after := #[{ on := 0, ground := Ground.data }, { on := 0, ground := Ground.phase }, { on := 1, ground := Ground.phase }, { on := 2, ground := Ground.phase }, { on := 3, ground := Ground.phase }, { on := 4, ground := Ground.phase }, { on := 5, ground := Ground.phase }, { on := 6, ground := Ground.phase }, { on := 7, ground := Ground.phase }, { on := 8, ground := Ground.phase }, { on := 9, ground := Ground.phase }, { on := 10, ground := Ground.phase }, { on := 11, ground := Ground.phase }, { on := 12, ground := Ground.phase }, { on := 13, ground := Ground.phase }, { on := 14, ground := Ground.phase }], guard := none }) (v := ?_) rfl (by kernel_rfl) (by kernel_rfl) (by kernel_rfl) (fun _ _ _ h => h) (Or.inl ⟨by rfl, ?_⟩) (by assumption) ?_
            rotate_left
            · (intro w hSw; (try dsimp only at hSw); go_simp); first | done | with_reducible rfl
            simp only [Act.put, List.setIfInBounds_toArray]
            refine wpAnyH_take (i := 16) (oi := { dst := some 102, op := Op.fieldAddr 28 (Operand.tmp 101) 1, type := 0, pos := "law.go:82", after := #[{ on := 15, ground := Ground.data }, { on := 0, ground := Ground.phase }, { on := 1, ground := Ground.phase }, { on := 2, ground := Ground.phase }, { on := 3, ground := Ground.phase }, { on := 4, ground := Ground.phase }, { on := 5, ground := Ground.phase }, { on := 6, ground := Ground.phase }, { on := 7, ground := Ground.phase }, { on := 8, ground := Ground.phase }, { on := 9, ground := Ground.phase }, { on := 10, ground := Ground.phase }, { on := 11, ground := Ground.phase }, { on := 12, ground := Ground.phase }, { on := 13, ground := Ground.phase }, { on := 14, ground := Ground.phase }], guard := none }) (v := ?_) rfl (by kernel_rfl) (by kernel_rfl) (by kernel_rfl) (fun _ _ _ h => h) (Or.inl ⟨by rfl, ?_⟩) (by assumption) ?_
            rotate_left
            · (intro w hSw; (try dsimp only at hSw); go_simp); first | done | with_reducible rfl
            simp only [Act.put]
            refine wpAnyH_take (i := 17) (oi := { dst := some 103, op := Op.fieldAddr 26 (Operand.tmp 102) 2, type := 0, pos := "law.go:82", after := #[{ on := 16, ground := Ground.data }, { on := 0, ground := Ground.phase }, { on := 1, ground := Ground.phase }, { on := 2, ground := Ground.phase }, { on := 3, ground := Ground.phase }, { on := 4, ground := Ground.phase }, { on := 5, ground := Ground.phase }, { on := 6, ground := Ground.phase }, { on := 7, ground := Ground.phase }, { on := 8, ground := Ground.phase }, { on := 9, ground := Ground.phase }, { on := 10, ground := Ground.phase }, { on := 11, ground := Ground.phase }, { on := 12, ground := Ground.phase }, { on := 13, ground := Ground.phase }, { on := 14, ground := Ground.phase }], guard := none }) (v := ?_) rfl (by kernel_rfl) (by kernel_rfl) (by kernel_rfl) (fun _ _ _ h => h) (Or.inl ⟨by rfl, ?_⟩) (by assumption) ?_
            rotate_left
            · (intro w hSw; (try dsimp only at hSw); go_simp); first | done | with_reducible rfl
            simp only [Act.put]
            refine wpAnyH_ready (rs := [18]) (by kernel_rfl) (by simp) ?_
            refine AllReadyH.cons rfl (fun K hK => ?_) ?_
            rotate_left
            · exact AllReadyH.nil
            go_simp
            refine hK.out _ _ HP.out.2 (fun hHeld => ?_)
            clear hK K
            refine wpAnyH_done (by kernel_rfl) ?_ _
            clear hHeld
            go_wp2_with fail
            go_ret
            exact HP.out.1
      · have HP : Hid (Plays w0 g N (.returned (.bool true)) wc) := by
          refine ⟨rfl, _, HF4.out.Q.mono (Nat.le_succ N), ?_⟩
          rw [HQ.out.1]
          refine HI.out.set ?_
          have e : heardF (qs k).r (qs k).s (qs k).f x y = (qs k).f := by unfold heardF; rw [if_neg (by rw [HEE.out]; exact h0)]
          rw [e]
          exact HI.out k HF4.out.hk
        go_wp2_with fail
        go_ret
        exact HP.out
end Go.Proofs.Ytikpjlbchnpmmaa
