/- The reference's Held. -/
import Derived.Test.YtgnclfeicgbjpaaDRn
import Derived.OrdersHeld
namespace Go.Proofs.Ytgnclfeicgbjpaa
open Go.RowKit
variable {w w' w2 wr : World} {g B cap : Nat} {m s k : Int} {A X Y : List Int} {ao a1 a2 b1 : Option Addr} {n1 c1 n2 c2 : Nat} {x : Int}

/-- two rows that the call grows -/
structure Hh (w wr : World) (a1 : Option Addr) (n1 c1 : Nat) (X : List Int) (a2 : Option Addr) (n2 c2 : Nat) (Y : List Int) : Prop where
  r1 : IR wr a1 n1 c1 X
  r2 : IR wr a2 n2 c2 Y
  ap : ∀ b, blk a1 = some b → blk a2 ≠ some b
  f1 : ∀ b, blk a1 = some b → w.heap.size ≤ b
  f2 : ∀ b, blk a2 = some b → w.heap.size ≤ b
  bl : Below w.heap.size w wr
theorem Hh.below (h : Hh w wr a1 n1 c1 X a2 n2 c2 Y) (hb : Below wr.heap.size wr w2) : Hh w w2 a1 n1 c1 X a2 n2 c2 Y := ⟨h.r1.below hb, h.r2.below hb, h.ap, h.f1, h.f2, h.bl.trans (hb.mono h.bl.size)⟩
theorem Hh.app1 (h : Hh w wr a1 n1 c1 X a2 n2 c2 Y) {c' : Nat} (R : IR w2 b1 (n1 + 1) c' (X ++ [x])) (P : Ap wr w2 a1 b1) : Hh w w2 b1 (n1 + 1) c' (X ++ [x]) a2 n2 c2 Y := by
  refine ⟨R, h.r2.keep fun j e => P.grown.block j (h.r2.lt j e) (fun e2 => h.ap j e2.symm e), fun b e e2 => ?_, fun b e => ?_, h.f2, h.bl.grown P.grown h.bl.size fun j e => h.f1 j e⟩
  · rcases P.lies with e3 | ⟨j, e3, hj⟩
    · exact h.ap b (e3 ▸ e) e2
    · rw [e3] at e
      have := Option.some.inj e
      have := h.r2.lt b e2
      omega
  · rcases P.lies with e3 | ⟨j, e3, hj⟩
    · exact h.f1 b (e3 ▸ e)
    · rw [e3] at e
      have := Option.some.inj e
      have := h.bl.size
      omega
theorem Hh.app2 (h : Hh w wr a1 n1 c1 X a2 n2 c2 Y) {c' : Nat} (R : IR w2 b1 (n2 + 1) c' (Y ++ [x])) (P : Ap wr w2 a2 b1) : Hh w w2 a1 n1 c1 X b1 (n2 + 1) c' (Y ++ [x]) := by
  refine ⟨h.r1.keep fun j e => P.grown.block j (h.r1.lt j e) (fun e2 => h.ap j e e2.symm), R, fun b e e2 => ?_, h.f1, fun b e => ?_, h.bl.grown P.grown h.bl.size fun j e => h.f2 j e⟩
  · rcases P.lies with e3 | ⟨j, e3, hj⟩
    · exact h.ap b e (e3 ▸ e2)
    · rw [e3] at e2
      have := Option.some.inj e2
      have := h.r1.lt b e
      omega
  · rcases P.lies with e3 | ⟨j, e3, hj⟩
    · exact h.f2 b (e3 ▸ e)
    · rw [e3] at e
      have := Option.some.inj e
      have := h.bl.size
      omega
theorem numsF_succ (f0 : Int) (t : Nat) : numsF f0 (t + 1) = numsF f0 t ++ [f0 + (t : Int)] := by simp [numsF, List.range_succ]
theorem take_succI (L : List Int) (t : Nat) (h : t < L.length) : L.take (t + 1) = L.take t ++ [L.getD t 0] := by
  rw [List.take_succ_eq_append_getElem h]
  simp [List.getD, h]
set_option maxRecDepth 100000 in
set_option maxHeartbeats 3200000 in
theorem rheld_any (w : World) (L : Rf B w g m s k A ao cap) (D : Rb m s k A) (n : Int) (j0 N : Nat) (hmax : max n (s + k) = s + (j0 : Int)) (hN : (s + (A.length : Int) - (s + (j0 : Int))).toNat = N) (hN64 : N ≤ 1000) : Calls Try.prog 25 #[ptr g, .int .i64 n] w fun e w' =>
    ∃ b1 c1 b2 c2, e = .returned (.tuple #[.slice b1 N c1, .slice b2 N c2]) ∧ IR w' b1 N c1 (numsF (s + (j0 : Int)) N) ∧ IR w' b2 N c2 ((A.drop j0).take N) ∧ Below w.heap.size w w' := by
  obtain ⟨f0, hf0⟩ : ∃ f0, s + (j0 : Int) = f0 := ⟨_, rfl⟩
  rw [hf0] at hmax hN ⊢
  have hmx : ∀ (ts : Array TypeId) (t : TypeId) (w : World), (Builtin.max_ ts t #[.int .i64 n, .int .i64 (s + k)]).run Try.prog w = .ok (.int .i64 f0) w := fun ts t w => by rw [← hmax]; exact Lib.run_max_ints w ts t .i64 .i64 n (s + k)
  have HL := hide L
  have HD := hide D
  have Hf0 := hide hf0
  have HN := hide hN
  have Hs0 : Hid (0 ≤ s ∧ s ≤ 4611686018427387904 ∧ A.length ≤ 4400000000000) := ⟨D.s0, D.s1, D.l⟩
  clear hf0 hN hmax L D
  go_enter Try.func25, Try.ntmps25
  go_wp2_with fail
  refine (rfirst_any _ HL.out HD.out).mono ?_
  rintro e w1 ⟨rfl, q1, hw1⟩
  have HB1 := hide (hw1 ▸ below_drewN w q1)
  clear hw1
  go_wp2_with fail
  clear hmx
  go_loopw [6, 7, 8] (fun u v z wr => ∃ (t : Nat) (a1 : Option Addr) (c1 : Nat) (a2 : Option Addr) (c2 : Nat), t ≤ N ∧ u = .slice a1 t c1 ∧ v = .slice a2 t c2 ∧ z = .int .i64 (f0 + (t : Int)) ∧ Hid (Hh w wr a1 t c1 (numsF f0 t) a2 t c2 ((A.drop j0).take t))) (fun _ _ z _ => (s + (A.length : Int) - intOf z).toNat)
  case atStart => exact ⟨0, none, 0, none, 0, Nat.zero_le _, rfl, rfl, by simp, ⟨IR.nil _, IR.nil _, (fun b e => by cases e), (fun b e => by cases e), (fun b e => by cases e), HB1.out⟩⟩
  case round =>
    clear HB1
    obtain ⟨t, a1, c1, a2, c2, ht, rfl, rfl, rfl, HH⟩ := hrel
    by_cases hlt : t < N
    · have hlt1 : f0 + (t : Int) < s + (A.length : Int) := by have := HN.out; omega
      obtain ⟨j, hj⟩ : ∃ j, j0 + t = j := ⟨_, rfl⟩
      have hjl : j < A.length := by have := HN.out; have := Hf0.out; omega
      have HW : Hid (IntKind.i64.wrap (f0 + (t : Int) - s) = (j : Int)) := by show _ = _; have := Hs0.out.2.2; have := Hf0.out; rw [show f0 + (t : Int) - s = (j : Int) by omega, IntKind.wrap_i64]; omega
      have hwn : wrap64 (f0 + (t : Int) + 1) = f0 + ((t + 1 : Nat) : Int) := by have := Hs0.out; have := Hf0.out; rw [w64 (by omega) (by omega)]; omega
      have hjI : (j : Int) < A.length := by omega
      obtain ⟨x, hx⟩ : ∃ x, A.getD j 0 = x := ⟨_, rfl⟩
      have HTk : Hid ((A.drop j0).take (t + 1) = (A.drop j0).take t ++ [x]) := by
        show _ = _
        rw [take_succI _ t (by rw [List.length_drop]; omega), ← hx, ← hj]
        simp [List.getD, List.getElem?_drop]
      obtain ⟨b, hb, hcap, -⟩ := HL.out.cellA j hjl
      subst hb
      have HCl : Hid (∀ v, Rf B v g m s k A (some ⟨b, 0, none⟩) cap → v.cell? ⟨b, j, none⟩ = some (.int .i64 x)) := fun v Lv => by
        obtain ⟨b', hb', -, hc⟩ := Lv.cellA j hjl
        cases hb'
        rw [hx] at hc
        exact hc
      have HMs : Hid ((s + (A.length : Int) - (f0 + ((t + 1 : Nat) : Int))).toNat < (s + (A.length : Int) - (f0 + (t : Int))).toNat) := by show _ < _; omega
      have htb : t ≤ 1000 := by omega
      clear hx hj
      go_wp2_with fail
      refine (rnext_any _ (HL.out.on (HH.out.bl.block g HL.out.lt) (fun ad e => HH.out.bl.block ad.block (HL.out.row ad e).2)) HD.out).mono ?_
      rintro e w3 ⟨rfl, q3, hw3⟩
      have HH3 := hide (HH.out.below (hw3 ▸ below_drewN wr q3))
      clear hw3 HH
      go_wp2_with (at_builtin; refine HH3.out.r1.app1 (f0 + (t : Int)) (by omega) rfl (.tmp 19) (.tmp 21) rfl rfl rfl ?_; intro b4 q4 w4 R4 A4; have HH4 := hide (HH3.out.app1 R4 A4); clear R4 A4 HH3)
      have HR4 : Hid (∀ v, Below w.heap.size w v → Rf B v g m s k A (some ⟨b, 0, none⟩) cap) := fun v hv => HL.out.on (hv.block g HL.out.lt) (fun ad e => hv.block ad.block (HL.out.row ad e).2)
      have bd4 := (below_drew1 w4)
      have HH5 := hide (HH4.out.below bd4)
      obtain ⟨b6, q6, w6, hrun, R6, A6⟩ := HH5.out.r2.runs1 x (by omega) 38
      have HH6 := hide (HH5.out.app2 R6 A6)
      clear R6 A6 bd4
      refine wp_region_held_drew (S := fun W => W.cell? ⟨g, 1, none⟩ = some (.int .i64 s) ∧ W.cell? ⟨g, 3, none⟩ = some (.slice (some ⟨b, 0, none⟩) A.length cap) ∧ W.cell? ⟨b, j, none⟩ = some (.int .i64 x)) (by kernel_rfl) (⟨(HR4.out _ (HH5.out.bl)).c1, (HR4.out _ (HH5.out.bl)).c3, HCl.out _ (HR4.out _ (HH5.out.bl))⟩) (fun hHeld => ?_)
      refine wpAnyH_take (i := 0) (oi := { dst := some 23, op := Op.move (Operand.tmp 7), type := 38, pos := "ref.go:63", after := #[], guard := none }) (v := ?_) rfl (by kernel_rfl) (by kernel_rfl) (by kernel_rfl) (fun _ _ _ h => h) (Or.inl ⟨by rfl, ?_⟩) (by assumption) ?_
      rotate_left
      · (intro w hSw; (try dsimp only at hSw); go_simp); first | done | with_reducible rfl
      simp only [Act.put, List.setIfInBounds_toArray, List.set_cons_zero, List.set_cons_succ]
      refine wpAnyH_take (i := 1) (oi := { dst := some 24, op := Op.move (Operand.tmp 0), type := 28, pos := "ref.go:63", after := #[], guard := none }) (v := ?_) rfl (by kernel_rfl) (by kernel_rfl) (by kernel_rfl) (fun _ _ _ h => h) (Or.inl ⟨by rfl, ?_⟩) (by assumption) ?_
      rotate_left
      · (intro w hSw; (try dsimp only at hSw); go_simp); first | done | with_reducible rfl
      simp only [Act.put, List.setIfInBounds_toArray, List.set_cons_zero, List.set_cons_succ]
      refine wpAnyH_take (i := 2) (oi := { dst := some 25, op := Op.nilCheck (Operand.tmp 24), type := 0, pos := "ref.go:63", after := #[{ on := 1, ground := Ground.data }], guard := none }) (v := ?_) rfl (by kernel_rfl) (by kernel_rfl) (by kernel_rfl) (fun _ _ _ h => h) (Or.inl ⟨by rfl, ?_⟩) (by assumption) ?_
      rotate_left
      · (intro w hSw; (try dsimp only at hSw); go_simp); first | done | with_reducible rfl
      simp only [Act.put, List.setIfInBounds_toArray, List.set_cons_zero, List.set_cons_succ]
      refine wpAnyH_take (i := 3) (oi := { dst := some 26, op := Op.fieldAddr 49 (Operand.tmp 25) 3, type := 0, pos := "ref.go:63", after := #[{ on := 2, ground := Ground.data }], guard := none }) (v := ?_) rfl (by kernel_rfl) (by kernel_rfl) (by kernel_rfl) (fun _ _ _ h => h) (Or.inl ⟨by rfl, ?_⟩) (by assumption) ?_
      rotate_left
      · (intro w hSw; (try dsimp only at hSw); go_simp); first | done | with_reducible rfl
      simp only [Act.put, List.setIfInBounds_toArray, List.set_cons_zero, List.set_cons_succ]
      refine wpAnyH_take (i := 4) (oi := { dst := some 27, op := Op.load 38 (Operand.tmp 26), type := 38, pos := "ref.go:63", after := #[{ on := 3, ground := Ground.data }], guard := none }) (v := ?_) rfl (by kernel_rfl) (by kernel_rfl) (by kernel_rfl) (fun _ _ _ h => h) (Or.inl ⟨by rfl, ?_⟩) (by assumption) ?_
      rotate_left
      · (intro w hSw; (try dsimp only at hSw); obtain ⟨hc1, hc3, hcj⟩ := hSw; go_simp); first | done | with_reducible rfl
      simp only [Act.put, List.setIfInBounds_toArray, List.set_cons_zero, List.set_cons_succ]
      refine wpAnyH_take (i := 5) (oi := { dst := some 28, op := Op.move (Operand.tmp 8), type := 3, pos := "ref.go:63", after := #[], guard := none }) (v := ?_) rfl (by kernel_rfl) (by kernel_rfl) (by kernel_rfl) (fun _ _ _ h => h) (Or.inl ⟨by rfl, ?_⟩) (by assumption) ?_
      rotate_left
      · (intro w hSw; (try dsimp only at hSw); go_simp); first | done | with_reducible rfl
      simp only [Act.put, List.setIfInBounds_toArray, List.set_cons_zero, List.set_cons_succ]
      refine wpAnyH_take (i := 6) (oi := { dst := some 29, op := Op.move (Operand.tmp 0), type := 28, pos := "ref.go:63", after := #[], guard := none }) (v := ?_) rfl (by kernel_rfl) (by kernel_rfl) (by kernel_rfl) (fun _ _ _ h => h) (Or.inl ⟨by rfl, ?_⟩) (by assumption) ?_
      rotate_left
      · (intro w hSw; (try dsimp only at hSw); go_simp); first | done | with_reducible rfl
      simp only [Act.put, List.setIfInBounds_toArray, List.set_cons_zero, List.set_cons_succ]
      refine wpAnyH_take (i := 7) (oi := { dst := some 30, op := Op.nilCheck (Operand.tmp 29), type := 0, pos := "ref.go:63", after := #[{ on := 6, ground := Ground.data }], guard := none }) (v := ?_) rfl (by kernel_rfl) (by kernel_rfl) (by kernel_rfl) (fun _ _ _ h => h) (Or.inl ⟨by rfl, ?_⟩) (by assumption) ?_
      rotate_left
      · (intro w hSw; (try dsimp only at hSw); go_simp); first | done | with_reducible rfl
      simp only [Act.put, List.setIfInBounds_toArray, List.set_cons_zero, List.set_cons_succ]
      refine wpAnyH_take (i := 8) (oi := { dst := some 31, op := Op.fieldAddr 49 (Operand.tmp 30) 1, type := 0, pos := "ref.go:63", after := #[{ on := 7, ground := Ground.data }], guard := none }) (v := ?_) rfl (by kernel_rfl) (by kernel_rfl) (by kernel_rfl) (fun _ _ _ h => h) (Or.inl ⟨by rfl, ?_⟩) (by assumption) ?_
      rotate_left
      · (intro w hSw; (try dsimp only at hSw); go_simp); first | done | with_reducible rfl
      simp only [Act.put, List.setIfInBounds_toArray, List.set_cons_zero, List.set_cons_succ]
      refine wpAnyH_take (i := 9) (oi := { dst := some 32, op := Op.load 3 (Operand.tmp 31), type := 3, pos := "ref.go:63", after := #[{ on := 8, ground := Ground.data }], guard := none }) (v := ?_) rfl (by kernel_rfl) (by kernel_rfl) (by kernel_rfl) (fun _ _ _ h => h) (Or.inl ⟨by rfl, ?_⟩) (by assumption) ?_
      rotate_left
      · (intro w hSw; (try dsimp only at hSw); obtain ⟨hc1, hc3, hcj⟩ := hSw; go_simp); first | done | with_reducible rfl
      simp only [Act.put, List.setIfInBounds_toArray, List.set_cons_zero, List.set_cons_succ]
      refine wpAnyH_take (i := 10) (oi := { dst := some 33, op := Op.binOp BinOp.sub 3 (Operand.tmp 28) (Operand.tmp 32) 3, type := 3, pos := "ref.go:63", after := #[{ on := 5, ground := Ground.data }, { on := 9, ground := Ground.data }], guard := none }) (v := ?_) rfl (by kernel_rfl) (by kernel_rfl) (by kernel_rfl) (fun _ _ _ h => h) (Or.inl ⟨by rfl, ?_⟩) (by assumption) ?_
      rotate_left
      · (intro w hSw; (try dsimp only at hSw); go_simp); first | done | with_reducible rfl
      simp only [Act.put, List.setIfInBounds_toArray, List.set_cons_zero, List.set_cons_succ]
      rw [HW.out]
      refine wpAnyH_take (i := 11) (oi := { dst := some 34, op := Op.indexAddr 38 (Operand.tmp 27) (Operand.tmp 33), type := 0, pos := "ref.go:63", after := #[{ on := 4, ground := Ground.data }, { on := 10, ground := Ground.data }], guard := none }) (v := ?_) rfl (by kernel_rfl) (by kernel_rfl) (by kernel_rfl) (fun _ _ _ h => h) (Or.inl ⟨by rfl, ?_⟩) (by assumption) ?_
      rotate_left
      · (intro w hSw; (try dsimp only at hSw); go_simp); first | done | with_reducible rfl
      simp only [Act.put, List.setIfInBounds_toArray, List.set_cons_zero, List.set_cons_succ]
      refine wpAnyH_take (i := 12) (oi := { dst := some 35, op := Op.load 3 (Operand.tmp 34), type := 3, pos := "ref.go:63", after := #[{ on := 11, ground := Ground.data }], guard := none }) (v := ?_) rfl (by kernel_rfl) (by kernel_rfl) (by kernel_rfl) (fun _ _ _ h => h) (Or.inl ⟨by rfl, ?_⟩) (by assumption) ?_
      rotate_left
      · (intro w hSw; (try dsimp only at hSw); obtain ⟨hc1, hc3, hcj⟩ := hSw; go_simp); first | done | with_reducible rfl
      simp only [Act.put, List.setIfInBounds_toArray, List.set_cons_zero, List.set_cons_succ]
      refine wpAnyH_ready (rs := [13]) (by kernel_rfl) (by simp) ?_
      refine AllReadyH.cons rfl (fun K hK => ?_) ?_
      rotate_left
      · exact AllReadyH.nil
      go_simp
      refine hK.out _ _ ⟨(HR4.out _ (HH5.out.bl.trans ((below_new _ _).mono HH5.out.bl.size))).c1, (HR4.out _ (HH5.out.bl.trans ((below_new _ _).mono HH5.out.bl.size))).c3, HCl.out _ (HR4.out _ (HH5.out.bl.trans ((below_new _ _).mono HH5.out.bl.size)))⟩ (fun hHeld => ?_)
      clear hK K
      refine wpAnyH_ready (rs := [14]) (by kernel_rfl) (by simp) ?_
      refine AllReadyH.cons rfl (fun K hK => ?_) ?_
      rotate_left
      · exact AllReadyH.nil
      refine step_appI (by rfl) (.tmp 23) (.tmp 36) (by rfl) (by rfl) (by rfl) hrun ?_
      refine hK.out _ _ ⟨(HR4.out _ (HH6.out.bl)).c1, (HR4.out _ (HH6.out.bl)).c3, HCl.out _ (HR4.out _ (HH6.out.bl))⟩ (fun hHeld => ?_)
      clear hK K hrun
      refine wpAnyH_take (i := 15) (oi := { dst := some 7, op := Op.assign (Operand.tmp 37), type := 38, pos := "ref.go:63", after := #[{ on := 14, ground := Ground.data }, { on := 14, ground := Ground.chain }, { on := 0, ground := Ground.phase }, { on := 1, ground := Ground.phase }, { on := 2, ground := Ground.phase }, { on := 3, ground := Ground.phase }, { on := 4, ground := Ground.phase }, { on := 5, ground := Ground.phase }, { on := 6, ground := Ground.phase }, { on := 7, ground := Ground.phase }, { on := 8, ground := Ground.phase }, { on := 9, ground := Ground.phase }, { on := 10, ground := Ground.phase }, { on := 11, ground := Ground.phase }, { on := 12, ground := Ground.phase }, { on := 13, ground := Ground.phase }, { on := 14, ground := Ground.phase }], guard := none }) (v := ?_) rfl (by kernel_rfl) (by kernel_rfl) (by kernel_rfl) (fun _ _ _ h => h) (Or.inl ⟨by rfl, ?_⟩) (by assumption) ?_
      rotate_left
      · (intro w hSw; (try dsimp only at hSw); go_simp); first | done | with_reducible rfl
      simp only [Act.put, List.setIfInBounds_toArray]
      refine wpAnyH_done (by kernel_rfl) ?_ _
      clear hHeld
      go_wp2_with fail
      go_roundw
      case rel => exact ⟨t + 1, b4, q4, b6, q6, by omega, rfl, rfl, by first | rfl | (rw [hwn]) | (congr 1; omega), (by show Hh _ _ _ _ _ _ _ _ _ _; rw [numsF_succ, HTk.out]; exact HH6.out)⟩
      case measure => simp only [intOf]; first | exact HMs.out | (have := HMs.out; omega)
    · obtain rfl : t = N := by omega
      have hlt1 : ¬ (f0 + (t : Int) < s + (A.length : Int)) := by have := HN.out; omega
      go_wp2_with fail
      refine (rnext_any _ (HL.out.on (HH.out.bl.block g HL.out.lt) (fun ad e => HH.out.bl.block ad.block (HL.out.row ad e).2)) HD.out).mono ?_
      rintro e w3 ⟨rfl, q3, hw3⟩
      have HH3 := hide (HH.out.below (hw3 ▸ below_drewN wr q3))
      clear hw3 HH
      go_wp2_with fail
      go_ret2
      exact ⟨_, _, _, _, rfl, HH3.out.r1, HH3.out.r2, HH3.out.bl⟩
end Go.Proofs.Ytgnclfeicgbjpaa
