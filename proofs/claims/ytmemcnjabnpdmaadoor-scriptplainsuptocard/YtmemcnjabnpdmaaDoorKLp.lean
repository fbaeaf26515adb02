/- ScriptPlains: the law. -/
import Derived.Test.YtmemcnjabnpdmaaDoorKRp
import Derived.Test.YtmemcnjabnpdmaaDoorKAw
import Derived.OrdersHeld
namespace Go.Proofs.YtmemcnjabnpdmaaDoor
open Go.RowKit T Y V
variable {w w' w2 : World} {g : Nat}
attribute [local go_sem ↓] ldSh_eq stSh_eq ldO_eq stO_eq

def plO : Sp := ⟨11, 9, 0, 0, ⟨#[]⟩, 0, -3⟩
theorem pl_ok : Ok plO := by
  have h : ∀ f, fdN plO f = 11 ∨ fdN plO f = 9 ∨ fdN plO f = 0 ∨ fdN plO f = -3 := by
    intro f
    unfold fdN
    simp only [plO]
    repeat' split
    all_goals simp
  exact ⟨fun f => by have := h f; omega, fun f => by have := h f; omega, by decide⟩
theorem pl_line : opT plO = [100, 101, 108, 105, 118, 101, 114, 32, 45, 51] := by
  have e3 : num (-3) = [45, 51] := by
    unfold num Lib.itoa
    rw [if_pos (by omega)]
    show 45 :: Lib.decDigits 3 = _
    rw [Lib.decDigits, dif_pos (by decide)]
    rfl
  have h1 : wrdL plO.kind = [100, 101, 108, 105, 118, 101, 114] := by decide
  have h2 : fdsL plO.kind = [110] := by decide
  unfold opT
  rw [h1, h2]
  simp [fdsT, fdT, fdN, plO, e3]
theorem pl_plain : plainP plO = ⟨11, 0, 0, 0, ⟨#[]⟩, 0, -3⟩ := by rfl
set_option maxRecDepth 100000 in
set_option maxHeartbeats 3200000 in
theorem plains_any (o : Sp) (w : World) (ho : Ok o) (hu : Un w) : Calls Tryd.prog 3 #[.agg (OC o)] w fun e w' => e = .returned (.bool true) ∧ Below w.heap.size w w' := by
  obtain ⟨w1, hw1⟩ : ∃ w1, w.alloc (.cells (OC o) 23) = w1 := ⟨_, rfl⟩
  have hx1 : OBox w1 w.heap.size o := by rw [← hw1]; exact OBox_new w o
  have hb1 : Below w.heap.size w w1 := by rw [← hw1]; exact below_new _ _
  have HX := hide hx1
  have HB := hide hb1
  have HU := hide hu
  have Ho := hide ho
  have HA := hide (fun v (h : Un v) => awake_any v h)
  obtain ⟨y, hy⟩ : ∃ y, y = bs [100, 101, 108, 105, 118, 101, 114, 32, 45, 51] := ⟨_, rfl⟩
  have hyq : (y.toList == [100, 101, 108, 105, 118, 101, 114, 32, 45, 51]) = true := by rw [hy, ByteArray.toList_eq, bs_list]; rfl
  have HP : Hid (∀ v, Un v → Calls Tryd.prog 9 #[.agg #[.int .i64 11, .int .i64 9, .int .i64 0, .int .i64 0, .string ⟨#[]⟩, .int .i64 0, .int .i64 (-3)]] v fun e w' => e = .returned (.string y) ∧ Below v.heap.size v w') := fun v hv => by
    have := printOp_any plO v pl_ok hv.t hv.s
    rw [pl_line, ← hy] at this
    exact this
  have HQ : Hid (∀ v, Un v → Calls Tryd.prog 10 #[.agg #[.int .i64 11, .int .i64 9, .int .i64 0, .int .i64 0, .string ⟨#[]⟩, .int .i64 0, .int .i64 (-3)]] v fun e w' => e = .returned (.agg (OC ⟨11, 0, 0, 0, ⟨#[]⟩, 0, -3⟩)) ∧ Below v.heap.size v w') := fun v hv => by
    have := plain_any plO v hv.s
    rw [pl_plain] at this
    exact this
  have heq : ∀ w, (Op.equalIn 10000 23 (.agg (OC ⟨11, 0, 0, 0, ⟨#[]⟩, 0, -3⟩)) (.agg #[.int .i64 11, .int .i64 0, .int .i64 0, .int .i64 0, .string ⟨#[]⟩, .int .i64 0, .int .i64 (-3)])).run Tryd.prog w = .ok true w := fun w => by
    have := run_eqO ⟨11, 0, 0, 0, ⟨#[]⟩, 0, -3⟩ ⟨11, 0, 0, 0, ⟨#[]⟩, 0, -3⟩ w
    rw [(eqO_iff _ _).2 rfl] at this
    exact this
  have hE : ∀ w, (Op.equalIn 10000 23 (.agg (OC (plainP o))) (.agg (OC (plainP o)))).run Tryd.prog w = .ok true w := fun w => by rw [run_eqO, (eqO_iff _ _).2 rfl]
  clear hx1 hb1 hu ho hy
  go_enter Tryd.func3, Tryd.ntmps3
  go_wp2_with (first | (go_at_call 8; refine (HA.out _ (HU.out.on HB.out)).mono ?_; rintro e q1 ⟨rfl, b1⟩; have HX1 := hide (HX.out.below b1); have HB1 := hide (HB.out.trans (b1.mono HB.out.size)); clear b1) | (go_at_call 9; refine (HP.out _ (HU.out.on HB1.out)).mono ?_; rintro e q2 ⟨rfl, b2⟩; have HX2 := hide (HX1.out.below b2); have HB2 := hide (HB1.out.trans (b2.mono HB1.out.size)); clear b2) | (go_at_call 10; refine (HQ.out _ (HU.out.on HB2.out)).mono ?_; rintro e q3 ⟨rfl, b3⟩; have HXq := hide (HX2.out.below b3); have HBq := hide (HB2.out.trans (b3.mono HB2.out.size)); clear b3))
  clear heq hyq HX1 HB1 HX2 HB2 HP HQ HA
  refine wp_region_held_drew (S := fun v => OBox v w.heap.size o) (by kernel_rfl) (HXq.out.below (below_drew1 _)) (fun hHeld => ?_)
  refine wpAnyH_take (i := 0) (oi := { dst := some 16, op := Op.load 23 (Operand.tmp 1), type := 23, pos := "law.go:21", after := #[], guard := none }) (v := ?_) rfl (by kernel_rfl) (by kernel_rfl) (by kernel_rfl) (fun _ _ _ h => h) (Or.inl ⟨by rfl, ?_⟩) (by assumption) ?_
  rotate_left
  · (intro w hSw; (try dsimp only at hSw); have hl := run_ldO hSw; go_simp); first | done | with_reducible rfl
  simp only [Act.put, List.setIfInBounds_toArray, List.set_cons_zero, List.set_cons_succ]
  refine wpAnyH_take (i := 2) (oi := { dst := some 18, op := Op.load 23 (Operand.tmp 1), type := 23, pos := "law.go:21", after := #[], guard := none }) (v := ?_) rfl (by kernel_rfl) (by kernel_rfl) (by kernel_rfl) (fun _ _ _ h => h) (Or.inl ⟨by rfl, ?_⟩) (by assumption) ?_
  rotate_left
  · (intro w hSw; (try dsimp only at hSw); have hl := run_ldO hSw; go_simp); first | done | with_reducible rfl
  simp only [Act.put, List.setIfInBounds_toArray, List.set_cons_zero, List.set_cons_succ]
  have HXd := hide (HXq.out.below (below_drew1 q3))
  have HBd := hide (HBq.out.trans ((below_drew1 q3).mono HBq.out.size))
  refine wpAnyH_ready (rs := [1]) (by kernel_rfl) (by simp) ?_
  refine AllReadyH.cons rfl (fun K hK => ?_) ?_
  rotate_left
  · exact AllReadyH.nil
  go_simp
  go_wp2_with fail
  refine (plain_any o q3.drew (HU.out.on HBd.out).s).mono ?_
  rintro e v0 ⟨rfl, c0⟩
  have HXv0 := hide (HXd.out.below c0)
  have HBv0 := hide (HBd.out.trans (c0.mono HBd.out.size))
  refine hK.out _ _ HXv0.out (fun hHeld => ?_)
  clear hK K
  refine wpAnyH_ready (rs := [3]) (by kernel_rfl) (by simp) ?_
  refine AllReadyH.cons rfl (fun K hK => ?_) ?_
  rotate_left
  · exact AllReadyH.nil
  go_simp
  go_wp2_with fail
  refine (rplain_any o v0).mono ?_
  rintro e v1 ⟨rfl, c1⟩
  have HXv1 := hide (HXv0.out.below c1)
  have HBv1 := hide (HBv0.out.trans (c1.mono HBv0.out.size))
  refine hK.out _ _ HXv1.out (fun hHeld => ?_)
  clear hK K
  refine wpAnyH_take (i := 4) (oi := { dst := some 20, op := Op.binOp BinOp.eql 23 (Operand.tmp 17) (Operand.tmp 19) 23, type := 4, pos := "law.go:21", after := #[{ on := 1, ground := Ground.data }, { on := 3, ground := Ground.data }], guard := none }) (v := ?_) rfl (by kernel_rfl) (by kernel_rfl) (by kernel_rfl) (fun _ _ _ h => h) (Or.inl ⟨by rfl, ?_⟩) (by assumption) ?_
  rotate_left
  · (intro w hSw; (try dsimp only at hSw); have hl := hE w; go_simp); first | done | with_reducible rfl
  simp only [Act.put, List.setIfInBounds_toArray, List.set_cons_zero, List.set_cons_succ]
  refine wpAnyH_take (i := 5) (oi := { dst := some 21, op := Op.move (Operand.tmp 20), type := 4, pos := "law.go:21", after := #[{ on := 4, ground := Ground.data }, { on := 3, ground := Ground.chain }], guard := none }) (v := ?_) rfl (by kernel_rfl) (by kernel_rfl) (by kernel_rfl) (fun _ _ _ h => h) (Or.inl ⟨by rfl, ?_⟩) (by assumption) ?_
  rotate_left
  · (intro w hSw; (try dsimp only at hSw); go_simp); first | done | with_reducible rfl
  simp only [Act.put, List.setIfInBounds_toArray, List.set_cons_zero, List.set_cons_succ]
  refine wpAnyH_take (i := 6) (oi := { dst := some 22, op := Op.load 23 (Operand.tmp 1), type := 23, pos := "law.go:21", after := #[{ on := 5, ground := Ground.guard }], guard := some (5, true) }) (v := ?_) rfl (by kernel_rfl) (by kernel_rfl) (by kernel_rfl) (fun _ _ _ h => h) (Or.inl ⟨by rfl, ?_⟩) (by assumption) ?_
  rotate_left
  · (intro w hSw; (try dsimp only at hSw); have hl := run_ldO hSw; go_simp); first | done | with_reducible rfl
  simp only [Act.put, List.setIfInBounds_toArray, List.set_cons_zero, List.set_cons_succ]
  refine wpAnyH_take (i := 8) (oi := { dst := some 24, op := Op.load 23 (Operand.tmp 1), type := 23, pos := "law.go:21", after := #[{ on := 5, ground := Ground.guard }], guard := some (5, true) }) (v := ?_) rfl (by kernel_rfl) (by kernel_rfl) (by kernel_rfl) (fun _ _ _ h => h) (Or.inl ⟨by rfl, ?_⟩) (by assumption) ?_
  rotate_left
  · (intro w hSw; (try dsimp only at hSw); have hl := run_ldO hSw; go_simp); first | done | with_reducible rfl
  simp only [Act.put, List.setIfInBounds_toArray, List.set_cons_zero, List.set_cons_succ]
  refine wpAnyH_ready (rs := [7]) (by kernel_rfl) (by simp) ?_
  refine AllReadyH.cons rfl (fun K hK => ?_) ?_
  rotate_left
  · exact AllReadyH.nil
  go_simp
  go_wp2_with fail
  refine (printOp_any o v1 Ho.out (HU.out.on HBv1.out).t (HU.out.on HBv1.out).s).mono ?_
  rintro e v2 ⟨rfl, c2⟩
  have HXv2 := hide (HXv1.out.below c2)
  have HBv2 := hide (HBv1.out.trans (c2.mono HBv1.out.size))
  refine hK.out _ _ HXv2.out (fun hHeld => ?_)
  clear hK K
  refine wpAnyH_ready (rs := [9]) (by kernel_rfl) (by simp) ?_
  refine AllReadyH.cons rfl (fun K hK => ?_) ?_
  rotate_left
  · exact AllReadyH.nil
  go_simp
  go_wp2_with fail
  refine (rprintOp_any o v2 Ho.out).mono ?_
  rintro e v3 ⟨rfl, c3⟩
  have HXv3 := hide (HXv2.out.below c3)
  have HBv3 := hide (HBv2.out.trans (c3.mono HBv2.out.size))
  refine hK.out _ _ HXv3.out (fun hHeld => ?_)
  clear hK K
  refine wpAnyH_take (i := 10) (oi := { dst := some 26, op := Op.binOp BinOp.eql 9 (Operand.tmp 23) (Operand.tmp 25) 9, type := 4, pos := "law.go:21", after := #[{ on := 7, ground := Ground.data }, { on := 9, ground := Ground.data }, { on := 5, ground := Ground.guard }], guard := some (5, true) }) (v := ?_) rfl (by kernel_rfl) (by kernel_rfl) (by kernel_rfl) (fun _ _ _ h => h) (Or.inl ⟨by rfl, ?_⟩) (by assumption) ?_
  rotate_left
  · (intro w hSw; (try dsimp only at hSw); go_simp); first | done | with_reducible rfl
  simp only [Act.put, List.setIfInBounds_toArray, List.set_cons_zero, List.set_cons_succ]
  refine wpAnyH_take (i := 11) (oi := { dst := some 27, op := Op.pick (Operand.tmp 21) (Operand.tmp 26) (Operand.const (Value.bool false)), type := 4, pos := "law.go:21", after := #[{ on := 5, ground := Ground.data }, { on := 10, ground := Ground.data }], guard := none }) (v := ?_) rfl (by kernel_rfl) (by kernel_rfl) (by kernel_rfl) (fun _ _ _ h => h) (Or.inl ⟨by rfl, ?_⟩) (by assumption) ?_
  rotate_left
  · (intro w hSw; (try dsimp only at hSw); go_simp); first | done | with_reducible rfl
  simp only [Act.put, List.setIfInBounds_toArray, List.set_cons_zero, List.set_cons_succ]
  refine wpAnyH_take (i := 12) (oi := { dst := some 2, op := Op.assign (Operand.tmp 27), type := 4, pos := "law.go:21", after := #[{ on := 11, ground := Ground.data }, { on := 9, ground := Ground.chain }, { on := 0, ground := Ground.phase }, { on := 1, ground := Ground.phase }, { on := 2, ground := Ground.phase }, { on := 3, ground := Ground.phase }, { on := 4, ground := Ground.phase }, { on := 5, ground := Ground.phase }, { on := 6, ground := Ground.phase }, { on := 7, ground := Ground.phase }, { on := 8, ground := Ground.phase }, { on := 9, ground := Ground.phase }, { on := 10, ground := Ground.phase }, { on := 11, ground := Ground.phase }], guard := none }) (v := ?_) rfl (by kernel_rfl) (by kernel_rfl) (by kernel_rfl) (fun _ _ _ h => h) (Or.inl ⟨by rfl, ?_⟩) (by assumption) ?_
  rotate_left
  · (intro w hSw; (try dsimp only at hSw); go_simp); first | done | with_reducible rfl
  simp only [Act.put, List.setIfInBounds_toArray, List.set_cons_zero, List.set_cons_succ]
  refine wpAnyH_done (by kernel_rfl) ?_ _
  clear hHeld
  go_wp2_with fail
  go_ret
  exact ⟨rfl, HBv3.out⟩
end Go.Proofs.YtmemcnjabnpdmaaDoor
