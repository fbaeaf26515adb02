/- ScriptOne: the law. -/
import Derived.Test.YtmemcnjabnpdmaaDoorKAw
import Derived.OrdersHeld
namespace Go.Proofs.YtmemcnjabnpdmaaDoor
open Go.RowKit T Y V
variable {w w' w2 : World} {g : Nat}
attribute [local go_sem ↓] ldSh_eq stSh_eq ldO_eq stO_eq

set_option maxRecDepth 100000 in
set_option maxHeartbeats 3200000 in
theorem one_any (a b : Sp) (w : World) (ha : Ok a) (hb : Ok b) (hu : Un w) : Calls Tryd.prog 6 #[.agg (OC a), .agg (OC b)] w fun e w' => e = .returned (.bool true) ∧ Below w.heap.size w w' := by
  obtain ⟨w1, hw1⟩ : ∃ w1, w.alloc (.cells (OC a) 23) = w1 := ⟨_, rfl⟩
  have hx1 : OBox w1 w.heap.size a := by rw [← hw1]; exact OBox_new w a
  have hb1 : Below w.heap.size w w1 := by rw [← hw1]; exact below_new _ _
  have hz1 : w1.heap.size = w.heap.size + 1 := by rw [← hw1]; simp
  obtain ⟨w2, hw2⟩ : ∃ w2, w1.alloc (.cells (OC b) 23) = w2 := ⟨_, rfl⟩
  have hy2 : OBox w2 (w.heap.size + 1) b := by rw [← hw2, ← hz1]; exact OBox_new w1 b
  have hb2 : Below w1.heap.size w1 w2 := by rw [← hw2]; exact below_new _ _
  have HX := hide (hx1.below hb2)
  have HY := hide hy2
  have HB := hide (hb1.trans (hb2.mono hb1.size))
  have HU := hide hu
  have Ha := hide ha
  have Hb := hide hb
  have HA := hide (fun v (h : Un v) => awake_any v h)
  have Hlp := hide (line_plain a b ha hb)
  clear hx1 hb1 hy2 hb2 hu ha hb
  by_cases h : opT a = opT b
  · have hq := bs_eqB _ _ h
    have hE : ∀ w, (Op.equalIn 10000 23 (.agg (OC (plainP a))) (.agg (OC (plainP b)))).run Tryd.prog w = .ok true w := fun w => by rw [run_eqO, (eqO_iff _ _).2 (Hlp.out.1 h)]
    clear h
    go_enter Tryd.func6, Tryd.ntmps6
    go_wp2_with (go_at_call 8; refine (HA.out _ (HU.out.on HB.out)).mono ?_; rintro e w3 ⟨rfl, b3⟩; have HX3 := hide (HX.out.below b3); have HY3 := hide (HY.out.below b3); have HB3 := hide (HB.out.trans (b3.mono HB.out.size)); clear b3)
    refine wp_region_held_drew (S := fun v => OBox v w.heap.size a ∧ OBox v (w.heap.size + 1) b) (by kernel_rfl) (⟨HX3.out.below (below_drew1 _), HY3.out.below (below_drew1 _)⟩) (fun hHeld => ?_)
    refine wpAnyH_take (i := 0) (oi := { dst := some 7, op := Op.load 23 (Operand.tmp 2), type := 23, pos := "outright.go:35", after := #[], guard := none }) (v := ?_) rfl (by kernel_rfl) (by kernel_rfl) (by kernel_rfl) (fun _ _ _ h => h) (Or.inl ⟨by rfl, ?_⟩) (by assumption) ?_
    rotate_left
    · (intro w hSw; (try dsimp only at hSw); have hl := run_ldO hSw.1; go_simp); first | done | with_reducible rfl
    simp only [Act.put, List.setIfInBounds_toArray, List.set_cons_zero, List.set_cons_succ]
    refine wpAnyH_take (i := 2) (oi := { dst := some 9, op := Op.load 23 (Operand.tmp 3), type := 23, pos := "outright.go:35", after := #[], guard := none }) (v := ?_) rfl (by kernel_rfl) (by kernel_rfl) (by kernel_rfl) (fun _ _ _ h => h) (Or.inl ⟨by rfl, ?_⟩) (by assumption) ?_
    rotate_left
    · (intro w hSw; (try dsimp only at hSw); have hl := run_ldO hSw.2; go_simp); first | done | with_reducible rfl
    simp only [Act.put, List.setIfInBounds_toArray, List.set_cons_zero, List.set_cons_succ]
    refine wpAnyH_take (i := 5) (oi := { dst := some 12, op := Op.load 23 (Operand.tmp 2), type := 23, pos := "outright.go:35", after := #[], guard := none }) (v := ?_) rfl (by kernel_rfl) (by kernel_rfl) (by kernel_rfl) (fun _ _ _ h => h) (Or.inl ⟨by rfl, ?_⟩) (by assumption) ?_
    rotate_left
    · (intro w hSw; (try dsimp only at hSw); have hl := run_ldO hSw.1; go_simp); first | done | with_reducible rfl
    simp only [Act.put, List.setIfInBounds_toArray, List.set_cons_zero, List.set_cons_succ]
    refine wpAnyH_take (i := 7) (oi := { dst := some 14, op := Op.load 23 (Operand.tmp 3), type := 23, pos := "outright.go:35", after := #[], guard := none }) (v := ?_) rfl (by kernel_rfl) (by kernel_rfl) (by kernel_rfl) (fun _ _ _ h => h) (Or.inl ⟨by rfl, ?_⟩) (by assumption) ?_
    rotate_left
    · (intro w hSw; (try dsimp only at hSw); have hl := run_ldO hSw.2; go_simp); first | done | with_reducible rfl
    simp only [Act.put, List.setIfInBounds_toArray, List.set_cons_zero, List.set_cons_succ]
    have HXd := hide (HX3.out.below (below_drew1 w3))
    have HYd := hide (HY3.out.below (below_drew1 w3))
    have HBd := hide (HB3.out.trans ((below_drew1 w3).mono HB3.out.size))
    refine wpAnyH_ready (rs := [1]) (by kernel_rfl) (by simp) ?_
    refine AllReadyH.cons rfl (fun K hK => ?_) ?_
    rotate_left
    · exact AllReadyH.nil
    go_simp
    go_wp2_with fail
    refine (printOp_any a w3.drew Ha.out (HU.out.on HBd.out).t (HU.out.on HBd.out).s).mono ?_
    rintro e v0 ⟨rfl, c0⟩
    have HX10 := hide (HXd.out.below c0)
    have HY10 := hide (HYd.out.below c0)
    have HB10 := hide (HBd.out.trans (c0.mono HBd.out.size))
    refine hK.out _ _ ⟨HX10.out, HY10.out⟩ (fun hHeld => ?_)
    clear hK K
    refine wpAnyH_ready (rs := [3]) (by kernel_rfl) (by simp) ?_
    refine AllReadyH.cons rfl (fun K hK => ?_) ?_
    rotate_left
    · exact AllReadyH.nil
    go_simp
    go_wp2_with fail
    refine (printOp_any b v0 Hb.out (HU.out.on HB10.out).t (HU.out.on HB10.out).s).mono ?_
    rintro e v1 ⟨rfl, c1⟩
    have HX11 := hide (HX10.out.below c1)
    have HY11 := hide (HY10.out.below c1)
    have HB11 := hide (HB10.out.trans (c1.mono HB10.out.size))
    refine hK.out _ _ ⟨HX11.out, HY11.out⟩ (fun hHeld => ?_)
    clear hK K
    refine wpAnyH_take (i := 4) (oi := { dst := some 11, op := Op.binOp BinOp.eql 9 (Operand.tmp 8) (Operand.tmp 10) 9, type := 4, pos := "outright.go:35", after := #[{ on := 1, ground := Ground.data }, { on := 3, ground := Ground.data }], guard := none }) (v := ?_) rfl (by kernel_rfl) (by kernel_rfl) (by kernel_rfl) (fun _ _ _ h => h) (Or.inl ⟨by rfl, ?_⟩) (by assumption) ?_
    rotate_left
    · (intro w hSw; (try dsimp only at hSw); go_simp; (try simp only [hq]); go_simp); first | done | with_reducible rfl
    simp only [Act.put, List.setIfInBounds_toArray, List.set_cons_zero, List.set_cons_succ]
    refine wpAnyH_ready (rs := [6]) (by kernel_rfl) (by simp) ?_
    refine AllReadyH.cons rfl (fun K hK => ?_) ?_
    rotate_left
    · exact AllReadyH.nil
    go_simp
    go_wp2_with fail
    refine (plain_any a v1 (HU.out.on HB11.out).s).mono ?_
    rintro e v2 ⟨rfl, c2⟩
    have HX12 := hide (HX11.out.below c2)
    have HY12 := hide (HY11.out.below c2)
    have HB12 := hide (HB11.out.trans (c2.mono HB11.out.size))
    refine hK.out _ _ ⟨HX12.out, HY12.out⟩ (fun hHeld => ?_)
    clear hK K
    refine wpAnyH_ready (rs := [8]) (by kernel_rfl) (by simp) ?_
    refine AllReadyH.cons rfl (fun K hK => ?_) ?_
    rotate_left
    · exact AllReadyH.nil
    go_simp
    go_wp2_with fail
    refine (plain_any b v2 (HU.out.on HB12.out).s).mono ?_
    rintro e v3 ⟨rfl, c3⟩
    have HX13 := hide (HX12.out.below c3)
    have HY13 := hide (HY12.out.below c3)
    have HB13 := hide (HB12.out.trans (c3.mono HB12.out.size))
    refine hK.out _ _ ⟨HX13.out, HY13.out⟩ (fun hHeld => ?_)
    clear hK K
    refine wpAnyH_take (i := 9) (oi := { dst := some 16, op := Op.binOp BinOp.eql 23 (Operand.tmp 13) (Operand.tmp 15) 23, type := 4, pos := "outright.go:35", after := #[{ on := 6, ground := Ground.data }, { on := 8, ground := Ground.data }], guard := none }) (v := ?_) rfl (by kernel_rfl) (by kernel_rfl) (by kernel_rfl) (fun _ _ _ h => h) (Or.inl ⟨by rfl, ?_⟩) (by assumption) ?_
    rotate_left
    · (intro w hSw; (try dsimp only at hSw); have hl := hE w; go_simp); first | done | with_reducible rfl
    simp only [Act.put, List.setIfInBounds_toArray, List.set_cons_zero, List.set_cons_succ]
    refine wpAnyH_take (i := 10) (oi := { dst := some 17, op := Op.binOp BinOp.eql 4 (Operand.tmp 11) (Operand.tmp 16) 4, type := 4, pos := "outright.go:35", after := #[{ on := 4, ground := Ground.data }, { on := 9, ground := Ground.data }], guard := none }) (v := ?_) rfl (by kernel_rfl) (by kernel_rfl) (by kernel_rfl) (fun _ _ _ h => h) (Or.inl ⟨by rfl, ?_⟩) (by assumption) ?_
    rotate_left
    · (intro w hSw; (try dsimp only at hSw); go_simp); first | done | with_reducible rfl
    simp only [Act.put, List.setIfInBounds_toArray, List.set_cons_zero, List.set_cons_succ]
    refine wpAnyH_take (i := 11) (oi := { dst := some 4, op := Op.assign (Operand.tmp 17), type := 4, pos := "outright.go:35", after := #[{ on := 10, ground := Ground.data }, { on := 8, ground := Ground.chain }, { on := 0, ground := Ground.phase }, { on := 1, ground := Ground.phase }, { on := 2, ground := Ground.phase }, { on := 3, ground := Ground.phase }, { on := 4, ground := Ground.phase }, { on := 5, ground := Ground.phase }, { on := 6, ground := Ground.phase }, { on := 7, ground := Ground.phase }, { on := 8, ground := Ground.phase }, { on := 9, ground := Ground.phase }, { on := 10, ground := Ground.phase }], guard := none }) (v := ?_) rfl (by kernel_rfl) (by kernel_rfl) (by kernel_rfl) (fun _ _ _ h => h) (Or.inl ⟨by rfl, ?_⟩) (by assumption) ?_
    rotate_left
    · (intro w hSw; (try dsimp only at hSw); go_simp); first | done | with_reducible rfl
    simp only [Act.put, List.setIfInBounds_toArray, List.set_cons_zero, List.set_cons_succ]
    refine wpAnyH_done (by kernel_rfl) ?_ _
    clear hHeld
    go_wp2_with fail
    go_ret
    exact ⟨rfl, HB13.out⟩
  · have hq := bs_neB _ _ h
    have hE : ∀ w, (Op.equalIn 10000 23 (.agg (OC (plainP a))) (.agg (OC (plainP b)))).run Tryd.prog w = .ok false w := fun w => by
      rw [run_eqO]
      cases he : eqO (plainP a) (plainP b) with
      | false => rfl
      | true => exact absurd (Hlp.out.2 ((eqO_iff _ _).1 he)) h
    clear h
    go_enter Tryd.func6, Tryd.ntmps6
    go_wp2_with (go_at_call 8; refine (HA.out _ (HU.out.on HB.out)).mono ?_; rintro e w3 ⟨rfl, b3⟩; have HX3 := hide (HX.out.below b3); have HY3 := hide (HY.out.below b3); have HB3 := hide (HB.out.trans (b3.mono HB.out.size)); clear b3)
    refine wp_region_held_drew (S := fun v => OBox v w.heap.size a ∧ OBox v (w.heap.size + 1) b) (by kernel_rfl) (⟨HX3.out.below (below_drew1 _), HY3.out.below (below_drew1 _)⟩) (fun hHeld => ?_)
    refine wpAnyH_take (i := 0) (oi := { dst := some 7, op := Op.load 23 (Operand.tmp 2), type := 23, pos := "outright.go:35", after := #[], guard := none }) (v := ?_) rfl (by kernel_rfl) (by kernel_rfl) (by kernel_rfl) (fun _ _ _ h => h) (Or.inl ⟨by rfl, ?_⟩) (by assumption) ?_
    rotate_left
    · (intro w hSw; (try dsimp only at hSw); have hl := run_ldO hSw.1; go_simp); first | done | with_reducible rfl
    simp only [Act.put, List.setIfInBounds_toArray, List.set_cons_zero, List.set_cons_succ]
    refine wpAnyH_take (i := 2) (oi := { dst := some 9, op := Op.load 23 (Operand.tmp 3), type := 23, pos := "outright.go:35", after := #[], guard := none }) (v := ?_) rfl (by kernel_rfl) (by kernel_rfl) (by kernel_rfl) (fun _ _ _ h => h) (Or.inl ⟨by rfl, ?_⟩) (by assumption) ?_
    rotate_left
    · (intro w hSw; (try dsimp only at hSw); have hl := run_ldO hSw.2; go_simp); first | done | with_reducible rfl
    simp only [Act.put, List.setIfInBounds_toArray, List.set_cons_zero, List.set_cons_succ]
    refine wpAnyH_take (i := 5) (oi := { dst := some 12, op := Op.load 23 (Operand.tmp 2), type := 23, pos := "outright.go:35", after := #[], guard := none }) (v := ?_) rfl (by kernel_rfl) (by kernel_rfl) (by kernel_rfl) (fun _ _ _ h => h) (Or.inl ⟨by rfl, ?_⟩) (by assumption) ?_
    rotate_left
    · (intro w hSw; (try dsimp only at hSw); have hl := run_ldO hSw.1; go_simp); first | done | with_reducible rfl
    simp only [Act.put, List.setIfInBounds_toArray, List.set_cons_zero, List.set_cons_succ]
    refine wpAnyH_take (i := 7) (oi := { dst := some 14, op := Op.load 23 (Operand.tmp 3), type := 23, pos := "outright.go:35", after := #[], guard := none }) (v := ?_) rfl (by kernel_rfl) (by kernel_rfl) (by kernel_rfl) (fun _ _ _ h => h) (Or.inl ⟨by rfl, ?_⟩) (by assumption) ?_
    rotate_left
    · (intro w hSw; (try dsimp only at hSw); have hl := run_ldO hSw.2; go_simp); first | done | with_reducible rfl
    simp only [Act.put, List.setIfInBounds_toArray, List.set_cons_zero, List.set_cons_succ]
    have HXd := hide (HX3.out.below (below_drew1 w3))
    have HYd := hide (HY3.out.below (below_drew1 w3))
    have HBd := hide (HB3.out.trans ((below_drew1 w3).mono HB3.out.size))
    refine wpAnyH_ready (rs := [1]) (by kernel_rfl) (by simp) ?_
    refine AllReadyH.cons rfl (fun K hK => ?_) ?_
    rotate_left
    · exact AllReadyH.nil
    go_simp
    go_wp2_with fail
    refine (printOp_any a w3.drew Ha.out (HU.out.on HBd.out).t (HU.out.on HBd.out).s).mono ?_
    rintro e v0 ⟨rfl, c0⟩
    have HX10 := hide (HXd.out.below c0)
    have HY10 := hide (HYd.out.below c0)
    have HB10 := hide (HBd.out.trans (c0.mono HBd.out.size))
    refine hK.out _ _ ⟨HX10.out, HY10.out⟩ (fun hHeld => ?_)
    clear hK K
    refine wpAnyH_ready (rs := [3]) (by kernel_rfl) (by simp) ?_
    refine AllReadyH.cons rfl (fun K hK => ?_) ?_
    rotate_left
    · exact AllReadyH.nil
    go_simp
    go_wp2_with fail
    refine (printOp_any b v0 Hb.out (HU.out.on HB10.out).t (HU.out.on HB10.out).s).mono ?_
    rintro e v1 ⟨rfl, c1⟩
    have HX11 := hide (HX10.out.below c1)
    have HY11 := hide (HY10.out.below c1)
    have HB11 := hide (HB10.out.trans (c1.mono HB10.out.size))
    refine hK.out _ _ ⟨HX11.out, HY11.out⟩ (fun hHeld => ?_)
    clear hK K
    refine wpAnyH_take (i := 4) (oi := { dst := some 11, op := Op.binOp BinOp.eql 9 (Operand.tmp 8) (Operand.tmp 10) 9, type := 4, pos := "outright.go:35", after := #[{ on := 1, ground := Ground.data }, { on := 3, ground := Ground.data }], guard := none }) (v := ?_) rfl (by kernel_rfl) (by kernel_rfl) (by kernel_rfl) (fun _ _ _ h => h) (Or.inl ⟨by rfl, ?_⟩) (by assumption) ?_
    rotate_left
    · (intro w hSw; (try dsimp only at hSw); go_simp; (try simp only [hq]); go_simp); first | done | with_reducible rfl
    simp only [Act.put, List.setIfInBounds_toArray, List.set_cons_zero, List.set_cons_succ]
    refine wpAnyH_ready (rs := [6]) (by kernel_rfl) (by simp) ?_
    refine AllReadyH.cons rfl (fun K hK => ?_) ?_
    rotate_left
    · exact AllReadyH.nil
    go_simp
    go_wp2_with fail
    refine (plain_any a v1 (HU.out.on HB11.out).s).mono ?_
    rintro e v2 ⟨rfl, c2⟩
    have HX12 := hide (HX11.out.below c2)
    have HY12 := hide (HY11.out.below c2)
    have HB12 := hide (HB11.out.trans (c2.mono HB11.out.size))
    refine hK.out _ _ ⟨HX12.out, HY12.out⟩ (fun hHeld => ?_)
    clear hK K
    refine wpAnyH_ready (rs := [8]) (by kernel_rfl) (by simp) ?_
    refine AllReadyH.cons rfl (fun K hK => ?_) ?_
    rotate_left
    · exact AllReadyH.nil
    go_simp
    go_wp2_with fail
    refine (plain_any b v2 (HU.out.on HB12.out).s).mono ?_
    rintro e v3 ⟨rfl, c3⟩
    have HX13 := hide (HX12.out.below c3)
    have HY13 := hide (HY12.out.below c3)
    have HB13 := hide (HB12.out.trans (c3.mono HB12.out.size))
    refine hK.out _ _ ⟨HX13.out, HY13.out⟩ (fun hHeld => ?_)
    clear hK K
    refine wpAnyH_take (i := 9) (oi := { dst := some 16, op := Op.binOp BinOp.eql 23 (Operand.tmp 13) (Operand.tmp 15) 23, type := 4, pos := "outright.go:35", after := #[{ on := 6, ground := Ground.data }, { on := 8, ground := Ground.data }], guard := none }) (v := ?_) rfl (by kernel_rfl) (by kernel_rfl) (by kernel_rfl) (fun _ _ _ h => h) (Or.inl ⟨by rfl, ?_⟩) (by assumption) ?_
    rotate_left
    · (intro w hSw; (try dsimp only at hSw); have hl := hE w; go_simp); first | done | with_reducible rfl
    simp only [Act.put, List.setIfInBounds_toArray, List.set_cons_zero, List.set_cons_succ]
    refine wpAnyH_take (i := 10) (oi := { dst := some 17, op := Op.binOp BinOp.eql 4 (Operand.tmp 11) (Operand.tmp 16) 4, type := 4, pos := "outright.go:35", after := #[{ on := 4, ground := Ground.data }, { on := 9, ground := Ground.data }], guard := none }) (v := ?_) rfl (by kernel_rfl) (by kernel_rfl) (by kernel_rfl) (fun _ _ _ h => h) (Or.inl ⟨by rfl, ?_⟩) (by assumption) ?_
    rotate_left
    · (intro w hSw; (try dsimp only at hSw); go_simp); first | done | with_reducible rfl
    simp only [Act.put, List.setIfInBounds_toArray, List.set_cons_zero, List.set_cons_succ]
    refine wpAnyH_take (i := 11) (oi := { dst := some 4, op := Op.assign (Operand.tmp 17), type := 4, pos := "outright.go:35", after := #[{ on := 10, ground := Ground.data }, { on := 8, ground := Ground.chain }, { on := 0, ground := Ground.phase }, { on := 1, ground := Ground.phase }, { on := 2, ground := Ground.phase }, { on := 3, ground := Ground.phase }, { on := 4, ground := Ground.phase }, { on := 5, ground := Ground.phase }, { on := 6, ground := Ground.phase }, { on := 7, ground := Ground.phase }, { on := 8, ground := Ground.phase }, { on := 9, ground := Ground.phase }, { on := 10, ground := Ground.phase }], guard := none }) (v := ?_) rfl (by kernel_rfl) (by kernel_rfl) (by kernel_rfl) (fun _ _ _ h => h) (Or.inl ⟨by rfl, ?_⟩) (by assumption) ?_
    rotate_left
    · (intro w hSw; (try dsimp only at hSw); go_simp); first | done | with_reducible rfl
    simp only [Act.put, List.setIfInBounds_toArray, List.set_cons_zero, List.set_cons_succ]
    refine wpAnyH_done (by kernel_rfl) ?_ _
    clear hHeld
    go_wp2_with fail
    go_ret
    exact ⟨rfl, HB13.out⟩
end Go.Proofs.YtmemcnjabnpdmaaDoor
