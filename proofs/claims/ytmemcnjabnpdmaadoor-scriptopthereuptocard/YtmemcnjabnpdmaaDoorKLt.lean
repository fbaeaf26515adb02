/- ScriptOpThere: the law. -/
import Derived.Test.YtmemcnjabnpdmaaDoorKAw
import Derived.OrdersHeld
namespace Go.Proofs.YtmemcnjabnpdmaaDoor
open Go.RowKit T Y V
variable {w w' w2 : World} {g : Nat}
attribute [local go_sem ↓] ldSh_eq stSh_eq ldO_eq stO_eq

set_option maxRecDepth 100000 in
set_option maxHeartbeats 3200000 in
theorem opThere_any (o : Sp) (w : World) (ho : Ok o) (hsk : o.sku.size ≤ 10000000) (hu : Un w) : Calls Tryd.prog 5 #[.agg (OC o)] w fun e w' => e = .returned (.bool true) ∧ Below w.heap.size w w' := by
  obtain ⟨w1, hw1⟩ : ∃ w1, w.alloc (.cells (OC o) 23) = w1 := ⟨_, rfl⟩
  have hx1 : OBox w1 w.heap.size o := by rw [← hw1]; exact OBox_new w o
  have hb1 : Below w.heap.size w w1 := by rw [← hw1]; exact below_new _ _
  have HX := hide hx1
  have HB := hide hb1
  have HU := hide hu
  have HA := hide (fun v (h : Un v) => awake_any v h)
  have HP := hide (fun v (h : Sht v) => plain_any o v h)
  have hpp := fun v (h : Sht v) => plain_any (plainP o) v h
  rw [plain_plain o ho] at hpp
  have HPP := hide hpp
  have HQ := hide (fun v (h : Tab v) (h2 : Sht v) => printOp_any o v ho h h2)
  have hqq := fun v (h : Tab v) (h2 : Sht v) => printOp_any (plainP o) v (plain_ok o ho) h h2
  rw [plain_line] at hqq
  have HQQ := hide hqq
  have hkd := plain_kind o
  have hE : ∀ w, (Op.equalIn 10000 23 (.agg (OC (plainP o))) (.agg (OC (plainP o)))).run Tryd.prog w = .ok true w := fun w => by rw [run_eqO, (eqO_iff _ _).2 rfl]
  have HLb := hide (line_bytes o)
  have HLn := hide (ho.opT)
  have Hsk := hide hsk
  have HPa : Hid (∀ v, Un v → Calls Tryd.prog 16 #[.string (bs (opT o))] v fun e w' => e = .returned (.tuple #[.agg (OC (plainP o)), .int .i64 0]) ∧ Below v.heap.size v w') := fun v hv => by
    refine (parseOp_any (opT o) (by have := ho.opT; have := Hsk.out; omega) v hv.t hv.s hv.e).mono ?_
    rintro e w' ⟨h, hb⟩
    unfold PoA at h
    rw [parse_print o ho] at h
    exact ⟨h, hb⟩
  clear hx1 hb1 hu ho hpp hqq hsk
  obtain ⟨s, hs⟩ : ∃ s, bs (opT o) = s := ⟨_, rfl⟩
  have hsz : s.size = (opT o).length := by rw [← hs, bs_size]
  have hsb : s.size ≤ 1000000000000 := by have := HLn.out; have := Hsk.out; omega
  have HG : Hid (∀ k (h : k < s.size), 32 ≤ (s[k]).toNat ∧ (s[k]).toNat ≤ 126) := by
    intro k hk
    subst hs
    rw [bs_get]
    refine HLb.out _ ?_
    have hk2 : k < (opT o).length := by omega
    simp [List.getD, hk2]
  rw [hs] at HQ HQQ HPa
  clear hs hsz HLn Hsk HLb
  go_enter Tryd.func5, Tryd.ntmps5
  go_wp2_with (first | (go_at_call 8; refine (HA.out _ (HU.out.on HB.out)).mono ?_; rintro e w3 ⟨rfl, b3⟩; have hx3 := HX.out.below b3; have hld3 := run_ldO hx3; have HX3 := hide hx3; have HB3 := hide (HB.out.trans (b3.mono HB.out.size)); clear b3 hx3) | (go_at_call 10; refine (HP.out _ (HU.out.on HB3.out).s).mono ?_; rintro e w4 ⟨rfl, b4⟩; obtain ⟨w5, hst, hy5, hb5, -⟩ := madeO w4 (plainP o) w4.heap.size rfl; have hst' : (stO (.pointer (some ⟨w4.heap.size, 0, none⟩)) (.agg (OC (plainP o)))).run Tryd.prog (w4.alloc (.cells #[.int .i64 0, .int .i64 0, .int .i64 0, .int .i64 0, .string ⟨#[]⟩, .int .i64 0, .int .i64 0] 23)) = .ok () w5 := hst; have hx5 := (HX3.out.below b4).below hb5; have hld5 := run_ldO hx5; have HX5 := hide hx5; have HY5 := hide hy5; have bw4 := HB3.out.trans (b4.mono HB3.out.size); have HB5 := hide (bw4.trans (hb5.mono bw4.size)); clear hst hx5 hy5 hb5 bw4) | (go_at_call 9; refine (HQ.out _ (HU.out.on HB5.out).t (HU.out.on HB5.out).s).mono ?_; rintro e w6 ⟨rfl, b6⟩; have HX6 := hide (HX5.out.below b6); have HY6 := hide (HY5.out.below b6); have HB6 := hide (HB5.out.trans (b6.mono HB5.out.size))))
  obtain ⟨g3, hg3⟩ : ∃ g3, w4.heap.size = g3 := ⟨_, rfl⟩
  rw [hg3] at HY6 ⊢
  clear hst' hld3 hld5 HX5 HY5 HB5 b4 b6 hg3
  refine wp_region_held_drew (S := fun v => OBox v w.heap.size o ∧ OBox v g3 (plainP o)) (by kernel_rfl) (⟨HX6.out.below (below_drew1 _), HY6.out.below (below_drew1 _)⟩) (fun hHeld => ?_)
  refine wpAnyH_take (i := 0) (oi := { dst := some 14, op := Op.fieldAddr 23 (Operand.tmp 3) 0, type := 0, pos := "outright.go:18", after := #[], guard := none }) (v := ?_) rfl (by kernel_rfl) (by kernel_rfl) (by kernel_rfl) (fun _ _ _ h => h) (Or.inl ⟨by rfl, ?_⟩) (by assumption) ?_
  rotate_left
  · (intro w hSw; (try dsimp only at hSw); go_simp); first | done | with_reducible rfl
  simp only [Act.put, List.setIfInBounds_toArray, List.set_cons_zero, List.set_cons_succ]
  refine wpAnyH_take (i := 1) (oi := { dst := some 15, op := Op.load 3 (Operand.tmp 14), type := 3, pos := "outright.go:18", after := #[{ on := 0, ground := Ground.data }], guard := none }) (v := ?_) rfl (by kernel_rfl) (by kernel_rfl) (by kernel_rfl) (fun _ _ _ h => h) (Or.inl ⟨by rfl, ?_⟩) (by assumption) ?_
  rotate_left
  · (intro w hSw; (try dsimp only at hSw); have hl := hSw.2.c0; go_simp); first | done | with_reducible rfl
  simp only [Act.put, List.setIfInBounds_toArray, List.set_cons_zero, List.set_cons_succ]
  refine wpAnyH_take (i := 2) (oi := { dst := some 16, op := Op.fieldAddr 23 (Operand.tmp 1) 0, type := 0, pos := "outright.go:18", after := #[], guard := none }) (v := ?_) rfl (by kernel_rfl) (by kernel_rfl) (by kernel_rfl) (fun _ _ _ h => h) (Or.inl ⟨by rfl, ?_⟩) (by assumption) ?_
  rotate_left
  · (intro w hSw; (try dsimp only at hSw); go_simp); first | done | with_reducible rfl
  simp only [Act.put, List.setIfInBounds_toArray, List.set_cons_zero, List.set_cons_succ]
  refine wpAnyH_take (i := 3) (oi := { dst := some 17, op := Op.load 3 (Operand.tmp 16), type := 3, pos := "outright.go:18", after := #[{ on := 2, ground := Ground.data }], guard := none }) (v := ?_) rfl (by kernel_rfl) (by kernel_rfl) (by kernel_rfl) (fun _ _ _ h => h) (Or.inl ⟨by rfl, ?_⟩) (by assumption) ?_
  rotate_left
  · (intro w hSw; (try dsimp only at hSw); have hl := hSw.1.c0; go_simp); first | done | with_reducible rfl
  simp only [Act.put, List.setIfInBounds_toArray, List.set_cons_zero, List.set_cons_succ]
  refine wpAnyH_take (i := 4) (oi := { dst := some 18, op := Op.binOp BinOp.neq 3 (Operand.tmp 15) (Operand.tmp 17) 3, type := 4, pos := "outright.go:18", after := #[{ on := 1, ground := Ground.data }, { on := 3, ground := Ground.data }], guard := none }) (v := ?_) rfl (by kernel_rfl) (by kernel_rfl) (by kernel_rfl) (fun _ _ _ h => h) (Or.inl ⟨by rfl, ?_⟩) (by assumption) ?_
  rotate_left
  · (intro w hSw; (try dsimp only at hSw); go_simp; (try simp only [hkd]); go_simp); first | done | with_reducible rfl
  simp only [Act.put, List.setIfInBounds_toArray, List.set_cons_zero, List.set_cons_succ]
  refine wpAnyH_take (i := 5) (oi := { dst := some 19, op := Op.move (Operand.tmp 18), type := 4, pos := "outright.go:18", after := #[{ on := 4, ground := Ground.data }], guard := none }) (v := ?_) rfl (by kernel_rfl) (by kernel_rfl) (by kernel_rfl) (fun _ _ _ h => h) (Or.inl ⟨by rfl, ?_⟩) (by assumption) ?_
  rotate_left
  · (intro w hSw; (try dsimp only at hSw); go_simp); first | done | with_reducible rfl
  simp only [Act.put, List.setIfInBounds_toArray, List.set_cons_zero, List.set_cons_succ]
  refine wpAnyH_take (i := 6) (oi := { dst := some 20, op := Op.load 23 (Operand.tmp 3), type := 23, pos := "outright.go:18", after := #[{ on := 5, ground := Ground.guard }], guard := some (5, false) }) (v := ?_) rfl (by kernel_rfl) (by kernel_rfl) (by kernel_rfl) (fun _ _ _ h => h) (Or.inl ⟨by rfl, ?_⟩) (by assumption) ?_
  rotate_left
  · (intro w hSw; (try dsimp only at hSw); have hl := run_ldO hSw.2; go_simp); first | done | with_reducible rfl
  simp only [Act.put, List.setIfInBounds_toArray, List.set_cons_zero, List.set_cons_succ]
  refine wpAnyH_take (i := 8) (oi := { dst := some 22, op := Op.load 23 (Operand.tmp 3), type := 23, pos := "outright.go:18", after := #[{ on := 5, ground := Ground.guard }], guard := some (5, false) }) (v := ?_) rfl (by kernel_rfl) (by kernel_rfl) (by kernel_rfl) (fun _ _ _ h => h) (Or.inl ⟨by rfl, ?_⟩) (by assumption) ?_
  rotate_left
  · (intro w hSw; (try dsimp only at hSw); have hl := run_ldO hSw.2; go_simp); first | done | with_reducible rfl
  simp only [Act.put, List.setIfInBounds_toArray, List.set_cons_zero, List.set_cons_succ]
  have HXd := hide (HX6.out.below (below_drew1 w6))
  have HYd := hide (HY6.out.below (below_drew1 w6))
  have HBd := hide (HB6.out.trans ((below_drew1 w6).mono HB6.out.size))
  refine wpAnyH_ready (rs := [7]) (by kernel_rfl) (by simp) ?_
  refine AllReadyH.cons rfl (fun K hK => ?_) ?_
  rotate_left
  · exact AllReadyH.nil
  go_simp
  go_wp2_with fail
  refine (HPP.out w6.drew (HU.out.on HBd.out).s).mono ?_
  rintro e v0 ⟨rfl, c0⟩
  have HX10 := hide (HXd.out.below c0)
  have HY10 := hide (HYd.out.below c0)
  have HB10 := hide (HBd.out.trans (c0.mono HBd.out.size))
  refine hK.out _ _ ⟨HX10.out, HY10.out⟩ (fun hHeld => ?_)
  clear hK K
  refine wpAnyH_take (i := 9) (oi := { dst := some 23, op := Op.binOp BinOp.neq 23 (Operand.tmp 21) (Operand.tmp 22) 23, type := 4, pos := "outright.go:18", after := #[{ on := 7, ground := Ground.data }, { on := 8, ground := Ground.data }, { on := 5, ground := Ground.guard }], guard := some (5, false) }) (v := ?_) rfl (by kernel_rfl) (by kernel_rfl) (by kernel_rfl) (fun _ _ _ h => h) (Or.inl ⟨by rfl, ?_⟩) (by assumption) ?_
  rotate_left
  · (intro w hSw; (try dsimp only at hSw); have hl := hE w; go_simp); first | done | with_reducible rfl
  simp only [Act.put, List.setIfInBounds_toArray, List.set_cons_zero, List.set_cons_succ]
  refine wpAnyH_take (i := 10) (oi := { dst := some 24, op := Op.pick (Operand.tmp 19) (Operand.const (Value.bool true)) (Operand.tmp 23), type := 4, pos := "outright.go:18", after := #[{ on := 5, ground := Ground.data }, { on := 9, ground := Ground.data }], guard := none }) (v := ?_) rfl (by kernel_rfl) (by kernel_rfl) (by kernel_rfl) (fun _ _ _ h => h) (Or.inl ⟨by rfl, ?_⟩) (by assumption) ?_
  rotate_left
  · (intro w hSw; (try dsimp only at hSw); go_simp); first | done | with_reducible rfl
  simp only [Act.put, List.setIfInBounds_toArray, List.set_cons_zero, List.set_cons_succ]
  refine wpAnyH_take (i := 11) (oi := { dst := some 25, op := Op.move (Operand.tmp 24), type := 4, pos := "outright.go:18", after := #[{ on := 10, ground := Ground.data }, { on := 7, ground := Ground.chain }], guard := none }) (v := ?_) rfl (by kernel_rfl) (by kernel_rfl) (by kernel_rfl) (fun _ _ _ h => h) (Or.inl ⟨by rfl, ?_⟩) (by assumption) ?_
  rotate_left
  · (intro w hSw; (try dsimp only at hSw); go_simp); first | done | with_reducible rfl
  simp only [Act.put, List.setIfInBounds_toArray, List.set_cons_zero, List.set_cons_succ]
  refine wpAnyH_take (i := 12) (oi := { dst := some 26, op := Op.load 23 (Operand.tmp 3), type := 23, pos := "outright.go:18", after := #[{ on := 11, ground := Ground.guard }], guard := some (11, false) }) (v := ?_) rfl (by kernel_rfl) (by kernel_rfl) (by kernel_rfl) (fun _ _ _ h => h) (Or.inl ⟨by rfl, ?_⟩) (by assumption) ?_
  rotate_left
  · (intro w hSw; (try dsimp only at hSw); have hl := run_ldO hSw.2; go_simp); first | done | with_reducible rfl
  simp only [Act.put, List.setIfInBounds_toArray, List.set_cons_zero, List.set_cons_succ]
  refine wpAnyH_take (i := 14) (oi := { dst := some 28, op := Op.move (Operand.tmp 4), type := 9, pos := "outright.go:18", after := #[{ on := 11, ground := Ground.guard }], guard := some (11, false) }) (v := ?_) rfl (by kernel_rfl) (by kernel_rfl) (by kernel_rfl) (fun _ _ _ h => h) (Or.inl ⟨by rfl, ?_⟩) (by assumption) ?_
  rotate_left
  · (intro w hSw; (try dsimp only at hSw); go_simp); first | done | with_reducible rfl
  simp only [Act.put, List.setIfInBounds_toArray, List.set_cons_zero, List.set_cons_succ]
  refine wpAnyH_ready (rs := [13]) (by kernel_rfl) (by simp) ?_
  refine AllReadyH.cons rfl (fun K hK => ?_) ?_
  rotate_left
  · exact AllReadyH.nil
  go_simp
  go_wp2_with fail
  refine (HQQ.out v0 (HU.out.on HB10.out).t (HU.out.on HB10.out).s).mono ?_
  rintro e v1 ⟨rfl, c1⟩
  have HX11 := hide (HX10.out.below c1)
  have HY11 := hide (HY10.out.below c1)
  have HB11 := hide (HB10.out.trans (c1.mono HB10.out.size))
  refine hK.out _ _ ⟨HX11.out, HY11.out⟩ (fun hHeld => ?_)
  clear hK K
  refine wpAnyH_take (i := 15) (oi := { dst := some 29, op := Op.binOp BinOp.neq 9 (Operand.tmp 27) (Operand.tmp 28) 9, type := 4, pos := "outright.go:18", after := #[{ on := 13, ground := Ground.data }, { on := 14, ground := Ground.data }, { on := 11, ground := Ground.guard }], guard := some (11, false) }) (v := ?_) rfl (by kernel_rfl) (by kernel_rfl) (by kernel_rfl) (fun _ _ _ h => h) (Or.inl ⟨by rfl, ?_⟩) (by assumption) ?_
  rotate_left
  · (intro w hSw; (try dsimp only at hSw); go_simp); first | done | with_reducible rfl
  simp only [Act.put, List.setIfInBounds_toArray, List.set_cons_zero, List.set_cons_succ]
  refine wpAnyH_take (i := 16) (oi := { dst := some 30, op := Op.pick (Operand.tmp 25) (Operand.const (Value.bool true)) (Operand.tmp 29), type := 4, pos := "outright.go:18", after := #[{ on := 11, ground := Ground.data }, { on := 15, ground := Ground.data }], guard := none }) (v := ?_) rfl (by kernel_rfl) (by kernel_rfl) (by kernel_rfl) (fun _ _ _ h => h) (Or.inl ⟨by rfl, ?_⟩) (by assumption) ?_
  rotate_left
  · (intro w hSw; (try dsimp only at hSw); go_simp); first | done | with_reducible rfl
  simp only [Act.put, List.setIfInBounds_toArray, List.set_cons_zero, List.set_cons_succ]
  refine wpAnyH_done (by kernel_rfl) ?_ _
  clear hHeld
  go_wp2_with fail
  go_loop [5] (fun v => ∃ k : Nat, k ≤ s.size ∧ v = .int .i64 (k : Int)) (fun v => s.size - (intOf v).toNat)
  case atStart => exact ⟨0, by omega, rfl⟩
  case round =>
    obtain ⟨k, hk, rfl⟩ := hrel
    by_cases hlt : k < s.size
    · obtain ⟨x, hx⟩ : ∃ x, s[k] = x := ⟨_, rfl⟩
      have hb := HG.out k hlt
      rw [hx] at hb
      have h1 : ¬ (x.toNat : Int) < 32 := by omega
      have h2 : ¬ (126 : Int) < x.toNat := by omega
      clear hb
      go_wp2_with fail
      go_round
      case rel => exact ⟨k + 1, by omega, by go_num⟩
      case measure => simp [intOf]; omega
    · have hks : ¬ (k : Int) < s.size := by omega
      go_wp2_with (go_at_call 16; refine (HPa.out _ (HU.out.on HB11.out)).mono ?_; rintro e w7 ⟨rfl, b7⟩; obtain ⟨w8, hst, hz8, hb8, -⟩ := madeO w7 (plainP o) w7.heap.size rfl; have hst' : (stO (.pointer (some ⟨w7.heap.size, 0, none⟩)) (.agg (OC (plainP o)))).run Tryd.prog (w7.alloc (.cells #[.int .i64 0, .int .i64 0, .int .i64 0, .int .i64 0, .string ⟨#[]⟩, .int .i64 0, .int .i64 0] 23)) = .ok () w8 := hst; have hld8 := run_ldO hz8; have hld9 := run_ldO ((HY11.out.below b7).below hb8); have bw7 := HB11.out.trans (b7.mono HB11.out.size); have HB8 := hide (bw7.trans (hb8.mono bw7.size)); clear hst hz8 hb8 bw7)
      go_ret
      exact ⟨rfl, HB8.out⟩
end Go.Proofs.YtmemcnjabnpdmaaDoor
