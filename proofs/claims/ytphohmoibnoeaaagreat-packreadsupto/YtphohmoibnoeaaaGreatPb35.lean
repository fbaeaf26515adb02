/- IQe -/
import Derived.Test.YtphohmoibnoeaaaGreatPb34
import Derived.Deep.CutRange
namespace Go.Proofs.YtphohmoibnoeaaaGreat.K
open Go.RowKit
attribute [local go_sem ↓] ld28_eq st28_eq ld26_eq
attribute [local go_sem] zero_EC cells_EV

set_option maxRecDepth 100000 in
theorem refAhead_any (x y : En) (w : World) : Calls Tryz.prog 48 #[.agg (DC x), .agg (DC y)] w fun e w' => e = .returned (.bool (ahead x y)) ∧ Below w.heap.size w w' := by
  have HB : Hid (Below w.heap.size w ((w.alloc (.cells #[.int .i64 x.rep, .int .i64 x.num] 55)).alloc (.cells #[.int .i64 y.rep, .int .i64 y.num] 55))) := (below_new w _).trans ((below_new _ _).mono (below_new w (.cells #[.int .i64 x.rep, .int .i64 x.num] 55)).size)
  unfold DC
  obtain ⟨r, m, s, q⟩ := x
  obtain ⟨r', m', s', q'⟩ := y
  by_cases h1 : r < r'
  · have HF : Hid (ahead ⟨r, m, s, q⟩ ⟨r', m', s', q'⟩ = true) := by show _ = _; unfold ahead; rw [decide_eq_true h1]; rfl
    go_enter Tryz.func48, Tryz.ntmps48
    go_wp2
    go_ret
    exact ⟨ret_b HF.out, HB.out⟩
  · by_cases h2 : r = r'
    · have HF : Hid (ahead ⟨r, m, s, q⟩ ⟨r', m', s', q'⟩ = decide (m < m')) := by show _ = _; unfold ahead; rw [decide_eq_false h1]; simp [h2]
      have h2' : (r == r') = true := by simpa using h2
      clear h2
      go_enter Tryz.func48, Tryz.ntmps48
      go_wp2
      go_ret
      exact ⟨ret_b HF.out, HB.out⟩
    · have HF : Hid (ahead ⟨r, m, s, q⟩ ⟨r', m', s', q'⟩ = false) := by show _ = _; unfold ahead; rw [decide_eq_false h1]; simp [h2]
      have h2' : (r == r') = false := by simpa using h2
      clear h2
      go_enter Tryz.func48, Tryz.ntmps48
      go_wp2
      go_ret
      exact ⟨ret_b HF.out, HB.out⟩
theorem EnAt.flat {w : World} {b o : Nat} {e : En} (A : EnAt w ⟨b, o, none⟩ e) : w.cell? ⟨b, o, none⟩ = some (.int .i64 e.rep) ∧ w.cell? ⟨b, o + 1, none⟩ = some (.int .i64 e.num) ∧ w.cell? ⟨b, o + 2, none⟩ = some (.string e.sku) ∧ w.cell? ⟨b, o + 3, none⟩ = some (.int .i64 e.qty) := by
  obtain ⟨h0, h1, h2, h3⟩ := A
  rw [Addr.add_lit] at h1 h2 h3
  exact ⟨h0, h1, h2, h3⟩
set_option maxRecDepth 100000 in
set_option maxHeartbeats 3200000 in
theorem refEntries7_any (ao : Option Addr) (n cap : Nat) (L : List En) (w : World) (hS : ESrc w ao n cap L) : Calls Tryz.prog 20 #[.slice ao n cap] w fun e w' => e = .returned (.bool (okN L n)) ∧ Below w.heap.size w w' := by
  have HS := hide hS
  have hn := hS.2.2.2.2
  clear hS
  go_enter Tryz.func20, Tryz.ntmps20
  go_wp2_with fail
  go_loopw [3] (fun i wr => ∃ k : Nat, k ≤ n ∧ i = .int .i64 k ∧ Hid (okN L k = true) ∧ Hid (Below w.heap.size w wr)) (fun i _ => n - (intOf i).toNat)
  case atStart => exact ⟨0, Nat.zero_le _, rfl, rfl, Below.refl _ _⟩
  case round =>
    obtain ⟨k, hk, rfl, HK, HB⟩ := hrel
    rename World => wr
    by_cases hlt : k < n
    · obtain ⟨ad, rfl, A0⟩ := (HS.out.below HB.out).at k hlt
      have HSr := hide (HS.out.below HB.out)
      obtain ⟨e, He⟩ : ∃ e, Hid (L.getD k en0 = e) := ⟨_, rfl⟩
      have hsk := HS.out.sku k hlt
      rw [He.out] at A0 hsk
      obtain ⟨ad0, e0, A00⟩ := (HS.out.below HB.out).at 0 (by omega)
      obtain rfl := Option.some.inj e0
      have hsp := World.cell?_spot A00.c0
      rw [Nat.zero_mul, add_zero] at hsp
      obtain ⟨b, o, sp⟩ := ad
      have hsp : sp = none := hsp
      subst hsp
      clear A00 e0
      rw [Addr.add_lit] at A0
      have HA := hide A0
      have HSK := hide hsk
      have l0 := run_ld26 A0
      clear A0 hsk
      have Hlt := hide hlt
      go_wp2_with fail
      refine (refIsDot_any e _).mono ?_
      rintro x w2 ⟨rfl, b2⟩
      have HB2 := hide (HB.out.trans (b2.mono HB.out.size))
      have HA2 := hide (HA.out.on b2)
      obtain ⟨-, -, c2, c3⟩ := HA2.out.flat
      have HSr2 := hide (HSr.out.below b2)
      clear b2 l0
      have hz := ceE_zero e
      cases hd : isD e with
      | false =>
        have HN : Hid (okN L n = false) := okN_no L k n Hlt.out (by unfold okAt; rw [He.out, hz, hd]; rfl)
        clear hd hz
        go_wp2_with fail
        go_ret
        exact ⟨ret_b HN.out, HB2.out⟩
      | true =>
        have HD := hide hd
        clear hd
        go_wp2_with fail
        refine (refGood_any e.sku _ HSK.out).mono ?_
        rintro x w' ⟨rfl, rfl⟩
        rename World => w2
        cases hg : good e.sku.data.toList with
        | false =>
          have HN : Hid (okN L n = false) := okN_no L k n Hlt.out (by unfold okAt; rw [He.out, hz, HD.out, hg]; rfl)
          clear hg hz
          go_wp2_with fail
          go_ret
          exact ⟨ret_b HN.out, HB2.out⟩
        | true =>
          have HG := hide hg
          clear hg
          by_cases q1 : e.qty < 1
          · have HN : Hid (okN L n = false) := okN_no L k n Hlt.out (by unfold okAt; rw [He.out, hz, HD.out, HG.out, decide_eq_false (show ¬ 1 ≤ e.qty by omega)]; rfl)
            clear hz
            go_wp2_with fail
            go_ret
            exact ⟨ret_b HN.out, HB2.out⟩
          by_cases q2 : 1000000 < e.qty
          · have HN : Hid (okN L n = false) := okN_no L k n Hlt.out (by unfold okAt; rw [He.out, hz, HD.out, HG.out, decide_eq_false (show ¬ e.qty ≤ 1000000 by omega), Bool.and_false]; rfl)
            clear hz
            go_wp2_with fail
            go_ret
            exact ⟨ret_b HN.out, HB2.out⟩
          have HC : Hid ((ceE e == 0) = true) := by show _ = _; rw [hz, HD.out, HG.out, decide_eq_true (show 1 ≤ e.qty by omega), decide_eq_true (show e.qty ≤ 1000000 by omega)]; rfl
          clear hz
          by_cases hk0 : k = 0
          · have hk1 : decide (0 < k) = false := by rw [decide_eq_false_iff_not]; omega
            have HN : Hid (okN L (k + 1) = true) := by show _ = _; rw [okN_succ, HK.out]; unfold okAt; rw [He.out, HC.out, decide_eq_true hk0]; rfl
            clear hk0
            go_upto_region 6 with fail
            refine wp_region_held_drew (S := fun _ => True) (by kernel_rfl) (trivial) (fun hHeld => ?_)
            refine wpAnyH_take (i := 0) (oi := { dst := some 42, op := Op.move (Operand.tmp 3), type := 3, pos := "ref.go:24", after := #[], guard := none }) (v := ?_) rfl (by kernel_rfl) (by kernel_rfl) (by kernel_rfl) (fun _ _ _ h => h) (Or.inl ⟨by rfl, ?_⟩) (by assumption) ?_
            rotate_left
            · (intro w hSw; (try dsimp only at hSw); go_simp); first | done | with_reducible rfl
            simp only [Act.put, List.setIfInBounds_toArray, List.set_cons_zero, List.set_cons_succ]
            refine wpAnyH_take (i := 1) (oi := { dst := some 43, op := Op.binOp BinOp.gtr 3 (Operand.tmp 42) (Operand.const (Value.int IntKind.i64 0)) 3, type := 4, pos := "ref.go:24", after := #[{ on := 0, ground := Ground.data }], guard := none }) (v := ?_) rfl (by kernel_rfl) (by kernel_rfl) (by kernel_rfl) (fun _ _ _ h => h) (Or.inl ⟨by rfl, ?_⟩) (by assumption) ?_
            rotate_left
            · (intro w hSw; (try dsimp only at hSw); go_simp); first | done | with_reducible rfl
            simp only [Act.put, List.setIfInBounds_toArray, List.set_cons_zero, List.set_cons_succ]
            refine wpAnyH_take (i := 2) (oi := { dst := some 44, op := Op.move (Operand.tmp 43), type := 4, pos := "ref.go:24", after := #[{ on := 1, ground := Ground.data }], guard := none }) (v := ?_) rfl (by kernel_rfl) (by kernel_rfl) (by kernel_rfl) (fun _ _ _ h => h) (Or.inl ⟨by rfl, ?_⟩) (by assumption) ?_
            rotate_left
            · (intro w hSw; (try dsimp only at hSw); go_simp); first | done | with_reducible rfl
            simp only [Act.put, List.setIfInBounds_toArray, List.set_cons_zero, List.set_cons_succ]
            refine wpAnyH_take (i := 3) (oi := { dst := some 45, op := Op.move (Operand.tmp 0), type := 26, pos := "ref.go:24", after := #[{ on := 2, ground := Ground.guard }], guard := some (2, true) }) (v := undef) rfl (by kernel_rfl) (by kernel_rfl) (by kernel_rfl) (fun _ _ _ h => h) (Or.inr ⟨by rfl, by rfl⟩) (by assumption) ?_
            simp only [Act.put, List.setIfInBounds_toArray, List.set_cons_zero, List.set_cons_succ]
            refine wpAnyH_take (i := 4) (oi := { dst := some 46, op := Op.move (Operand.tmp 3), type := 3, pos := "ref.go:24", after := #[{ on := 2, ground := Ground.guard }], guard := some (2, true) }) (v := undef) rfl (by kernel_rfl) (by kernel_rfl) (by kernel_rfl) (fun _ _ _ h => h) (Or.inr ⟨by rfl, by rfl⟩) (by assumption) ?_
            simp only [Act.put, List.setIfInBounds_toArray, List.set_cons_zero, List.set_cons_succ]
            refine wpAnyH_take (i := 5) (oi := { dst := some 47, op := Op.binOp BinOp.sub 3 (Operand.tmp 46) (Operand.const (Value.int IntKind.i64 1)) 3, type := 3, pos := "ref.go:24", after := #[{ on := 4, ground := Ground.data }, { on := 2, ground := Ground.guard }], guard := some (2, true) }) (v := undef) rfl (by kernel_rfl) (by kernel_rfl) (by kernel_rfl) (fun _ _ _ h => h) (Or.inr ⟨by rfl, by rfl⟩) (by assumption) ?_
            simp only [Act.put, List.setIfInBounds_toArray, List.set_cons_zero, List.set_cons_succ]
            refine wpAnyH_take (i := 6) (oi := { dst := some 48, op := Op.indexAddr 26 (Operand.tmp 45) (Operand.tmp 47), type := 0, pos := "ref.go:24", after := #[{ on := 3, ground := Ground.data }, { on := 5, ground := Ground.data }, { on := 2, ground := Ground.guard }], guard := some (2, true) }) (v := undef) rfl (by kernel_rfl) (by kernel_rfl) (by kernel_rfl) (fun _ _ _ h => h) (Or.inr ⟨by rfl, by rfl⟩) (by assumption) ?_
            simp only [Act.put, List.setIfInBounds_toArray, List.set_cons_zero, List.set_cons_succ]
            refine wpAnyH_take (i := 7) (oi := { dst := some 49, op := Op.fieldAddr 57 (Operand.tmp 48) 0, type := 0, pos := "ref.go:24", after := #[{ on := 6, ground := Ground.data }, { on := 2, ground := Ground.guard }], guard := some (2, true) }) (v := undef) rfl (by kernel_rfl) (by kernel_rfl) (by kernel_rfl) (fun _ _ _ h => h) (Or.inr ⟨by rfl, by rfl⟩) (by assumption) ?_
            simp only [Act.put, List.setIfInBounds_toArray, List.set_cons_zero, List.set_cons_succ]
            refine wpAnyH_take (i := 8) (oi := { dst := some 50, op := Op.load 55 (Operand.tmp 49), type := 55, pos := "ref.go:24", after := #[{ on := 7, ground := Ground.data }, { on := 2, ground := Ground.guard }], guard := some (2, true) }) (v := undef) rfl (by kernel_rfl) (by kernel_rfl) (by kernel_rfl) (fun _ _ _ h => h) (Or.inr ⟨by rfl, by rfl⟩) (by assumption) ?_
            simp only [Act.put, List.setIfInBounds_toArray, List.set_cons_zero, List.set_cons_succ]
            refine wpAnyH_take (i := 9) (oi := { dst := some 51, op := Op.move (Operand.tmp 0), type := 26, pos := "ref.go:24", after := #[{ on := 2, ground := Ground.guard }], guard := some (2, true) }) (v := undef) rfl (by kernel_rfl) (by kernel_rfl) (by kernel_rfl) (fun _ _ _ h => h) (Or.inr ⟨by rfl, by rfl⟩) (by assumption) ?_
            simp only [Act.put, List.setIfInBounds_toArray, List.set_cons_zero, List.set_cons_succ]
            refine wpAnyH_take (i := 10) (oi := { dst := some 52, op := Op.move (Operand.tmp 3), type := 3, pos := "ref.go:24", after := #[{ on := 2, ground := Ground.guard }], guard := some (2, true) }) (v := undef) rfl (by kernel_rfl) (by kernel_rfl) (by kernel_rfl) (fun _ _ _ h => h) (Or.inr ⟨by rfl, by rfl⟩) (by assumption) ?_
            simp only [Act.put, List.setIfInBounds_toArray, List.set_cons_zero, List.set_cons_succ]
            refine wpAnyH_take (i := 11) (oi := { dst := some 53, op := Op.indexAddr 26 (Operand.tmp 51) (Operand.tmp 52), type := 0, pos := "ref.go:24", after := #[{ on := 9, ground := Ground.data }, { on := 10, ground := Ground.data }, { on := 2, ground := Ground.guard }], guard := some (2, true) }) (v := undef) rfl (by kernel_rfl) (by kernel_rfl) (by kernel_rfl) (fun _ _ _ h => h) (Or.inr ⟨by rfl, by rfl⟩) (by assumption) ?_
            simp only [Act.put, List.setIfInBounds_toArray, List.set_cons_zero, List.set_cons_succ]
            refine wpAnyH_take (i := 12) (oi := { dst := some 54, op := Op.fieldAddr 57 (Operand.tmp 53) 0, type := 0, pos := "ref.go:24", after := #[{ on := 11, ground := Ground.data }, { on := 2, ground := Ground.guard }], guard := some (2, true) }) (v := undef) rfl (by kernel_rfl) (by kernel_rfl) (by kernel_rfl) (fun _ _ _ h => h) (Or.inr ⟨by rfl, by rfl⟩) (by assumption) ?_
            simp only [Act.put, List.setIfInBounds_toArray, List.set_cons_zero, List.set_cons_succ]
            refine wpAnyH_take (i := 13) (oi := { dst := some 55, op := Op.load 55 (Operand.tmp 54), type := 55, pos := "ref.go:24", after := #[{ on := 12, ground := Ground.data }, { on := 2, ground := Ground.guard }], guard := some (2, true) }) (v := undef) rfl (by kernel_rfl) (by kernel_rfl) (by kernel_rfl) (fun _ _ _ h => h) (Or.inr ⟨by rfl, by rfl⟩) (by assumption) ?_
            simp only [Act.put, List.setIfInBounds_toArray, List.set_cons_zero, List.set_cons_succ]
            refine wpAnyH_take (i := 14) (oi := { dst := some 56, op := Op.call { callee := Callee.value (Operand.func 48), args := #[Operand.tmp 50, Operand.tmp 55], argTypes := #[55, 55] }, type := 4, pos := "ref.go:24", after := #[{ on := 8, ground := Ground.data }, { on := 13, ground := Ground.data }, { on := 2, ground := Ground.chain }, { on := 2, ground := Ground.guard }], guard := some (2, true) }) (v := undef) rfl (by kernel_rfl) (by kernel_rfl) (by kernel_rfl) (fun _ _ _ h => h) (Or.inr ⟨by rfl, by rfl⟩) (by assumption) ?_
            simp only [Act.put, List.setIfInBounds_toArray, List.set_cons_zero, List.set_cons_succ]
            refine wpAnyH_take (i := 15) (oi := { dst := some 57, op := Op.unOp UnOp.not 4 (Operand.tmp 56), type := 4, pos := "ref.go:24", after := #[{ on := 14, ground := Ground.data }, { on := 2, ground := Ground.guard }], guard := some (2, true) }) (v := undef) rfl (by kernel_rfl) (by kernel_rfl) (by kernel_rfl) (fun _ _ _ h => h) (Or.inr ⟨by rfl, by rfl⟩) (by assumption) ?_
            simp only [Act.put, List.setIfInBounds_toArray, List.set_cons_zero, List.set_cons_succ]
            refine wpAnyH_take (i := 16) (oi := { dst := some 58, op := Op.pick (Operand.tmp 44) (Operand.tmp 57) (Operand.const (Value.bool false)), type := 4, pos := "ref.go:24", after := #[{ on := 2, ground := Ground.data }, { on := 15, ground := Ground.data }], guard := none }) (v := ?_) rfl (by kernel_rfl) (by kernel_rfl) (by kernel_rfl) (fun _ _ _ h => h) (Or.inl ⟨by rfl, ?_⟩) (by assumption) ?_
            rotate_left
            · (intro w hSw; (try dsimp only at hSw); go_simp); first | done | with_reducible rfl
            simp only [Act.put, List.setIfInBounds_toArray, List.set_cons_zero, List.set_cons_succ]
            refine wpAnyH_done (by kernel_rfl) ?_ _
            clear hHeld
            go_wp2_with fail
            go_roundw
            case rel => exact ⟨k + 1, by omega, by simp, HN, below_drew HB2.out⟩
            case measure => simp [intOf]; omega
          · obtain ⟨j, Hj⟩ : ∃ j, Hid (k = j + 1) := ⟨k - 1, (show k = k - 1 + 1 by omega)⟩
            have hjn : j < n := by have := Hj.out; omega
            have hwj : IntKind.i64.wrap ((k : Int) - 1) = (j : Int) := by rw [IntKind.wrap_i64]; have := Hj.out; omega
            have hk1 : decide (0 < k) = true := by rw [decide_eq_true_iff]; omega
            obtain ⟨ad', e', Aj⟩ := HSr2.out.at j hjn
            obtain rfl := Option.some.inj e'
            obtain ⟨q, Hq⟩ : ∃ q, Hid (L.getD j en0 = q) := ⟨_, rfl⟩
            rw [Hq.out, Addr.add_lit] at Aj
            have HAj := hide Aj
            have hat : Hid (okAt L k = ((ceE e == 0) && ahead q e)) := by show _ = _; unfold okAt; rw [He.out, show k - 1 = j by have := Hj.out; omega, Hq.out, decide_eq_false hk0, Bool.false_or]
            clear Aj e' hk0
            go_upto_region 6 with fail
            refine wp_region_held_drew (S := fun v => (ld26 (.pointer (some ⟨b, o + k * 4, none⟩))).run Tryz.prog v = .ok (.agg (DC e)) v ∧ (ld26 (.pointer (some ⟨b, o + j * 4, none⟩))).run Tryz.prog v = .ok (.agg (DC q)) v) (by kernel_rfl) (⟨run_ld26 (HA2.out.on (below_drew1 w2)), run_ld26 (HAj.out.on (below_drew1 w2))⟩) (fun hHeld => ?_)
            refine wpAnyH_take (i := 0) (oi := { dst := some 42, op := Op.move (Operand.tmp 3), type := 3, pos := "ref.go:24", after := #[], guard := none }) (v := ?_) rfl (by kernel_rfl) (by kernel_rfl) (by kernel_rfl) (fun _ _ _ h => h) (Or.inl ⟨by rfl, ?_⟩) (by assumption) ?_
            rotate_left
            · (intro w hSw; (try dsimp only at hSw); go_simp); first | done | with_reducible rfl
            simp only [Act.put, List.setIfInBounds_toArray, List.set_cons_zero, List.set_cons_succ]
            refine wpAnyH_take (i := 1) (oi := { dst := some 43, op := Op.binOp BinOp.gtr 3 (Operand.tmp 42) (Operand.const (Value.int IntKind.i64 0)) 3, type := 4, pos := "ref.go:24", after := #[{ on := 0, ground := Ground.data }], guard := none }) (v := ?_) rfl (by kernel_rfl) (by kernel_rfl) (by kernel_rfl) (fun _ _ _ h => h) (Or.inl ⟨by rfl, ?_⟩) (by assumption) ?_
            rotate_left
            · (intro w hSw; (try dsimp only at hSw); go_simp); first | done | with_reducible rfl
            simp only [Act.put, List.setIfInBounds_toArray, List.set_cons_zero, List.set_cons_succ]
            refine wpAnyH_take (i := 2) (oi := { dst := some 44, op := Op.move (Operand.tmp 43), type := 4, pos := "ref.go:24", after := #[{ on := 1, ground := Ground.data }], guard := none }) (v := ?_) rfl (by kernel_rfl) (by kernel_rfl) (by kernel_rfl) (fun _ _ _ h => h) (Or.inl ⟨by rfl, ?_⟩) (by assumption) ?_
            rotate_left
            · (intro w hSw; (try dsimp only at hSw); go_simp); first | done | with_reducible rfl
            simp only [Act.put, List.setIfInBounds_toArray, List.set_cons_zero, List.set_cons_succ]
            refine wpAnyH_take (i := 3) (oi := { dst := some 45, op := Op.move (Operand.tmp 0), type := 26, pos := "ref.go:24", after := #[{ on := 2, ground := Ground.guard }], guard := some (2, true) }) (v := ?_) rfl (by kernel_rfl) (by kernel_rfl) (by kernel_rfl) (fun _ _ _ h => h) (Or.inl ⟨by rfl, ?_⟩) (by assumption) ?_
            rotate_left
            · (intro w hSw; (try dsimp only at hSw); go_simp); first | done | with_reducible rfl
            simp only [Act.put, List.setIfInBounds_toArray, List.set_cons_zero, List.set_cons_succ]
            refine wpAnyH_take (i := 4) (oi := { dst := some 46, op := Op.move (Operand.tmp 3), type := 3, pos := "ref.go:24", after := #[{ on := 2, ground := Ground.guard }], guard := some (2, true) }) (v := ?_) rfl (by kernel_rfl) (by kernel_rfl) (by kernel_rfl) (fun _ _ _ h => h) (Or.inl ⟨by rfl, ?_⟩) (by assumption) ?_
            rotate_left
            · (intro w hSw; (try dsimp only at hSw); go_simp); first | done | with_reducible rfl
            simp only [Act.put, List.setIfInBounds_toArray, List.set_cons_zero, List.set_cons_succ]
            refine wpAnyH_take (i := 5) (oi := { dst := some 47, op := Op.binOp BinOp.sub 3 (Operand.tmp 46) (Operand.const (Value.int IntKind.i64 1)) 3, type := 3, pos := "ref.go:24", after := #[{ on := 4, ground := Ground.data }, { on := 2, ground := Ground.guard }], guard := some (2, true) }) (v := ?_) rfl (by kernel_rfl) (by kernel_rfl) (by kernel_rfl) (fun _ _ _ h => h) (Or.inl ⟨by rfl, ?_⟩) (by assumption) ?_
            rotate_left
            · (intro w hSw; (try dsimp only at hSw); go_simp); first | done | with_reducible rfl
            simp only [Act.put, List.setIfInBounds_toArray, List.set_cons_zero, List.set_cons_succ]
            refine wpAnyH_take (i := 6) (oi := { dst := some 48, op := Op.indexAddr 26 (Operand.tmp 45) (Operand.tmp 47), type := 0, pos := "ref.go:24", after := #[{ on := 3, ground := Ground.data }, { on := 5, ground := Ground.data }, { on := 2, ground := Ground.guard }], guard := some (2, true) }) (v := ?_) rfl (by kernel_rfl) (by kernel_rfl) (by kernel_rfl) (fun _ _ _ h => h) (Or.inl ⟨by rfl, ?_⟩) (by assumption) ?_
            rotate_left
            · (intro w hSw; (try dsimp only at hSw); go_simp); first | done | with_reducible rfl
            simp only [Act.put, List.setIfInBounds_toArray, List.set_cons_zero, List.set_cons_succ]
            refine wpAnyH_take (i := 7) (oi := { dst := some 49, op := Op.fieldAddr 57 (Operand.tmp 48) 0, type := 0, pos := "ref.go:24", after := #[{ on := 6, ground := Ground.data }, { on := 2, ground := Ground.guard }], guard := some (2, true) }) (v := ?_) rfl (by kernel_rfl) (by kernel_rfl) (by kernel_rfl) (fun _ _ _ h => h) (Or.inl ⟨by rfl, ?_⟩) (by assumption) ?_
            rotate_left
            · (intro w hSw; (try dsimp only at hSw); go_simp); first | done | with_reducible rfl
            simp only [Act.put, List.setIfInBounds_toArray, List.set_cons_zero, List.set_cons_succ]
            refine wpAnyH_take (i := 8) (oi := { dst := some 50, op := Op.load 55 (Operand.tmp 49), type := 55, pos := "ref.go:24", after := #[{ on := 7, ground := Ground.data }, { on := 2, ground := Ground.guard }], guard := some (2, true) }) (v := ?_) rfl (by kernel_rfl) (by kernel_rfl) (by kernel_rfl) (fun _ _ _ h => h) (Or.inl ⟨by rfl, ?_⟩) (by assumption) ?_
            rotate_left
            · (intro w hSw; (try dsimp only at hSw); go_simp); first | done | with_reducible rfl
            simp only [Act.put, List.setIfInBounds_toArray, List.set_cons_zero, List.set_cons_succ]
            refine wpAnyH_take (i := 9) (oi := { dst := some 51, op := Op.move (Operand.tmp 0), type := 26, pos := "ref.go:24", after := #[{ on := 2, ground := Ground.guard }], guard := some (2, true) }) (v := ?_) rfl (by kernel_rfl) (by kernel_rfl) (by kernel_rfl) (fun _ _ _ h => h) (Or.inl ⟨by rfl, ?_⟩) (by assumption) ?_
            rotate_left
            · (intro w hSw; (try dsimp only at hSw); go_simp); first | done | with_reducible rfl
            simp only [Act.put, List.setIfInBounds_toArray, List.set_cons_zero, List.set_cons_succ]
            refine wpAnyH_take (i := 10) (oi := { dst := some 52, op := Op.move (Operand.tmp 3), type := 3, pos := "ref.go:24", after := #[{ on := 2, ground := Ground.guard }], guard := some (2, true) }) (v := ?_) rfl (by kernel_rfl) (by kernel_rfl) (by kernel_rfl) (fun _ _ _ h => h) (Or.inl ⟨by rfl, ?_⟩) (by assumption) ?_
            rotate_left
            · (intro w hSw; (try dsimp only at hSw); go_simp); first | done | with_reducible rfl
            simp only [Act.put, List.setIfInBounds_toArray, List.set_cons_zero, List.set_cons_succ]
            refine wpAnyH_take (i := 11) (oi := { dst := some 53, op := Op.indexAddr 26 (Operand.tmp 51) (Operand.tmp 52), type := 0, pos := "ref.go:24", after := #[{ on := 9, ground := Ground.data }, { on := 10, ground := Ground.data }, { on := 2, ground := Ground.guard }], guard := some (2, true) }) (v := ?_) rfl (by kernel_rfl) (by kernel_rfl) (by kernel_rfl) (fun _ _ _ h => h) (Or.inl ⟨by rfl, ?_⟩) (by assumption) ?_
            rotate_left
            · (intro w hSw; (try dsimp only at hSw); go_simp); first | done | with_reducible rfl
            simp only [Act.put, List.setIfInBounds_toArray, List.set_cons_zero, List.set_cons_succ]
            refine wpAnyH_take (i := 12) (oi := { dst := some 54, op := Op.fieldAddr 57 (Operand.tmp 53) 0, type := 0, pos := "ref.go:24", after := #[{ on := 11, ground := Ground.data }, { on := 2, ground := Ground.guard }], guard := some (2, true) }) (v := ?_) rfl (by kernel_rfl) (by kernel_rfl) (by kernel_rfl) (fun _ _ _ h => h) (Or.inl ⟨by rfl, ?_⟩) (by assumption) ?_
            rotate_left
            · (intro w hSw; (try dsimp only at hSw); go_simp); first | done | with_reducible rfl
            simp only [Act.put, List.setIfInBounds_toArray, List.set_cons_zero, List.set_cons_succ]
            refine wpAnyH_take (i := 13) (oi := { dst := some 55, op := Op.load 55 (Operand.tmp 54), type := 55, pos := "ref.go:24", after := #[{ on := 12, ground := Ground.data }, { on := 2, ground := Ground.guard }], guard := some (2, true) }) (v := ?_) rfl (by kernel_rfl) (by kernel_rfl) (by kernel_rfl) (fun _ _ _ h => h) (Or.inl ⟨by rfl, ?_⟩) (by assumption) ?_
            rotate_left
            · (intro w hSw; (try dsimp only at hSw); go_simp); first | done | with_reducible rfl
            simp only [Act.put, List.setIfInBounds_toArray, List.set_cons_zero, List.set_cons_succ]
            refine wpAnyH_ready (rs := [14]) (by kernel_rfl) (by simp) ?_
            refine AllReadyH.cons rfl (fun K hK => ?_) ?_
            rotate_left
            · exact AllReadyH.nil
            go_simp
            go_wp2_with fail
            refine (refAhead_any q e _).mono ?_
            rintro x w3 ⟨rfl, b3⟩
            have hB3 : Below w2.heap.size w2 w3 := (below_drew1 w2).trans b3
            have HB3 := hide (HB2.out.trans (hB3.mono HB2.out.size))
            refine hK.out _ _ (⟨run_ld26 (HA2.out.on (hB3)), run_ld26 (HAj.out.on (hB3))⟩) (fun hHeld => ?_)
            clear hK K b3 hB3
            cases ha : ahead q e with
            | false =>
              have HN : Hid (okN L n = false) := okN_no L k n Hlt.out (by rw [hat.out, HC.out, ha]; rfl)
              clear ha
              refine wpAnyH_take (i := 15) (oi := { dst := some 57, op := Op.unOp UnOp.not 4 (Operand.tmp 56), type := 4, pos := "ref.go:24", after := #[{ on := 14, ground := Ground.data }, { on := 2, ground := Ground.guard }], guard := some (2, true) }) (v := ?_) rfl (by kernel_rfl) (by kernel_rfl) (by kernel_rfl) (fun _ _ _ h => h) (Or.inl ⟨by rfl, ?_⟩) (by assumption) ?_
              rotate_left
              · (intro w hSw; (try dsimp only at hSw); go_simp); first | done | with_reducible rfl
              simp only [Act.put, List.setIfInBounds_toArray, List.set_cons_zero, List.set_cons_succ]
              refine wpAnyH_take (i := 16) (oi := { dst := some 58, op := Op.pick (Operand.tmp 44) (Operand.tmp 57) (Operand.const (Value.bool false)), type := 4, pos := "ref.go:24", after := #[{ on := 2, ground := Ground.data }, { on := 15, ground := Ground.data }], guard := none }) (v := ?_) rfl (by kernel_rfl) (by kernel_rfl) (by kernel_rfl) (fun _ _ _ h => h) (Or.inl ⟨by rfl, ?_⟩) (by assumption) ?_
              rotate_left
              · (intro w hSw; (try dsimp only at hSw); go_simp); first | done | with_reducible rfl
              simp only [Act.put, List.setIfInBounds_toArray, List.set_cons_zero, List.set_cons_succ]
              refine wpAnyH_done (by kernel_rfl) ?_ _
              clear hHeld
              go_wp2_with fail
              go_ret
              exact ⟨ret_b HN.out, HB3.out⟩
            | true =>
              have HN : Hid (okN L (k + 1) = true) := by show _ = _; rw [okN_succ, HK.out, hat.out, HC.out, ha]; rfl
              clear ha
              refine wpAnyH_take (i := 15) (oi := { dst := some 57, op := Op.unOp UnOp.not 4 (Operand.tmp 56), type := 4, pos := "ref.go:24", after := #[{ on := 14, ground := Ground.data }, { on := 2, ground := Ground.guard }], guard := some (2, true) }) (v := ?_) rfl (by kernel_rfl) (by kernel_rfl) (by kernel_rfl) (fun _ _ _ h => h) (Or.inl ⟨by rfl, ?_⟩) (by assumption) ?_
              rotate_left
              · (intro w hSw; (try dsimp only at hSw); go_simp); first | done | with_reducible rfl
              simp only [Act.put, List.setIfInBounds_toArray, List.set_cons_zero, List.set_cons_succ]
              refine wpAnyH_take (i := 16) (oi := { dst := some 58, op := Op.pick (Operand.tmp 44) (Operand.tmp 57) (Operand.const (Value.bool false)), type := 4, pos := "ref.go:24", after := #[{ on := 2, ground := Ground.data }, { on := 15, ground := Ground.data }], guard := none }) (v := ?_) rfl (by kernel_rfl) (by kernel_rfl) (by kernel_rfl) (fun _ _ _ h => h) (Or.inl ⟨by rfl, ?_⟩) (by assumption) ?_
              rotate_left
              · (intro w hSw; (try dsimp only at hSw); go_simp); first | done | with_reducible rfl
              simp only [Act.put, List.setIfInBounds_toArray, List.set_cons_zero, List.set_cons_succ]
              refine wpAnyH_done (by kernel_rfl) ?_ _
              clear hHeld
              go_wp2_with fail
              go_roundw
              case rel => exact ⟨k + 1, by omega, by simp, HN, HB3.out⟩
              case measure => simp [intOf]; omega
    · obtain rfl : k = n := by omega
      go_wp2_with fail
      go_ret
      exact ⟨by rw [HK.out]; rfl, HB.out⟩
end Go.Proofs.YtphohmoibnoeaaaGreat.K
