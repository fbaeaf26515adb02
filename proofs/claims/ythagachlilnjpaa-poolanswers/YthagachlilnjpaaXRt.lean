/- The reference's Trim. -/
import Derived.Test.YthagachlilnjpaaXRw
namespace Go.Proofs.Ythagachlilnjpaa
open Go.RowKit Go.Maps
variable {w w' w2 : World} {g r n c : Nat} {ao : Option Addr} {Q : List Mde}
attribute [local go_sem ↓] ldD_eq stD_eq
attribute [local go_sem] DC_size

set_option maxRecDepth 100000 in
theorem rtrim_no (P : Rp w r ao n c Q) {x : Int} (hx : i64ok x) (hu : und Q x = false) (cut : Int) : Calls Try.prog 24 #[ptr r, .int .i64 x, .int .i64 cut] w fun e w' => e = .returned (.int .i64 15) ∧ Below w.heap.size w w' := by
  have HC := hide (rlook_no P hx hu)
  clear P hx hu
  go_enter Try.func24, Try.ntmps24
  go_wp2_with fail
  refine HC.out.mono ?_
  rintro e w2 ⟨rfl, b2⟩
  obtain ⟨g3, hg3⟩ : ∃ g3, w2.heap.size = g3 := ⟨_, rfl⟩
  obtain ⟨w3, hst0, T3, b3, z3⟩ := madeD w2 d0 g3 hg3
  have hst : (stD (.pointer (some ⟨g3, 0, none⟩)) (.agg (DC d0))).run Try.prog (w2.alloc (.cells #[.int .i64 0, .int .i64 0, .string ⟨#[]⟩, .bool false] 46)) = .ok () w3 := hst0
  have HB := hide (b2.trans (b3.mono b2.size))
  clear hst0 T3 b3 z3 b2 HC
  go_wp2_with fail
  go_ret
  exact ⟨rfl, HB.out⟩
set_option maxRecDepth 100000 in
theorem rtrim_arg (P : Rp w r ao n c Q) {x : Int} (hx : i64ok x) {j : Nat} (hj : x = (j : Int) + 1) (hjn : j < n) {f t : Int} {s : ByteArray} (hQ : Q.getD j d0 = ⟨f, t, s, false⟩) {cut : Int} (hc : cut < 1) : Calls Try.prog 24 #[ptr r, .int .i64 x, .int .i64 cut] w fun e w' => e = .returned (.int .i64 2) ∧ Below w.heap.size w w' := by
  have hC := rlook_yes P hx hj hjn (by rw [hQ])
  rw [hQ] at hC
  have HC := hide hC
  clear P hx hj hC hQ
  go_enter Try.func24, Try.ntmps24
  go_wp2_with fail
  refine HC.out.mono ?_
  rintro e w2 ⟨rfl, b2⟩
  obtain ⟨g3, hg3⟩ : ∃ g3, w2.heap.size = g3 := ⟨_, rfl⟩
  obtain ⟨w3, hst, T3, b3, z3⟩ := madeD w2 ⟨f, t, s, false⟩ g3 hg3
  rw [d0_cells] at hst
  have HB := hide (b2.trans (b3.mono b2.size))
  clear T3 b3 z3 b2 HC
  go_wp2_with fail
  go_ret
  exact ⟨rfl, HB.out⟩
set_option maxRecDepth 100000 in
theorem rtrim_ok (P : Rp w r ao n c Q) {x : Int} (hx : i64ok x) {j : Nat} (hj : x = (j : Int) + 1) (hjn : j < n) {f t : Int} {s : ByteArray} (hQ : Q.getD j d0 = ⟨f, t, s, false⟩) {cut : Int} (hc : 1 ≤ cut) (m : Nat) (hm : s.size = m) (hm2 : m ≤ 140737488355328) (lf : Nat) (hlf : lf = ((m : Int) - cut).toNat) : Calls Try.prog 24 #[ptr r, .int .i64 x, .int .i64 cut] w fun e w' =>
    e = .returned (.int .i64 0) ∧ Rp w' r ao n c (Q.set j ⟨f, t, s.extract 0 lf, false⟩) ∧ Kr w w' r ao ao := by
  have hC := rlook_yes P hx hj hjn (by rw [hQ])
  rw [hQ] at hC
  have HC := hide hC
  have HP := hide P
  have hsub : wrap64 (x - 1) = (j : Int) := by unfold i64ok at hx; rw [w64 (by omega) (by omega)]; omega
  obtain ⟨q, hq⟩ : ∃ q : Nat, min cut (m : Int) = (q : Int) := ⟨(min cut (m : Int)).toNat, by omega⟩
  have hq2 : wrap64 ((m : Int) - (q : Int)) = (lf : Int) := by rw [w64 (by omega) (by omega)]; omega
  have hq3 : IntKind.i64.wrap ((m : Int) - (q : Int)) = (lf : Int) := by rw [IntKind.wrap_i64]; unfold wrap64 at hq2; exact hq2
  have hsub3 : IntKind.i64.wrap (x - 1) = (j : Int) := by rw [IntKind.wrap_i64]; unfold wrap64 at hsub; exact hsub
  have hmx : max 0 (lf : Int) = (lf : Int) := by omega
  have hlm : lf ≤ m := by omega
  have HQ := hide hQ
  have HJ := hide hjn
  have hcx : ¬ cut < 1 := by omega
  clear P hx hj hC hQ hlf hc hm2
  go_enter Try.func24, Try.ntmps24
  go_wp2_with fail
  refine HC.out.mono ?_
  rintro e w2 ⟨rfl, b2⟩
  obtain ⟨g3, hg3⟩ : ∃ g3, w2.heap.size = g3 := ⟨_, rfl⟩
  obtain ⟨w3, hst, T3, b3, z3⟩ := madeD w2 ⟨f, t, s, false⟩ g3 hg3
  rw [d0_cells] at hst
  have b23 := b2.trans (b3.mono b2.size)
  have P3 := HP.out.below (b23.trans ((below_drew1 w3).mono b23.size))
  obtain ⟨b, rfl, D, fz⟩ := P3.row.at j HJ.out
  have d2 := D.c2
  rw [Addr.add_lit, HQ.out] at d2
  simp only at d2
  have f2 := fz (j * 4 + 2)
  obtain ⟨P4, K4⟩ := P3.set j 2 HJ.out (by omega) (.string (s.extract 0 lf)) ⟨f, t, s.extract 0 lf, false⟩ (by rw [HQ.out]; rfl)
  have HSd : Hid (w3.drew.cell? ⟨r, 0, none⟩ = some (.slice (some ⟨b, 0, none⟩) n c) ∧ w3.drew.cell? ⟨g3, 2, none⟩ = some (.string s)) := ⟨P3.c0, (T3.below (below_drew1 w3)).c2⟩
  have HP4 := hide P4
  have HK4 : Hid (Kr w (w3.drew.setCell ⟨b, j * 4 + 2, none⟩ (.string (s.extract 0 lf))) r (some ⟨b, 0, none⟩) (some ⟨b, 0, none⟩)) := (Kr.of_below (b23.trans ((below_drew1 w3).mono b23.size))).trans K4
  have HS4 : Hid ((w3.drew.setCell ⟨b, j * 4 + 2, none⟩ (.string (s.extract 0 lf))).cell? ⟨r, 0, none⟩ = some (.slice (some ⟨b, 0, none⟩) n c) ∧ (w3.drew.setCell ⟨b, j * 4 + 2, none⟩ (.string (s.extract 0 lf))).cell? ⟨g3, 2, none⟩ = some (.string s)) := by
    refine ⟨P4.c0, ?_⟩
    rw [World.cell?_of_block (w := w3.drew) (a := ⟨g3, 2, none⟩) (set_other w3.drew b _ g3 _ (by have h1 := HP.out.row.lt b rfl; have h2 := b2.size; omega))]
    exact (T3.below (below_drew1 w3)).c2
  clear T3 b3 z3 b2 b23 HC D fz P3 P4 K4
  go_wp2_with fail
  refine wp_region_held_drew (S := fun W => W.cell? ⟨r, 0, none⟩ = some (.slice (some ⟨b, 0, none⟩) n c) ∧ W.cell? ⟨g3, 2, none⟩ = some (.string s)) (by kernel_rfl) (HSd.out) (fun hHeld => ?_)
  refine wpAnyH_take (i := 0) (oi := { dst := some 20, op := Op.move (Operand.tmp 0), type := 33, pos := "ref.go:68", after := #[], guard := none }) (v := ?_) rfl (by kernel_rfl) (by kernel_rfl) (by kernel_rfl) (fun _ _ _ h => h) (Or.inl ⟨by rfl, ?_⟩) (by assumption) ?_
  rotate_left
  · (intro w hSw; (try dsimp only at hSw); go_simp); first | done | with_reducible rfl
  simp only [Act.put, List.setIfInBounds_toArray, List.set_cons_zero, List.set_cons_succ]
  refine wpAnyH_take (i := 1) (oi := { dst := some 21, op := Op.nilCheck (Operand.tmp 20), type := 0, pos := "ref.go:68", after := #[{ on := 0, ground := Ground.data }], guard := none }) (v := ?_) rfl (by kernel_rfl) (by kernel_rfl) (by kernel_rfl) (fun _ _ _ h => h) (Or.inl ⟨by rfl, ?_⟩) (by assumption) ?_
  rotate_left
  · (intro w hSw; (try dsimp only at hSw); go_simp); first | done | with_reducible rfl
  simp only [Act.put, List.setIfInBounds_toArray, List.set_cons_zero, List.set_cons_succ]
  refine wpAnyH_take (i := 2) (oi := { dst := some 22, op := Op.fieldAddr 28 (Operand.tmp 21) 0, type := 0, pos := "ref.go:68", after := #[{ on := 1, ground := Ground.data }], guard := none }) (v := ?_) rfl (by kernel_rfl) (by kernel_rfl) (by kernel_rfl) (fun _ _ _ h => h) (Or.inl ⟨by rfl, ?_⟩) (by assumption) ?_
  rotate_left
  · (intro w hSw; (try dsimp only at hSw); go_simp); first | done | with_reducible rfl
  simp only [Act.put, List.setIfInBounds_toArray, List.set_cons_zero, List.set_cons_succ]
  refine wpAnyH_take (i := 3) (oi := { dst := some 23, op := Op.load 26 (Operand.tmp 22), type := 26, pos := "ref.go:68", after := #[{ on := 2, ground := Ground.data }], guard := none }) (v := ?_) rfl (by kernel_rfl) (by kernel_rfl) (by kernel_rfl) (fun _ _ _ h => h) (Or.inl ⟨by rfl, ?_⟩) (by assumption) ?_
  rotate_left
  · (intro w hSw; (try dsimp only at hSw); go_simp); first | done | with_reducible rfl
  simp only [Act.put, List.setIfInBounds_toArray, List.set_cons_zero, List.set_cons_succ]
  refine wpAnyH_take (i := 4) (oi := { dst := some 24, op := Op.move (Operand.tmp 1), type := 3, pos := "ref.go:68", after := #[], guard := none }) (v := ?_) rfl (by kernel_rfl) (by kernel_rfl) (by kernel_rfl) (fun _ _ _ h => h) (Or.inl ⟨by rfl, ?_⟩) (by assumption) ?_
  rotate_left
  · (intro w hSw; (try dsimp only at hSw); go_simp); first | done | with_reducible rfl
  simp only [Act.put, List.setIfInBounds_toArray, List.set_cons_zero, List.set_cons_succ]
  refine wpAnyH_take (i := 5) (oi := { dst := some 25, op := Op.binOp BinOp.sub 3 (Operand.tmp 24) (Operand.const (Value.int IntKind.i64 1)) 3, type := 3, pos := "ref.go:68", after := #[{ on := 4, ground := Ground.data }], guard := none }) (v := ?_) rfl (by kernel_rfl) (by kernel_rfl) (by kernel_rfl) (fun _ _ _ h => h) (Or.inl ⟨by rfl, ?_⟩) (by assumption) ?_
  rotate_left
  · (intro w hSw; (try dsimp only at hSw); go_simp); first | done | with_reducible rfl
  simp only [Act.put, List.setIfInBounds_toArray, List.set_cons_zero, List.set_cons_succ]
  refine wpAnyH_take (i := 6) (oi := { dst := some 26, op := Op.fieldAddr 46 (Operand.tmp 7) 2, type := 0, pos := "ref.go:68", after := #[], guard := none }) (v := ?_) rfl (by kernel_rfl) (by kernel_rfl) (by kernel_rfl) (fun _ _ _ h => h) (Or.inl ⟨by rfl, ?_⟩) (by assumption) ?_
  rotate_left
  · (intro w hSw; (try dsimp only at hSw); go_simp); first | done | with_reducible rfl
  simp only [Act.put, List.setIfInBounds_toArray, List.set_cons_zero, List.set_cons_succ]
  refine wpAnyH_take (i := 7) (oi := { dst := some 27, op := Op.load 9 (Operand.tmp 26), type := 9, pos := "ref.go:68", after := #[{ on := 6, ground := Ground.data }], guard := none }) (v := ?_) rfl (by kernel_rfl) (by kernel_rfl) (by kernel_rfl) (fun _ _ _ h => h) (Or.inl ⟨by rfl, ?_⟩) (by assumption) ?_
  rotate_left
  · (intro w hSw; (try dsimp only at hSw); go_simp); first | done | with_reducible rfl
  simp only [Act.put, List.setIfInBounds_toArray, List.set_cons_zero, List.set_cons_succ]
  refine wpAnyH_take (i := 8) (oi := { dst := some 28, op := Op.fieldAddr 46 (Operand.tmp 7) 2, type := 0, pos := "ref.go:68", after := #[], guard := none }) (v := ?_) rfl (by kernel_rfl) (by kernel_rfl) (by kernel_rfl) (fun _ _ _ h => h) (Or.inl ⟨by rfl, ?_⟩) (by assumption) ?_
  rotate_left
  · (intro w hSw; (try dsimp only at hSw); go_simp); first | done | with_reducible rfl
  simp only [Act.put, List.setIfInBounds_toArray, List.set_cons_zero, List.set_cons_succ]
  refine wpAnyH_take (i := 9) (oi := { dst := some 29, op := Op.load 9 (Operand.tmp 28), type := 9, pos := "ref.go:68", after := #[{ on := 8, ground := Ground.data }], guard := none }) (v := ?_) rfl (by kernel_rfl) (by kernel_rfl) (by kernel_rfl) (fun _ _ _ h => h) (Or.inl ⟨by rfl, ?_⟩) (by assumption) ?_
  rotate_left
  · (intro w hSw; (try dsimp only at hSw); go_simp); first | done | with_reducible rfl
  simp only [Act.put, List.setIfInBounds_toArray, List.set_cons_zero, List.set_cons_succ]
  refine wpAnyH_take (i := 10) (oi := { dst := some 30, op := Op.call { callee := Callee.builtin Builtin.len, args := #[Operand.tmp 29], argTypes := #[9] }, type := 3, pos := "ref.go:68", after := #[{ on := 9, ground := Ground.data }], guard := none }) (v := ?_) rfl (by kernel_rfl) (by kernel_rfl) (by kernel_rfl) (fun _ _ _ h => h) (Or.inl ⟨by rfl, ?_⟩) (by assumption) ?_
  rotate_left
  · (intro w hSw; (try dsimp only at hSw); go_simp); first | done | with_reducible rfl
  simp only [Act.put, List.setIfInBounds_toArray, List.set_cons_zero, List.set_cons_succ]
  refine wpAnyH_take (i := 11) (oi := { dst := some 31, op := Op.move (Operand.tmp 2), type := 3, pos := "ref.go:68", after := #[], guard := none }) (v := ?_) rfl (by kernel_rfl) (by kernel_rfl) (by kernel_rfl) (fun _ _ _ h => h) (Or.inl ⟨by rfl, ?_⟩) (by assumption) ?_
  rotate_left
  · (intro w hSw; (try dsimp only at hSw); go_simp); first | done | with_reducible rfl
  simp only [Act.put, List.setIfInBounds_toArray, List.set_cons_zero, List.set_cons_succ]
  refine wpAnyH_take (i := 12) (oi := { dst := some 32, op := Op.fieldAddr 46 (Operand.tmp 7) 2, type := 0, pos := "ref.go:68", after := #[], guard := none }) (v := ?_) rfl (by kernel_rfl) (by kernel_rfl) (by kernel_rfl) (fun _ _ _ h => h) (Or.inl ⟨by rfl, ?_⟩) (by assumption) ?_
  rotate_left
  · (intro w hSw; (try dsimp only at hSw); go_simp); first | done | with_reducible rfl
  simp only [Act.put, List.setIfInBounds_toArray, List.set_cons_zero, List.set_cons_succ]
  refine wpAnyH_take (i := 13) (oi := { dst := some 33, op := Op.load 9 (Operand.tmp 32), type := 9, pos := "ref.go:68", after := #[{ on := 12, ground := Ground.data }], guard := none }) (v := ?_) rfl (by kernel_rfl) (by kernel_rfl) (by kernel_rfl) (fun _ _ _ h => h) (Or.inl ⟨by rfl, ?_⟩) (by assumption) ?_
  rotate_left
  · (intro w hSw; (try dsimp only at hSw); go_simp); first | done | with_reducible rfl
  simp only [Act.put, List.setIfInBounds_toArray, List.set_cons_zero, List.set_cons_succ]
  refine wpAnyH_take (i := 14) (oi := { dst := some 34, op := Op.call { callee := Callee.builtin Builtin.len, args := #[Operand.tmp 33], argTypes := #[9] }, type := 3, pos := "ref.go:68", after := #[{ on := 13, ground := Ground.data }], guard := none }) (v := ?_) rfl (by kernel_rfl) (by kernel_rfl) (by kernel_rfl) (fun _ _ _ h => h) (Or.inl ⟨by rfl, ?_⟩) (by assumption) ?_
  rotate_left
  · (intro w hSw; (try dsimp only at hSw); go_simp); first | done | with_reducible rfl
  simp only [Act.put, List.setIfInBounds_toArray, List.set_cons_zero, List.set_cons_succ]
  refine wpAnyH_take (i := 15) (oi := { dst := some 35, op := Op.call { callee := Callee.builtin Builtin.min, args := #[Operand.tmp 31, Operand.tmp 34], argTypes := #[3, 3] }, type := 3, pos := "ref.go:68", after := #[{ on := 11, ground := Ground.data }, { on := 14, ground := Ground.data }], guard := none }) (v := ?_) rfl (by kernel_rfl) (by kernel_rfl) (by kernel_rfl) (fun _ _ _ h => h) (Or.inl ⟨by rfl, ?_⟩) (by assumption) ?_
  rotate_left
  · (intro w hSw; (try dsimp only at hSw); go_simp); first | done | with_reducible rfl
  simp only [Act.put, List.setIfInBounds_toArray, List.set_cons_zero, List.set_cons_succ]
  refine wpAnyH_take (i := 16) (oi := { dst := some 36, op := Op.binOp BinOp.sub 3 (Operand.tmp 30) (Operand.tmp 35) 3, type := 3, pos := "ref.go:68", after := #[{ on := 10, ground := Ground.data }, { on := 15, ground := Ground.data }], guard := none }) (v := ?_) rfl (by kernel_rfl) (by kernel_rfl) (by kernel_rfl) (fun _ _ _ h => h) (Or.inl ⟨by rfl, ?_⟩) (by assumption) ?_
  rotate_left
  · (intro w hSw; (try dsimp only at hSw); go_simp); first | done | with_reducible rfl
  simp only [Act.put, List.setIfInBounds_toArray, List.set_cons_zero, List.set_cons_succ]
  refine wpAnyH_take (i := 17) (oi := { dst := some 37, op := Op.call { callee := Callee.builtin Builtin.max, args := #[Operand.const (Value.int IntKind.i64 0), Operand.tmp 36], argTypes := #[3, 3] }, type := 3, pos := "ref.go:68", after := #[{ on := 16, ground := Ground.data }], guard := none }) (v := ?_) rfl (by kernel_rfl) (by kernel_rfl) (by kernel_rfl) (fun _ _ _ h => h) (Or.inl ⟨by rfl, ?_⟩) (by assumption) ?_
  rotate_left
  · (intro w hSw; (try dsimp only at hSw); go_simp); first | done | with_reducible rfl
  simp only [Act.put, List.setIfInBounds_toArray, List.set_cons_zero, List.set_cons_succ]
  refine wpAnyH_take (i := 18) (oi := { dst := some 38, op := Op.slice 9 (Operand.tmp 27) none (some (Operand.tmp 37)) none, type := 9, pos := "ref.go:68", after := #[{ on := 7, ground := Ground.data }, { on := 17, ground := Ground.data }], guard := none }) (v := ?_) rfl (by kernel_rfl) (by kernel_rfl) (by kernel_rfl) (fun _ _ _ h => h) (Or.inl ⟨by rfl, ?_⟩) (by assumption) ?_
  rotate_left
  · (intro w hSw; (try dsimp only at hSw); go_simp); first | done | with_reducible rfl
  simp only [Act.put, List.setIfInBounds_toArray, List.set_cons_zero, List.set_cons_succ]
  refine wpAnyH_take (i := 19) (oi := { dst := some 39, op := Op.indexAddr 26 (Operand.tmp 23) (Operand.tmp 25), type := 0, pos := "ref.go:68", after := #[{ on := 3, ground := Ground.data }, { on := 5, ground := Ground.data }, { on := 0, ground := Ground.phase }, { on := 1, ground := Ground.phase }, { on := 2, ground := Ground.phase }, { on := 3, ground := Ground.phase }, { on := 4, ground := Ground.phase }, { on := 5, ground := Ground.phase }, { on := 6, ground := Ground.phase }, { on := 7, ground := Ground.phase }, { on := 8, ground := Ground.phase }, { on := 9, ground := Ground.phase }, { on := 10, ground := Ground.phase }, { on := 11, ground := Ground.phase }, { on := 12, ground := Ground.phase }, { on := 13, ground := Ground.phase }, { on := 14, ground := Ground.phase }, { on := 15, ground := Ground.phase }, { on := 16, ground := Ground.phase }, { on := 17, ground := Ground.phase }, { on := 18, ground := Ground.phase }], guard := none }) (v := ?_) rfl (by kernel_rfl) (by kernel_rfl) (by kernel_rfl) (fun _ _ _ h => h) (Or.inl ⟨by rfl, ?_⟩) (by assumption) ?_
  rotate_left
  · (intro w hSw; (try dsimp only at hSw); go_simp); first | done | with_reducible rfl
  simp only [Act.put, List.setIfInBounds_toArray, List.set_cons_zero, List.set_cons_succ]
  refine wpAnyH_take (i := 20) (oi := { dst := some 40, op := Op.fieldAddr 46 (Operand.tmp 39) 2, type := 0, pos := "ref.go:68", after := #[{ on := 19, ground := Ground.data }, { on := 0, ground := Ground.phase }, { on := 1, ground := Ground.phase }, { on := 2, ground := Ground.phase }, { on := 3, ground := Ground.phase }, { on := 4, ground := Ground.phase }, { on := 5, ground := Ground.phase }, { on := 6, ground := Ground.phase }, { on := 7, ground := Ground.phase }, { on := 8, ground := Ground.phase }, { on := 9, ground := Ground.phase }, { on := 10, ground := Ground.phase }, { on := 11, ground := Ground.phase }, { on := 12, ground := Ground.phase }, { on := 13, ground := Ground.phase }, { on := 14, ground := Ground.phase }, { on := 15, ground := Ground.phase }, { on := 16, ground := Ground.phase }, { on := 17, ground := Ground.phase }, { on := 18, ground := Ground.phase }], guard := none }) (v := ?_) rfl (by kernel_rfl) (by kernel_rfl) (by kernel_rfl) (fun _ _ _ h => h) (Or.inl ⟨by rfl, ?_⟩) (by assumption) ?_
  rotate_left
  · (intro w hSw; (try dsimp only at hSw); go_simp); first | done | with_reducible rfl
  simp only [Act.put, List.setIfInBounds_toArray, List.set_cons_zero, List.set_cons_succ]
  refine wpAnyH_ready (rs := [21]) (by kernel_rfl) (by simp) ?_
  refine AllReadyH.cons rfl (fun K hK => ?_) ?_
  rotate_left
  · exact AllReadyH.nil
  go_simp
  refine hK.out _ _ HS4.out (fun hHeld => ?_)
  clear hK K
  refine wpAnyH_done (by kernel_rfl) ?_ _
  clear hHeld
  go_wp2_with fail
  go_ret
  exact ⟨rfl, HP4.out, HK4.out⟩
end Go.Proofs.Ythagachlilnjpaa
