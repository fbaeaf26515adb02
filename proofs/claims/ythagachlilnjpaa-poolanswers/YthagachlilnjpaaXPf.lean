/- The pool's calls: Copy, Trim. -/
import Derived.Test.YthagachlilnjpaaXPe
namespace Go.Proofs.Ythagachlilnjpaa
open Go.RowKit Go.Maps
variable {w w' w2 : World} {g mb made K : Nat} {M : Int → Option Ltr} {C : Int → List Int}
attribute [local go_sem ↓] ldT_eq stT_eq

set_option maxRecDepth 100000 in
theorem copy_no (P : Pl w g mb made K M C) {x : Int} (hx : i64ok x) (hM : M x = none) : Calls Try.prog 20 #[ptr g, .int .i64 x] w fun r w' => r = .returned (.tuple #[.int .i64 0, .int .i64 15]) ∧ Below w.heap.size w w' := by
  have HC := hide (look_no P hx hM)
  clear P hM
  go_enter Try.func20, Try.ntmps20
  go_wp2_with fail
  refine HC.out.mono ?_
  rintro r w2 ⟨rfl, b2⟩
  obtain ⟨g3, hg3⟩ : ∃ g3, w2.heap.size = g3 := ⟨_, rfl⟩
  obtain ⟨w3, hst0, T3, b3, z3⟩ := madeT w2 t0 g3 hg3
  have hst : (stT (.pointer (some ⟨g3, 0, none⟩)) (.agg (TC t0))).run Try.prog (w2.alloc (.cells #[.int .i64 0, .int .i64 0, .slice none 0 0] 40)) = .ok () w3 := hst0
  have HB := hide (b2.trans (b3.mono b2.size))
  clear hst0 T3 b3 z3 b2 HC
  go_wp2_with fail
  go_ret2
  exact ⟨rfl, HB.out⟩
set_option maxRecDepth 100000 in
theorem copy_yes (P : Pl w g mb made K M C) {x : Int} (hx : i64ok x) {l : Ltr} (hM : M x = some l) (hm : made < 9223372036854775807) (hK : K < maxLen) : Calls Try.prog 20 #[ptr g, .int .i64 x] w fun r w' =>
    r = .returned (.tuple #[.int .i64 ((made + 1 : Nat) : Int), .int .i64 0]) ∧ ∃ bo cc, Pl w' g mb (made + 1) (K + 1) (mput M ((made + 1 : Nat) : Int) ⟨l.frm, l.dst, bo, l.bn, cc⟩) (cput C ((made + 1 : Nat) : Int) (C x)) ∧ Fw w w' g mb ∧ ∀ k, blk bo = some k → w.heap.size ≤ k := by
  have HC := hide (look_yes P hx hM)
  have HP := hide P
  have HR := hide (P.row x l hM)
  have HM := hide (And.intro hm hK)
  clear P hM hm hK hx
  go_enter Try.func20, Try.ntmps20
  go_wp2_with fail
  refine HC.out.mono ?_
  rintro r w2 ⟨bo, cc, rfl, B2, N2⟩
  obtain ⟨g3, hg3⟩ : ∃ g3, w2.heap.size = g3 := ⟨_, rfl⟩
  obtain ⟨w3, hst, T3, b3, z3⟩ := madeT w2 ⟨l.frm, l.dst, bo, l.bn, cc⟩ g3 hg3
  rw [t0_cells] at hst
  have hld := run_ldT T3
  have hb := N2.1.trans (b3.mono N2.1.size)
  have HPu := hide (put_any (HP.out.below hb) l.frm l.dst bo l.bn cc (C x) ((B2.below b3).bs) (fun k e => by have := N2.2 k e; have := HP.out.g_lt; omega) HR.out.big HM.out.1 HM.out.2)
  have HB := hide hb
  clear T3 b3 z3 hb B2 N2 HC
  go_wp2_with fail
  refine HPu.out.mono ?_
  rintro r w4 ⟨rfl, b4, c4, P4, F4, k4⟩
  have HK4 : Hid (∀ k, blk b4 = some k → w.heap.size ≤ k) := fun k e => Nat.le_trans HB.out.size (k4 k e)
  have HP4 := hide P4
  have HF4 := hide ((Fw.of_below HB.out).trans F4)
  clear P4 F4 HPu hld k4
  go_wp2_with fail
  go_ret2
  exact ⟨rfl, b4, c4, HP4.out, HF4.out, HK4.out⟩
set_option maxRecDepth 100000 in
theorem trim_no (P : Pl w g mb made K M C) {x : Int} (hx : i64ok x) (hM : M x = none) (cut : Int) : Calls Try.prog 21 #[ptr g, .int .i64 x, .int .i64 cut] w fun r w' => r = .returned (.int .i64 15) ∧ Below w.heap.size w w' := by
  have x1 := P.c1
  have hl := P.look_run hx
  rw [hM] at hl
  simp only [Option.getD_none, Option.isSome_none] at hl
  obtain ⟨g2, hg2⟩ : ∃ g2, w.heap.size = g2 := ⟨_, rfl⟩
  obtain ⟨w2, hst0, T2, b2, z2⟩ := madeT w t0 g2 hg2
  have hst : (stT (.pointer (some ⟨g2, 0, none⟩)) (.agg (TC t0))).run Try.prog (w.alloc (.cells #[.int .i64 0, .int .i64 0, .slice none 0 0] 40)) = .ok () w2 := hst0
  have HB := hide b2
  clear hst0 T2 b2 z2 P hM hx
  go_enter Try.func21, Try.ntmps21
  go_wp2_with fail
  go_ret
  exact ⟨rfl, HB.out⟩
set_option maxRecDepth 100000 in
theorem trim_arg (P : Pl w g mb made K M C) {x : Int} (hx : i64ok x) {l : Ltr} (hM : M x = some l) {cut : Int} (hc : cut < 1) : Calls Try.prog 21 #[ptr g, .int .i64 x, .int .i64 cut] w fun r w' => r = .returned (.int .i64 2) ∧ Below w.heap.size w w' := by
  have x1 := P.c1
  have hl := P.look_run hx
  rw [hM] at hl
  simp only [Option.getD_some, Option.isSome_some] at hl
  obtain ⟨g2, hg2⟩ : ∃ g2, w.heap.size = g2 := ⟨_, rfl⟩
  obtain ⟨w2, hst, T2, b2, z2⟩ := madeT w l g2 hg2
  rw [t0_cells] at hst
  have HB := hide b2
  clear T2 b2 z2 P hM hx
  go_enter Try.func21, Try.ntmps21
  go_wp2_with fail
  go_ret
  exact ⟨rfl, HB.out⟩
theorem BS.cutTo {ao : Option Addr} {n c : Nat} {Z : List Int} (S : BS w ao n c Z) (k : Nat) (hk : k ≤ n) : BS w ao k k (Z.take k) := by
  refine ⟨by rw [List.length_take, S.len]; omega, fun h => by have := S.nil h; omega, fun ad ha t ht => ?_⟩
  rw [S.cell ad ha t (by omega)]
  simp [List.getD, ht]
set_option maxRecDepth 100000 in
theorem trim_ok (P : Pl w g mb made K M C) {x : Int} (hx : i64ok x) {f t : Int} {o : Option Addr} {n c : Nat} (hM : M x = some ⟨f, t, o, n, c⟩) {cut : Int} (hc : 1 ≤ cut) (hc2 : cut ≤ 9223372036854775807) (hK : K < maxLen) (lf : Nat) (hlf : lf = ((n : Int) - cut).toNat) : Calls Try.prog 21 #[ptr g, .int .i64 x, .int .i64 cut] w fun r w' =>
    r = .returned (.int .i64 0) ∧ Pl w' g mb made (K + 1) (mput M x ⟨f, t, o, lf, lf⟩) (cput C x ((C x).take lf)) ∧ Fw w w' g mb := by
  have R := P.row x _ hM
  have D := P.dom x _ hM
  have x1 := P.c1
  have hl := P.look_run hx
  rw [hM] at hl
  simp only [Option.getD_some, Option.isSome_some] at hl
  obtain ⟨g1, hg1⟩ : ∃ g1, w.heap.size = g1 := ⟨_, rfl⟩
  obtain ⟨w2, hst, T2, b2, z2⟩ := madeT w ⟨f, t, o, n, c⟩ g1 hg1
  rw [t0_cells] at hst
  have y2 := T2.c2
  simp only at y2
  have f2 : w2.frozen? ⟨g1, 2, none⟩ = false := frozen_of_box T2 2
  have hbig := R.big
  have hcap := R.cap
  simp only at hbig hcap
  have hsub : wrap64 ((n : Int) - cut) = (n : Int) - cut := w64 (by omega) (by omega)
  have hmax : max ((n : Int) - cut) 0 = (lf : Int) := by omega
  have hlfn : lf ≤ n := by omega
  have T3 := set2 T2 o lf lf
  simp only at T3
  obtain ⟨w3, hw3⟩ : ∃ w3, w2.setCell ⟨g1, 2, none⟩ (.slice o lf lf) = w3 := ⟨_, rfl⟩
  rw [hw3] at T3
  have b3 : Below w.heap.size w w3 := by rw [← hw3]; exact Below.set b2 g1 2 _ (by omega)
  have P3 := P.below b3
  have R3 : Rw w3 g mb ⟨f, t, o, lf, lf⟩ ((C x).take lf) := by
    have R' := R.keep (Fw.of_below (g := g) (mb := mb) b3)
    exact ⟨R'.bs.cutTo lf hlfn, R'.ne, by show lf ≤ _; omega, Nat.le_refl _⟩
  obtain ⟨w4, hup, P4, N4⟩ := (P3.below (below_drewN w3 1)).put_run hx D.1 D.2 (R3.keep (Fw.of_below (below_drewN w3 1))) hK
  have hup' : (Instr.mapUpdate 59 (.map (some mb)) (.int .i64 x) (.agg (TC ⟨f, t, o, lf, lf⟩))).run Try.prog w3.drew = .ok () w4 := hup
  clear hup
  have HS28 : Hid (w3.drew.cell? ⟨g, 1, none⟩ = some (.map (some mb)) ∧ (ldT (.pointer (some ⟨g1, 0, none⟩))).run Try.prog w3.drew = .ok (.agg (TC ⟨f, t, o, lf, lf⟩)) w3.drew) := ⟨P3.c1, run_ldT (T3.below (below_drew1 _))⟩
  have HS4 : Hid (w4.cell? ⟨g, 1, none⟩ = some (.map (some mb)) ∧ (ldT (.pointer (some ⟨g1, 0, none⟩))).run Try.prog w4 = .ok (.agg (TC ⟨f, t, o, lf, lf⟩)) w4) := ⟨P4.c1, run_ldT (show TBox w4 g1 _ from (N4.block g1 (by have := P.mb_lt; omega)).trans (T3.below (below_drewN w3 1)))⟩
  have HP4 := hide P4
  have HF4 : Hid (Fw w w4 g mb) := (Fw.of_below b3).trans ((Fw.of_below (below_drewN w3 1)).trans N4.fw)
  have HN := hide R.bs.nil
  have hlc : ¬ ((c : Int) < lf) := by omega
  have hlf0 : ¬ ((lf : Int) < 0) := by omega
  clear P hM hx T2 b2 z2 R D R3 P3 P4 N4 b3 T3 hc2 hK hmax
  by_cases hle : cut ≤ (n : Int)
  · have hsub2 : wrap64 ((n : Int) - cut) = (lf : Int) := by rw [hsub]; omega
    clear hsub hlf hle
    go_enter Try.func21, Try.ntmps21
    go_wp2_with fail
    refine wp_region_held_drew (S := fun W => W.cell? ⟨g, 1, none⟩ = some (.map (some mb)) ∧ (ldT (.pointer (some ⟨g1, 0, none⟩))).run Try.prog W = .ok (.agg (TC ⟨f, t, o, lf, lf⟩)) W) (by kernel_rfl) (HS28.out) (fun hHeld => ?_)
    refine wpAnyH_take (i := 0) (oi := { dst := some 37, op := Op.move (Operand.tmp 0), type := 24, pos := "pool.go:77", after := #[], guard := none }) (v := ?_) rfl (by kernel_rfl) (by kernel_rfl) (by kernel_rfl) (fun _ _ _ h => h) (Or.inl ⟨by rfl, ?_⟩) (by assumption) ?_
    rotate_left
    · (intro w hSw; (try dsimp only at hSw); go_simp); first | done | with_reducible rfl
    simp only [Act.put, List.setIfInBounds_toArray, List.set_cons_zero, List.set_cons_succ]
    refine wpAnyH_take (i := 1) (oi := { dst := some 38, op := Op.nilCheck (Operand.tmp 37), type := 0, pos := "pool.go:77", after := #[{ on := 0, ground := Ground.data }], guard := none }) (v := ?_) rfl (by kernel_rfl) (by kernel_rfl) (by kernel_rfl) (fun _ _ _ h => h) (Or.inl ⟨by rfl, ?_⟩) (by assumption) ?_
    rotate_left
    · (intro w hSw; (try dsimp only at hSw); go_simp); first | done | with_reducible rfl
    simp only [Act.put, List.setIfInBounds_toArray, List.set_cons_zero, List.set_cons_succ]
    refine wpAnyH_take (i := 2) (oi := { dst := some 39, op := Op.fieldAddr 61 (Operand.tmp 38) 1, type := 0, pos := "pool.go:77", after := #[{ on := 1, ground := Ground.data }], guard := none }) (v := ?_) rfl (by kernel_rfl) (by kernel_rfl) (by kernel_rfl) (fun _ _ _ h => h) (Or.inl ⟨by rfl, ?_⟩) (by assumption) ?_
    rotate_left
    · (intro w hSw; (try dsimp only at hSw); go_simp); first | done | with_reducible rfl
    simp only [Act.put, List.setIfInBounds_toArray, List.set_cons_zero, List.set_cons_succ]
    refine wpAnyH_take (i := 3) (oi := { dst := some 40, op := Op.load 59 (Operand.tmp 39), type := 59, pos := "pool.go:77", after := #[{ on := 2, ground := Ground.data }], guard := none }) (v := ?_) rfl (by kernel_rfl) (by kernel_rfl) (by kernel_rfl) (fun _ _ _ h => h) (Or.inl ⟨by rfl, ?_⟩) (by assumption) ?_
    rotate_left
    · (intro w hSw; (try dsimp only at hSw); go_simp); first | done | with_reducible rfl
    simp only [Act.put, List.setIfInBounds_toArray, List.set_cons_zero, List.set_cons_succ]
    refine wpAnyH_take (i := 4) (oi := { dst := some 41, op := Op.move (Operand.tmp 1), type := 3, pos := "pool.go:77", after := #[], guard := none }) (v := ?_) rfl (by kernel_rfl) (by kernel_rfl) (by kernel_rfl) (fun _ _ _ h => h) (Or.inl ⟨by rfl, ?_⟩) (by assumption) ?_
    rotate_left
    · (intro w hSw; (try dsimp only at hSw); go_simp); first | done | with_reducible rfl
    simp only [Act.put, List.setIfInBounds_toArray, List.set_cons_zero, List.set_cons_succ]
    refine wpAnyH_take (i := 5) (oi := { dst := some 42, op := Op.load 40 (Operand.tmp 7), type := 40, pos := "pool.go:77", after := #[], guard := none }) (v := ?_) rfl (by kernel_rfl) (by kernel_rfl) (by kernel_rfl) (fun _ _ _ h => h) (Or.inl ⟨by rfl, ?_⟩) (by assumption) ?_
    rotate_left
    · (intro w hSw; (try dsimp only at hSw); go_simp); first | done | with_reducible rfl
    simp only [Act.put, List.setIfInBounds_toArray, List.set_cons_zero, List.set_cons_succ]
    refine wpAnyH_ready (rs := [6]) (by kernel_rfl) (by simp) ?_
    refine AllReadyH.cons rfl (fun K hK => ?_) ?_
    rotate_left
    · exact AllReadyH.nil
    go_simp
    refine hK.out _ _ HS4.out (fun hHeld => ?_)
    clear hK K
    refine wpAnyH_done (by kernel_rfl) ?_ _
    clear hHeld
    go_wp2_with fail
    go_ret
    exact ⟨rfl, HP4.out, HF4.out⟩
  · obtain ⟨z, hz⟩ : ∃ z, (n : Int) - cut = z := ⟨_, rfl⟩
    have hz0 : z < 0 := by omega
    obtain rfl : lf = 0 := by omega
    have hsub3 : wrap64 ((n : Int) - cut) = z := by rw [hsub]; exact hz
    clear hlf hle hz hsub
    go_enter Try.func21, Try.ntmps21
    go_wp2_with fail
    refine wp_region_held_drew (S := fun W => W.cell? ⟨g, 1, none⟩ = some (.map (some mb)) ∧ (ldT (.pointer (some ⟨g1, 0, none⟩))).run Try.prog W = .ok (.agg (TC ⟨f, t, o, 0, 0⟩)) W) (by kernel_rfl) (HS28.out) (fun hHeld => ?_)
    refine wpAnyH_take (i := 0) (oi := { dst := some 37, op := Op.move (Operand.tmp 0), type := 24, pos := "pool.go:77", after := #[], guard := none }) (v := ?_) rfl (by kernel_rfl) (by kernel_rfl) (by kernel_rfl) (fun _ _ _ h => h) (Or.inl ⟨by rfl, ?_⟩) (by assumption) ?_
    rotate_left
    · (intro w hSw; (try dsimp only at hSw); go_simp); first | done | with_reducible rfl
    simp only [Act.put, List.setIfInBounds_toArray, List.set_cons_zero, List.set_cons_succ]
    refine wpAnyH_take (i := 1) (oi := { dst := some 38, op := Op.nilCheck (Operand.tmp 37), type := 0, pos := "pool.go:77", after := #[{ on := 0, ground := Ground.data }], guard := none }) (v := ?_) rfl (by kernel_rfl) (by kernel_rfl) (by kernel_rfl) (fun _ _ _ h => h) (Or.inl ⟨by rfl, ?_⟩) (by assumption) ?_
    rotate_left
    · (intro w hSw; (try dsimp only at hSw); go_simp); first | done | with_reducible rfl
    simp only [Act.put, List.setIfInBounds_toArray, List.set_cons_zero, List.set_cons_succ]
    refine wpAnyH_take (i := 2) (oi := { dst := some 39, op := Op.fieldAddr 61 (Operand.tmp 38) 1, type := 0, pos := "pool.go:77", after := #[{ on := 1, ground := Ground.data }], guard := none }) (v := ?_) rfl (by kernel_rfl) (by kernel_rfl) (by kernel_rfl) (fun _ _ _ h => h) (Or.inl ⟨by rfl, ?_⟩) (by assumption) ?_
    rotate_left
    · (intro w hSw; (try dsimp only at hSw); go_simp); first | done | with_reducible rfl
    simp only [Act.put, List.setIfInBounds_toArray, List.set_cons_zero, List.set_cons_succ]
    refine wpAnyH_take (i := 3) (oi := { dst := some 40, op := Op.load 59 (Operand.tmp 39), type := 59, pos := "pool.go:77", after := #[{ on := 2, ground := Ground.data }], guard := none }) (v := ?_) rfl (by kernel_rfl) (by kernel_rfl) (by kernel_rfl) (fun _ _ _ h => h) (Or.inl ⟨by rfl, ?_⟩) (by assumption) ?_
    rotate_left
    · (intro w hSw; (try dsimp only at hSw); go_simp); first | done | with_reducible rfl
    simp only [Act.put, List.setIfInBounds_toArray, List.set_cons_zero, List.set_cons_succ]
    refine wpAnyH_take (i := 4) (oi := { dst := some 41, op := Op.move (Operand.tmp 1), type := 3, pos := "pool.go:77", after := #[], guard := none }) (v := ?_) rfl (by kernel_rfl) (by kernel_rfl) (by kernel_rfl) (fun _ _ _ h => h) (Or.inl ⟨by rfl, ?_⟩) (by assumption) ?_
    rotate_left
    · (intro w hSw; (try dsimp only at hSw); go_simp); first | done | with_reducible rfl
    simp only [Act.put, List.setIfInBounds_toArray, List.set_cons_zero, List.set_cons_succ]
    refine wpAnyH_take (i := 5) (oi := { dst := some 42, op := Op.load 40 (Operand.tmp 7), type := 40, pos := "pool.go:77", after := #[], guard := none }) (v := ?_) rfl (by kernel_rfl) (by kernel_rfl) (by kernel_rfl) (fun _ _ _ h => h) (Or.inl ⟨by rfl, ?_⟩) (by assumption) ?_
    rotate_left
    · (intro w hSw; (try dsimp only at hSw); go_simp); first | done | with_reducible rfl
    simp only [Act.put, List.setIfInBounds_toArray, List.set_cons_zero, List.set_cons_succ]
    refine wpAnyH_ready (rs := [6]) (by kernel_rfl) (by simp) ?_
    refine AllReadyH.cons rfl (fun K hK => ?_) ?_
    rotate_left
    · exact AllReadyH.nil
    go_simp
    refine hK.out _ _ HS4.out (fun hHeld => ?_)
    clear hK K
    refine wpAnyH_done (by kernel_rfl) ?_ _
    clear hHeld
    go_wp2_with fail
    go_ret
    exact ⟨rfl, HP4.out, HF4.out⟩
end Go.Proofs.Ythagachlilnjpaa
