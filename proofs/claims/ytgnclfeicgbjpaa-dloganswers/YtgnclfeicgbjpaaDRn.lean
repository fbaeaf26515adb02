/- The reference's From, wherever it is asked. -/
import Derived.Test.YtgnclfeicgbjpaaDRa
import Derived.OrdersHeld
namespace Go.Proofs.Ytgnclfeicgbjpaa
open Go.RowKit
variable {w w' w2 : World} {g B cap : Nat} {m s k : Int} {A : List Int} {ao : Option Addr}

set_option maxRecDepth 100000 in
set_option maxHeartbeats 1000000 in
theorem rfromN_mid (w : World) (L : Rf B w g m s k A ao cap) (D : Rb m s k A) (n : Int) (j : Nat) (hj : n = s + (j : Int)) (hkj : k ≤ (j : Int)) (hjl : j ≤ A.length) (P : Option Addr) (HE : Hid ((if cap = j then ao else Option.map (fun x => x.add j) ao) = P)) :
    Calls Try.prog 22 #[ptr g, .int .i64 n] w fun e w' =>
    ∃ bo c2, e = .returned (.tuple #[.slice bo (A.length - j) c2, .bool true]) ∧ w'.ownsRow w.heap.size 3 1 (.slice bo (A.length - j) c2) (A.length - j) (ics (A.drop j)) ∧ Below w.heap.size w w' := by
  have HL := hide L
  have HD := hide D
  have hlen := L.len
  have HW : Hid (IntKind.i64.wrap (n - s) = (j : Int)) := by show _ = _; have := D.l; rw [show n - s = (j : Int) by omega, IntKind.wrap_i64]; omega
  have d1 : ¬ (n < s + k) := by omega
  have d2 : ¬ (s + (A.length : Int) < n) := by omega
  have d3 : decide (n < s + k) = false := decide_eq_false d1
  clear L D hj hkj
  go_enter Try.func22, Try.ntmps22
  go_wp2_with fail
  refine (rfirst_any _ HL.out HD.out).mono ?_
  rintro e w1 ⟨rfl, n1, hw1⟩
  have H1 : Hid (Rf B w1 g m s k A ao cap ∧ Below w.heap.size w w1) := by rw [hw1]; exact ⟨HL.out.drewN n1, below_drewN w n1⟩
  clear hw1 HL
  go_wp2_with fail
  refine (rnext_any _ H1.out.1 HD.out).mono ?_
  rintro e w2 ⟨rfl, n2, hw2⟩
  have H2 : Hid (Rf B w2 g m s k A ao cap ∧ Below w.heap.size w w2) := by rw [hw2]; exact ⟨H1.out.1.drewN n2, below_on' H1.out.2 (below_drewN w1 n2)⟩
  clear hw2 H1
  go_wp2_with fail
  refine wp_region_held_drew (S := fun W => W.cell? ⟨g, 1, none⟩ = some (.int .i64 s) ∧ W.cell? ⟨g, 3, none⟩ = some (.slice ao A.length cap)) (by kernel_rfl) (⟨(H2.out.1.below (below_drew1 w2)).c1, (H2.out.1.below (below_drew1 w2)).c3⟩) (fun hHeld => ?_)
  refine wpAnyH_take (i := 1) (oi := { dst := some 17, op := Op.move (Operand.tmp 0), type := 28, pos := "ref.go:45", after := #[], guard := none }) (v := ?_) rfl (by kernel_rfl) (by kernel_rfl) (by kernel_rfl) (fun _ _ _ h => h) (Or.inl ⟨by rfl, ?_⟩) (by assumption) ?_
  rotate_left
  · (intro w hSw; (try dsimp only at hSw); go_simp); first | done | with_reducible rfl
  simp only [Act.put, List.setIfInBounds_toArray, List.set_cons_zero, List.set_cons_succ]
  refine wpAnyH_take (i := 2) (oi := { dst := some 18, op := Op.nilCheck (Operand.tmp 17), type := 0, pos := "ref.go:45", after := #[{ on := 1, ground := Ground.data }], guard := none }) (v := ?_) rfl (by kernel_rfl) (by kernel_rfl) (by kernel_rfl) (fun _ _ _ h => h) (Or.inl ⟨by rfl, ?_⟩) (by assumption) ?_
  rotate_left
  · (intro w hSw; (try dsimp only at hSw); go_simp); first | done | with_reducible rfl
  simp only [Act.put, List.setIfInBounds_toArray, List.set_cons_zero, List.set_cons_succ]
  refine wpAnyH_take (i := 3) (oi := { dst := some 19, op := Op.fieldAddr 49 (Operand.tmp 18) 3, type := 0, pos := "ref.go:45", after := #[{ on := 2, ground := Ground.data }], guard := none }) (v := ?_) rfl (by kernel_rfl) (by kernel_rfl) (by kernel_rfl) (fun _ _ _ h => h) (Or.inl ⟨by rfl, ?_⟩) (by assumption) ?_
  rotate_left
  · (intro w hSw; (try dsimp only at hSw); go_simp); first | done | with_reducible rfl
  simp only [Act.put, List.setIfInBounds_toArray, List.set_cons_zero, List.set_cons_succ]
  refine wpAnyH_take (i := 4) (oi := { dst := some 20, op := Op.load 38 (Operand.tmp 19), type := 38, pos := "ref.go:45", after := #[{ on := 3, ground := Ground.data }], guard := none }) (v := ?_) rfl (by kernel_rfl) (by kernel_rfl) (by kernel_rfl) (fun _ _ _ h => h) (Or.inl ⟨by rfl, ?_⟩) (by assumption) ?_
  rotate_left
  · (intro w hSw; (try dsimp only at hSw); obtain ⟨hc1, hc3⟩ := hSw; go_simp); first | done | with_reducible rfl
  simp only [Act.put, List.setIfInBounds_toArray, List.set_cons_zero, List.set_cons_succ]
  refine wpAnyH_take (i := 5) (oi := { dst := some 21, op := Op.move (Operand.tmp 1), type := 3, pos := "ref.go:45", after := #[], guard := none }) (v := ?_) rfl (by kernel_rfl) (by kernel_rfl) (by kernel_rfl) (fun _ _ _ h => h) (Or.inl ⟨by rfl, ?_⟩) (by assumption) ?_
  rotate_left
  · (intro w hSw; (try dsimp only at hSw); go_simp); first | done | with_reducible rfl
  simp only [Act.put, List.setIfInBounds_toArray, List.set_cons_zero, List.set_cons_succ]
  refine wpAnyH_take (i := 6) (oi := { dst := some 22, op := Op.move (Operand.tmp 0), type := 28, pos := "ref.go:45", after := #[], guard := none }) (v := ?_) rfl (by kernel_rfl) (by kernel_rfl) (by kernel_rfl) (fun _ _ _ h => h) (Or.inl ⟨by rfl, ?_⟩) (by assumption) ?_
  rotate_left
  · (intro w hSw; (try dsimp only at hSw); go_simp); first | done | with_reducible rfl
  simp only [Act.put, List.setIfInBounds_toArray, List.set_cons_zero, List.set_cons_succ]
  refine wpAnyH_take (i := 7) (oi := { dst := some 23, op := Op.nilCheck (Operand.tmp 22), type := 0, pos := "ref.go:45", after := #[{ on := 6, ground := Ground.data }], guard := none }) (v := ?_) rfl (by kernel_rfl) (by kernel_rfl) (by kernel_rfl) (fun _ _ _ h => h) (Or.inl ⟨by rfl, ?_⟩) (by assumption) ?_
  rotate_left
  · (intro w hSw; (try dsimp only at hSw); go_simp); first | done | with_reducible rfl
  simp only [Act.put, List.setIfInBounds_toArray, List.set_cons_zero, List.set_cons_succ]
  refine wpAnyH_take (i := 8) (oi := { dst := some 24, op := Op.fieldAddr 49 (Operand.tmp 23) 1, type := 0, pos := "ref.go:45", after := #[{ on := 7, ground := Ground.data }], guard := none }) (v := ?_) rfl (by kernel_rfl) (by kernel_rfl) (by kernel_rfl) (fun _ _ _ h => h) (Or.inl ⟨by rfl, ?_⟩) (by assumption) ?_
  rotate_left
  · (intro w hSw; (try dsimp only at hSw); go_simp); first | done | with_reducible rfl
  simp only [Act.put, List.setIfInBounds_toArray, List.set_cons_zero, List.set_cons_succ]
  refine wpAnyH_take (i := 9) (oi := { dst := some 25, op := Op.load 3 (Operand.tmp 24), type := 3, pos := "ref.go:45", after := #[{ on := 8, ground := Ground.data }], guard := none }) (v := ?_) rfl (by kernel_rfl) (by kernel_rfl) (by kernel_rfl) (fun _ _ _ h => h) (Or.inl ⟨by rfl, ?_⟩) (by assumption) ?_
  rotate_left
  · (intro w hSw; (try dsimp only at hSw); obtain ⟨hc1, hc3⟩ := hSw; go_simp); first | done | with_reducible rfl
  simp only [Act.put, List.setIfInBounds_toArray, List.set_cons_zero, List.set_cons_succ]
  refine wpAnyH_take (i := 10) (oi := { dst := some 26, op := Op.binOp BinOp.sub 3 (Operand.tmp 21) (Operand.tmp 25) 3, type := 3, pos := "ref.go:45", after := #[{ on := 5, ground := Ground.data }, { on := 9, ground := Ground.data }], guard := none }) (v := ?_) rfl (by kernel_rfl) (by kernel_rfl) (by kernel_rfl) (fun _ _ _ h => h) (Or.inl ⟨by rfl, ?_⟩) (by assumption) ?_
  rotate_left
  · (intro w hSw; (try dsimp only at hSw); go_simp); first | done | with_reducible rfl
  simp only [Act.put, List.setIfInBounds_toArray, List.set_cons_zero, List.set_cons_succ]
  rw [HW.out]
  refine wpAnyH_take (i := 11) (oi := { dst := some 27, op := Op.slice 38 (Operand.tmp 20) (some (Operand.tmp 26)) none none, type := 38, pos := "ref.go:45", after := #[{ on := 4, ground := Ground.data }, { on := 10, ground := Ground.data }], guard := none }) (v := .slice P (A.length - j) (cap - j)) rfl (by kernel_rfl) (by kernel_rfl) (by kernel_rfl) (fun _ _ _ h => h) (Or.inl ⟨by rfl, ?_⟩) (by assumption) ?_
  skip
  · (intro w hSw; (try dsimp only at hSw); go_simp; exact HE.out); first | done | with_reducible rfl
  simp only [Act.put, List.setIfInBounds_toArray, List.set_cons_zero, List.set_cons_succ]
  have HP := hide ((H2.out.1.below (below_drew1 w2)).part j hjl)
  rw [HE.out] at HP
  refine wpAnyH_ready (rs := [0]) (by kernel_rfl) (by simp) ?_
  refine AllReadyH.cons rfl (fun K hK => ?_) ?_
  rotate_left
  · exact AllReadyH.nil
  go_simp
  refine hK.out _ _ ⟨((H2.out.1.below (below_drew1 w2)).below (below_new _ _)).c1, ((H2.out.1.below (below_drew1 w2)).below (below_new _ _)).c3⟩ (fun hHeld => ?_)
  clear hK K
  refine wpAnyH_ready (rs := [12]) (by kernel_rfl) (by simp) ?_
  refine AllReadyH.cons rfl (fun K hK => ?_) ?_
  rotate_left
  · exact AllReadyH.nil
  obtain ⟨bo, c2, w4, hrun, ho4, hb4⟩ := new_runs w2.drew (A.drop j) P (A.length - j) (cap - j) (by simp) HP.out.1 (by have := HD.out.l; omega) HP.out.2 38
  refine step_appI (o := { dst := some 28, op := Op.call { callee := Callee.builtin Builtin.append, args := #[Operand.tmp 16, Operand.tmp 27], argTypes := #[38, 38] }, type := 38, pos := "ref.go:45", after := #[{ on := 0, ground := Ground.data }, { on := 11, ground := Ground.data }], guard := none }) rfl (.tmp 16) (.tmp 27) rfl rfl rfl hrun ?_
  simp only [Act.put, List.setIfInBounds_toArray, List.set_cons_zero, List.set_cons_succ]
  have H4 := hide ((H2.out.1.below (below_drew1 w2)).below hb4)
  have HFin : Hid (w4.ownsRow w.heap.size 3 1 (.slice bo (A.length - j) c2) (A.length - j) (ics (A.drop j)) ∧ Below w.heap.size w w4) := ⟨own_down ho4 H2.out.2.size, below_on' (below_on' H2.out.2 (below_drew1 w2)) hb4⟩
  refine hK.out _ _ ⟨H4.out.c1, H4.out.c3⟩ (fun hHeld => ?_)
  clear hK K hrun ho4 hb4
  refine wpAnyH_take (i := 13) (oi := { dst := some 4, op := Op.assign (Operand.tmp 28), type := 38, pos := "ref.go:45", after := #[{ on := 12, ground := Ground.data }, { on := 12, ground := Ground.chain }, { on := 0, ground := Ground.phase }, { on := 1, ground := Ground.phase }, { on := 2, ground := Ground.phase }, { on := 3, ground := Ground.phase }, { on := 4, ground := Ground.phase }, { on := 5, ground := Ground.phase }, { on := 6, ground := Ground.phase }, { on := 7, ground := Ground.phase }, { on := 8, ground := Ground.phase }, { on := 9, ground := Ground.phase }, { on := 10, ground := Ground.phase }, { on := 11, ground := Ground.phase }, { on := 12, ground := Ground.phase }], guard := none }) (v := ?_) rfl (by kernel_rfl) (by kernel_rfl) (by kernel_rfl) (fun _ _ _ h => h) (Or.inl ⟨by rfl, ?_⟩) (by assumption) ?_
  rotate_left
  · (intro w hSw; (try dsimp only at hSw); go_simp); first | done | with_reducible rfl
  simp only [Act.put, List.setIfInBounds_toArray, List.set_cons_zero, List.set_cons_succ]
  refine wpAnyH_take (i := 14) (oi := { dst := some 5, op := Op.assign (Operand.const (Value.bool true)), type := 4, pos := "ref.go:45", after := #[{ on := 13, ground := Ground.chain }, { on := 0, ground := Ground.phase }, { on := 1, ground := Ground.phase }, { on := 2, ground := Ground.phase }, { on := 3, ground := Ground.phase }, { on := 4, ground := Ground.phase }, { on := 5, ground := Ground.phase }, { on := 6, ground := Ground.phase }, { on := 7, ground := Ground.phase }, { on := 8, ground := Ground.phase }, { on := 9, ground := Ground.phase }, { on := 10, ground := Ground.phase }, { on := 11, ground := Ground.phase }, { on := 12, ground := Ground.phase }, { on := 13, ground := Ground.phase }], guard := none }) (v := ?_) rfl (by kernel_rfl) (by kernel_rfl) (by kernel_rfl) (fun _ _ _ h => h) (Or.inl ⟨by rfl, ?_⟩) (by assumption) ?_
  rotate_left
  · (intro w hSw; (try dsimp only at hSw); go_simp); first | done | with_reducible rfl
  simp only [Act.put, List.setIfInBounds_toArray, List.set_cons_zero, List.set_cons_succ]
  refine wpAnyH_done (by kernel_rfl) ?_ _
  clear hHeld
  go_wp2_with fail
  go_ret2
  exact ⟨bo, c2, rfl, HFin.out⟩
/-- the items from a number on -/
def rfB (s k : Int) (A : List Int) (n : Int) : Bool := decide (s + k ≤ n ∧ n ≤ s + A.length)
def rfV (s k : Int) (A : List Int) (n : Int) : List Int := if rfB s k A n = true then A.drop (n - s).toNat else []
set_option maxRecDepth 100000 in
theorem rfromU_any (w : World) (L : Rf B w g m s k A ao cap) (D : Rb m s k A) (n : Int) : Calls Try.prog 22 #[ptr g, .int .i64 n] w fun e w' =>
    ∃ bo l c2, e = .returned (.tuple #[.slice bo l c2, .bool (rfB s k A n)]) ∧ NSrc w' bo l c2 (rfV s k A n) ∧ Below w.heap.size w w' := by
  have HL := hide L
  have HD := hide D
  by_cases h1 : n < s + k
  · have HF : Hid (rfB s k A n = false ∧ rfV s k A n = []) := by
      have : rfB s k A n = false := by unfold rfB; simp; omega
      exact ⟨this, by unfold rfV; rw [this]; rfl⟩
    rw [HF.out.1, HF.out.2]
    clear L D HF
    go_enter Try.func22, Try.ntmps22
    go_wp2_with fail
    refine (rfirst_any _ HL.out HD.out).mono ?_
    rintro e w1 ⟨rfl, n1, hw1⟩
    have HB := hide (hw1 ▸ below_drewN w n1)
    clear hw1
    go_wp2_with fail
    go_ret2
    exact ⟨none, 0, 0, rfl, (IR.nil _).src, HB.out⟩
  · by_cases h2 : s + (A.length : Int) < n
    · have HF : Hid (rfB s k A n = false ∧ rfV s k A n = []) := by
        have : rfB s k A n = false := by unfold rfB; simp; omega
        exact ⟨this, by unfold rfV; rw [this]; rfl⟩
      rw [HF.out.1, HF.out.2]
      clear L D HF
      go_enter Try.func22, Try.ntmps22
      go_wp2_with fail
      refine (rfirst_any _ HL.out HD.out).mono ?_
      rintro e w1 ⟨rfl, n1, hw1⟩
      have H1 : Hid (Rf B w1 g m s k A ao cap ∧ Below w.heap.size w w1) := by rw [hw1]; exact ⟨HL.out.drewN n1, below_drewN w n1⟩
      clear hw1
      go_wp2_with fail
      refine (rnext_any _ H1.out.1 HD.out).mono ?_
      rintro e w2 ⟨rfl, n2, hw2⟩
      have HB := hide (below_on' H1.out.2 (hw2 ▸ below_drewN w1 n2))
      clear hw2
      go_wp2_with fail
      go_ret2
      exact ⟨none, 0, 0, rfl, (IR.nil _).src, HB.out⟩
    · obtain ⟨j, hj⟩ : ∃ j : Nat, n = s + (j : Int) := ⟨(n - s).toNat, by have := D.k0; omega⟩
      have HF : rfB s k A n = true ∧ rfV s k A n = A.drop j := by
        have : rfB s k A n = true := by unfold rfB; simp; omega
        exact ⟨this, by unfold rfV; rw [if_pos this, show (n - s).toNat = j by omega]⟩
      rw [HF.1, HF.2]
      refine (rfromN_mid w L D n j hj (by omega) (by omega) _ rfl).mono ?_
      rintro e w' ⟨bo, c2, he, ho, hb⟩
      exact ⟨bo, _, c2, he, NSrc.of_own ho (by simp), hb⟩
end Go.Proofs.Ytgnclfeicgbjpaa
