/- The reference's At, From, Held; the law's cut. -/
import Derived.Test.YtgnclfeicgbjpaaDWe
import Derived.Test.YtgnclfeicgbjpaaDAg
import Derived.OrdersHeld
namespace Go.Proofs.Ytgnclfeicgbjpaa
open Go.RowKit
variable {w w' w2 : World} {g B cap : Nat} {m s k : Int} {A : List Int} {ao : Option Addr}

def ratB (s k : Int) (A : List Int) (n : Int) : Bool := decide (s + k ≤ n ∧ n < s + A.length)
def ratV (s k : Int) (A : List Int) (n : Int) : Int := if ratB s k A n = true then A.getD (n - s).toNat 0 else 0
theorem Rf.cellA (L : Rf B w g m s k A ao cap) (j : Nat) (hj : j < A.length) : ∃ b, ao = some ⟨b, 0, none⟩ ∧ A.length ≤ cap ∧ w.cell? ⟨b, j, none⟩ = some (.int .i64 (A.getD j 0)) := by
  have hle := L.len
  rcases L.own.2 with ⟨h0, h00⟩ | ⟨q, cap2, cur, hv, r⟩
  · omega
  · simp only [Value.slice.injEq, true_and] at hv
    obtain ⟨rfl, rfl⟩ := hv
    have := L.own.cellAt j (by omega)
    rw [ics_at A j hj] at this
    exact ⟨q, rfl, hle.1, this⟩
set_option maxRecDepth 100000 in
set_option maxHeartbeats 1000000 in
theorem rat_any (w : World) (L : Rf B w g m s k A ao cap) (D : Rb m s k A) (n : Int) : Calls Try.prog 21 #[ptr g, .int .i64 n] w fun e w' =>
    e = .returned (.tuple #[.int .i64 (ratV s k A n), .bool (ratB s k A n)]) ∧ Below w.heap.size w w' := by
  have HL := hide L
  have HD := hide D
  by_cases h1 : n < s + k
  · have HF : Hid (ratB s k A n = false ∧ ratV s k A n = 0) := by
      have : ratB s k A n = false := by unfold ratB; simp; omega
      exact ⟨this, by unfold ratV; rw [this]; rfl⟩
    rw [HF.out.1, HF.out.2]
    clear L D HF
    go_enter Try.func21, Try.ntmps21
    go_wp2_with fail
    refine (rfirst_any _ HL.out HD.out).mono ?_
    rintro e w1 ⟨rfl, n1, hw1⟩
    have HB := hide (hw1 ▸ below_drewN w n1)
    clear hw1
    go_wp2_with fail
    go_ret2
    exact ⟨rfl, HB.out⟩
  · by_cases h2 : n < s + (A.length : Int)
    · obtain ⟨j, hj⟩ : ∃ j : Nat, n = s + (j : Int) := ⟨(n - s).toNat, by have := D.k0; omega⟩
      have hjl : j < A.length := by omega
      obtain ⟨x, hx⟩ : ∃ x, A.getD j 0 = x := ⟨_, rfl⟩
      have HF : Hid (ratB s k A n = true ∧ ratV s k A n = x) := by
        have : ratB s k A n = true := by unfold ratB; simp; omega
        exact ⟨this, by unfold ratV; rw [if_pos this, show (n - s).toNat = j by omega, hx]⟩
      rw [HF.out.1, HF.out.2]
      have d2 : ¬ (s + (A.length : Int) ≤ n) := by omega
      have HW : Hid (IntKind.i64.wrap (n - s) = (j : Int)) := by show _ = _; have := D.l; rw [show n - s = (j : Int) by omega, IntKind.wrap_i64]; omega
      have hjI : (j : Int) < A.length := by omega
      obtain ⟨b, hb, hcap, -⟩ := L.cellA j hjl
      subst hb
      have HCl : Hid (∀ v, Rf B v g m s k A (some ⟨b, 0, none⟩) cap → v.cell? ⟨b, j, none⟩ = some (.int .i64 x)) := fun v Lv => by
        obtain ⟨b', hb', -, hc⟩ := Lv.cellA j hjl
        cases hb'
        rw [hx] at hc
        exact hc
      clear L D HF h2 hj hx
      go_enter Try.func21, Try.ntmps21
      go_wp2_with fail
      refine (rfirst_any _ HL.out HD.out).mono ?_
      rintro e w1 ⟨rfl, n1, hw1⟩
      have H1 : Hid (Rf B w1 g m s k A (some ⟨b, 0, none⟩) cap ∧ Below w.heap.size w w1) := by rw [hw1]; exact ⟨HL.out.drewN n1, below_drewN w n1⟩
      clear hw1
      go_wp2_with fail
      refine (rnext_any _ H1.out.1 HD.out).mono ?_
      rintro e w2 ⟨rfl, n2, hw2⟩
      have H2 : Hid (Rf B w2 g m s k A (some ⟨b, 0, none⟩) cap ∧ Below w.heap.size w w2) := by rw [hw2]; exact ⟨H1.out.1.drewN n2, below_on' H1.out.2 (below_drewN w1 n2)⟩
      clear hw2 H1
      go_wp2_with fail
      refine wp_region_held_drew (S := fun W => W.cell? ⟨g, 1, none⟩ = some (.int .i64 s) ∧ W.cell? ⟨g, 3, none⟩ = some (.slice (some ⟨b, 0, none⟩) A.length cap) ∧ W.cell? ⟨b, j, none⟩ = some (.int .i64 x)) (by kernel_rfl) (⟨(H2.out.1.below (below_drew1 w2)).c1, (H2.out.1.below (below_drew1 w2)).c3, HCl.out _ (H2.out.1.below (below_drew1 w2))⟩) (fun hHeld => ?_)
      refine wpAnyH_take (i := 0) (oi := { dst := some 16, op := Op.move (Operand.tmp 0), type := 28, pos := "ref.go:37", after := #[], guard := none }) (v := ?_) rfl (by kernel_rfl) (by kernel_rfl) (by kernel_rfl) (fun _ _ _ h => h) (Or.inl ⟨by rfl, ?_⟩) (by assumption) ?_
      rotate_left
      · (intro w hSw; (try dsimp only at hSw); go_simp); first | done | with_reducible rfl
      simp only [Act.put, List.setIfInBounds_toArray, List.set_cons_zero, List.set_cons_succ]
      refine wpAnyH_take (i := 1) (oi := { dst := some 17, op := Op.nilCheck (Operand.tmp 16), type := 0, pos := "ref.go:37", after := #[{ on := 0, ground := Ground.data }], guard := none }) (v := ?_) rfl (by kernel_rfl) (by kernel_rfl) (by kernel_rfl) (fun _ _ _ h => h) (Or.inl ⟨by rfl, ?_⟩) (by assumption) ?_
      rotate_left
      · (intro w hSw; (try dsimp only at hSw); go_simp); first | done | with_reducible rfl
      simp only [Act.put, List.setIfInBounds_toArray, List.set_cons_zero, List.set_cons_succ]
      refine wpAnyH_take (i := 2) (oi := { dst := some 18, op := Op.fieldAddr 49 (Operand.tmp 17) 3, type := 0, pos := "ref.go:37", after := #[{ on := 1, ground := Ground.data }], guard := none }) (v := ?_) rfl (by kernel_rfl) (by kernel_rfl) (by kernel_rfl) (fun _ _ _ h => h) (Or.inl ⟨by rfl, ?_⟩) (by assumption) ?_
      rotate_left
      · (intro w hSw; (try dsimp only at hSw); go_simp); first | done | with_reducible rfl
      simp only [Act.put, List.setIfInBounds_toArray, List.set_cons_zero, List.set_cons_succ]
      refine wpAnyH_take (i := 3) (oi := { dst := some 19, op := Op.load 38 (Operand.tmp 18), type := 38, pos := "ref.go:37", after := #[{ on := 2, ground := Ground.data }], guard := none }) (v := ?_) rfl (by kernel_rfl) (by kernel_rfl) (by kernel_rfl) (fun _ _ _ h => h) (Or.inl ⟨by rfl, ?_⟩) (by assumption) ?_
      rotate_left
      · (intro w hSw; (try dsimp only at hSw); obtain ⟨hc1, hc3, hcj⟩ := hSw; go_simp); first | done | with_reducible rfl
      simp only [Act.put, List.setIfInBounds_toArray, List.set_cons_zero, List.set_cons_succ]
      refine wpAnyH_take (i := 4) (oi := { dst := some 20, op := Op.move (Operand.tmp 1), type := 3, pos := "ref.go:37", after := #[], guard := none }) (v := ?_) rfl (by kernel_rfl) (by kernel_rfl) (by kernel_rfl) (fun _ _ _ h => h) (Or.inl ⟨by rfl, ?_⟩) (by assumption) ?_
      rotate_left
      · (intro w hSw; (try dsimp only at hSw); go_simp); first | done | with_reducible rfl
      simp only [Act.put, List.setIfInBounds_toArray, List.set_cons_zero, List.set_cons_succ]
      refine wpAnyH_take (i := 5) (oi := { dst := some 21, op := Op.move (Operand.tmp 0), type := 28, pos := "ref.go:37", after := #[], guard := none }) (v := ?_) rfl (by kernel_rfl) (by kernel_rfl) (by kernel_rfl) (fun _ _ _ h => h) (Or.inl ⟨by rfl, ?_⟩) (by assumption) ?_
      rotate_left
      · (intro w hSw; (try dsimp only at hSw); go_simp); first | done | with_reducible rfl
      simp only [Act.put, List.setIfInBounds_toArray, List.set_cons_zero, List.set_cons_succ]
      refine wpAnyH_take (i := 6) (oi := { dst := some 22, op := Op.nilCheck (Operand.tmp 21), type := 0, pos := "ref.go:37", after := #[{ on := 5, ground := Ground.data }], guard := none }) (v := ?_) rfl (by kernel_rfl) (by kernel_rfl) (by kernel_rfl) (fun _ _ _ h => h) (Or.inl ⟨by rfl, ?_⟩) (by assumption) ?_
      rotate_left
      · (intro w hSw; (try dsimp only at hSw); go_simp); first | done | with_reducible rfl
      simp only [Act.put, List.setIfInBounds_toArray, List.set_cons_zero, List.set_cons_succ]
      refine wpAnyH_take (i := 7) (oi := { dst := some 23, op := Op.fieldAddr 49 (Operand.tmp 22) 1, type := 0, pos := "ref.go:37", after := #[{ on := 6, ground := Ground.data }], guard := none }) (v := ?_) rfl (by kernel_rfl) (by kernel_rfl) (by kernel_rfl) (fun _ _ _ h => h) (Or.inl ⟨by rfl, ?_⟩) (by assumption) ?_
      rotate_left
      · (intro w hSw; (try dsimp only at hSw); go_simp); first | done | with_reducible rfl
      simp only [Act.put, List.setIfInBounds_toArray, List.set_cons_zero, List.set_cons_succ]
      refine wpAnyH_take (i := 8) (oi := { dst := some 24, op := Op.load 3 (Operand.tmp 23), type := 3, pos := "ref.go:37", after := #[{ on := 7, ground := Ground.data }], guard := none }) (v := ?_) rfl (by kernel_rfl) (by kernel_rfl) (by kernel_rfl) (fun _ _ _ h => h) (Or.inl ⟨by rfl, ?_⟩) (by assumption) ?_
      rotate_left
      · (intro w hSw; (try dsimp only at hSw); obtain ⟨hc1, hc3, hcj⟩ := hSw; go_simp); first | done | with_reducible rfl
      simp only [Act.put, List.setIfInBounds_toArray, List.set_cons_zero, List.set_cons_succ]
      refine wpAnyH_take (i := 9) (oi := { dst := some 25, op := Op.binOp BinOp.sub 3 (Operand.tmp 20) (Operand.tmp 24) 3, type := 3, pos := "ref.go:37", after := #[{ on := 4, ground := Ground.data }, { on := 8, ground := Ground.data }], guard := none }) (v := ?_) rfl (by kernel_rfl) (by kernel_rfl) (by kernel_rfl) (fun _ _ _ h => h) (Or.inl ⟨by rfl, ?_⟩) (by assumption) ?_
      rotate_left
      · (intro w hSw; (try dsimp only at hSw); go_simp); first | done | with_reducible rfl
      simp only [Act.put, List.setIfInBounds_toArray, List.set_cons_zero, List.set_cons_succ]
      rw [HW.out]
      refine wpAnyH_take (i := 10) (oi := { dst := some 26, op := Op.indexAddr 38 (Operand.tmp 19) (Operand.tmp 25), type := 0, pos := "ref.go:37", after := #[{ on := 3, ground := Ground.data }, { on := 9, ground := Ground.data }], guard := none }) (v := ?_) rfl (by kernel_rfl) (by kernel_rfl) (by kernel_rfl) (fun _ _ _ h => h) (Or.inl ⟨by rfl, ?_⟩) (by assumption) ?_
      rotate_left
      · (intro w hSw; (try dsimp only at hSw); go_simp); first | done | with_reducible rfl
      simp only [Act.put, List.setIfInBounds_toArray, List.set_cons_zero, List.set_cons_succ]
      refine wpAnyH_take (i := 11) (oi := { dst := some 27, op := Op.load 3 (Operand.tmp 26), type := 3, pos := "ref.go:37", after := #[{ on := 10, ground := Ground.data }], guard := none }) (v := ?_) rfl (by kernel_rfl) (by kernel_rfl) (by kernel_rfl) (fun _ _ _ h => h) (Or.inl ⟨by rfl, ?_⟩) (by assumption) ?_
      rotate_left
      · (intro w hSw; (try dsimp only at hSw); obtain ⟨hc1, hc3, hcj⟩ := hSw; go_simp); first | done | with_reducible rfl
      simp only [Act.put, List.setIfInBounds_toArray, List.set_cons_zero, List.set_cons_succ]
      refine wpAnyH_take (i := 12) (oi := { dst := some 4, op := Op.assign (Operand.tmp 27), type := 3, pos := "ref.go:37", after := #[{ on := 11, ground := Ground.data }, { on := 0, ground := Ground.phase }, { on := 1, ground := Ground.phase }, { on := 2, ground := Ground.phase }, { on := 3, ground := Ground.phase }, { on := 4, ground := Ground.phase }, { on := 5, ground := Ground.phase }, { on := 6, ground := Ground.phase }, { on := 7, ground := Ground.phase }, { on := 8, ground := Ground.phase }, { on := 9, ground := Ground.phase }, { on := 10, ground := Ground.phase }, { on := 11, ground := Ground.phase }], guard := none }) (v := ?_) rfl (by kernel_rfl) (by kernel_rfl) (by kernel_rfl) (fun _ _ _ h => h) (Or.inl ⟨by rfl, ?_⟩) (by assumption) ?_
      rotate_left
      · (intro w hSw; (try dsimp only at hSw); go_simp); first | done | with_reducible rfl
      simp only [Act.put, List.setIfInBounds_toArray, List.set_cons_zero, List.set_cons_succ]
      refine wpAnyH_take (i := 13) (oi := { dst := some 5, op := Op.assign (Operand.const (Value.bool true)), type := 4, pos := "ref.go:37", after := #[{ on := 12, ground := Ground.chain }, { on := 0, ground := Ground.phase }, { on := 1, ground := Ground.phase }, { on := 2, ground := Ground.phase }, { on := 3, ground := Ground.phase }, { on := 4, ground := Ground.phase }, { on := 5, ground := Ground.phase }, { on := 6, ground := Ground.phase }, { on := 7, ground := Ground.phase }, { on := 8, ground := Ground.phase }, { on := 9, ground := Ground.phase }, { on := 10, ground := Ground.phase }, { on := 11, ground := Ground.phase }, { on := 12, ground := Ground.phase }], guard := none }) (v := ?_) rfl (by kernel_rfl) (by kernel_rfl) (by kernel_rfl) (fun _ _ _ h => h) (Or.inl ⟨by rfl, ?_⟩) (by assumption) ?_
      rotate_left
      · (intro w hSw; (try dsimp only at hSw); go_simp); first | done | with_reducible rfl
      simp only [Act.put, List.setIfInBounds_toArray, List.set_cons_zero, List.set_cons_succ]
      refine wpAnyH_done (by kernel_rfl) ?_ _
      clear hHeld
      go_wp2_with fail
      go_ret2
      exact ⟨rfl, below_on' H2.out.2 (below_drew1 w2)⟩
    · have HF : Hid (ratB s k A n = false ∧ ratV s k A n = 0) := by
        have : ratB s k A n = false := by unfold ratB; simp; omega
        exact ⟨this, by unfold ratV; rw [this]; rfl⟩
      rw [HF.out.1, HF.out.2]
      have d2 : s + (A.length : Int) ≤ n := by omega
      clear L D HF h2
      go_enter Try.func21, Try.ntmps21
      go_wp2_with fail
      refine (rfirst_any _ HL.out HD.out).mono ?_
      rintro e w1 ⟨rfl, n1, hw1⟩
      have H1 : Hid (Rf B w1 g m s k A ao cap ∧ Below w.heap.size w w1) := by rw [hw1]; exact ⟨HL.out.drewN n1, below_drewN w n1⟩
      clear hw1
      go_wp2_with fail
      refine (rnext_any _ H1.out.1 HD.out).mono ?_
      rintro e w2 ⟨rfl, n2, hw2⟩
      have HB := hide (below_on' H1.out.2 (hw2 ▸ below_drewN w1 n2))
      clear hw2
      go_wp2_with fail
      go_ret2
      exact ⟨rfl, HB.out⟩
/-- the law's cut -/
theorem cut_any (ao : Option Addr) (n c : Nat) (Y : List Int) (most : Int) (w : World) (hY : NSrc w ao n c Y) (_ : n ≤ 1000) (hc : n ≤ c) (_ : c ≤ maxLen) : Calls Try.prog 26 #[.slice ao n c, .int .i64 most] w fun e w' =>
    (∃ bo k c2, e = .returned (.slice bo k c2) ∧ NSrc w bo k c2 (cutI Y most)) ∧ w' = w := by
  have hl := hY.len
  have HS := hide hY
  by_cases h0 : most < 0
  · have HE : Hid (cutI Y most = Y) := by show _ = _; unfold cutI; rw [if_pos (.inl h0)]
    clear hY hl
    go_enter Try.func26, Try.ntmps26
    go_wp2_with fail
    go_ret
    exact ⟨⟨_, _, _, rfl, by rw [HE.out]; exact HS.out⟩, rfl⟩
  · by_cases h1 : (n : Int) < most
    · have HE : Hid (cutI Y most = Y) := by show _ = _; unfold cutI; rw [if_pos (.inr (by omega))]
      clear hY hl
      go_enter Try.func26, Try.ntmps26
      go_wp2_with fail
      go_ret
      exact ⟨⟨_, _, _, rfl, by rw [HE.out]; exact HS.out⟩, rfl⟩
    · obtain ⟨q, hq⟩ : ∃ q : Nat, most = (q : Int) := ⟨most.toNat, by omega⟩
      subst hq
      have hqn : q ≤ n := by omega
      have hqI : (q : Int) ≤ n := by omega
      have hqc : (q : Int) ≤ c := by omega
      have hqc' : q ≤ c := by omega
      have HE : Hid (cutI Y (q : Int) = Y.take q) := cut_some (by omega)
      have HN : Hid (NSrc w ao q c (Y.take q)) := by
        refine ⟨by rw [List.length_take]; omega, fun e => ?_, fun ad ha t ht => ?_⟩
        · have := HS.out.nil e
          exact ⟨by omega, this.2⟩
        · have := HS.out.cell ad ha t (by omega)
          rw [this]
          congr 2
          simp [List.getD, ht]
      clear hY hl
      go_enter Try.func26, Try.ntmps26
      go_wp2_with fail
      go_ret
      exact ⟨⟨_, _, _, rfl, by rw [HE.out]; exact HN.out⟩, rfl⟩
end Go.Proofs.Ytgnclfeicgbjpaa
