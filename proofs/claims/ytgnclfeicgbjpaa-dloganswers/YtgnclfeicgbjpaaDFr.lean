/- dlog's from and From. -/
import Derived.Test.YtgnclfeicgbjpaaDAt
import Derived.Test.YtgnclfeicgbjpaaDcl
namespace Go.Proofs.Ytgnclfeicgbjpaa
open Go.RowKit
variable {B : Nat} {w w' : World} {g : Nat} {m nx : Int} {Z : List Int} {ao : Option Addr} {cap : Nat}

theorem own_down {C D n : Nat} {v : Value} {xs : List Value} (h : w.ownsRow C 3 1 v n xs) (hd : D ≤ C) : w.ownsRow D 3 1 v n xs := by
  refine ⟨h.1, ?_⟩
  rcases h.2 with h | ⟨q, c, cur, hv, hb, r⟩
  · exact Or.inl h
  · exact Or.inr ⟨q, c, cur, hv, by omega, r⟩
/-- a part of a row as it is handed to Clone -/
def Part (w : World) (A : Option Addr) (n : Nat) (Y : List Int) : Prop := n = 0 ∨ ∃ b off, A = some ⟨b, off, none⟩ ∧ ∀ t, t < n → w.cell? ⟨b, off + t, none⟩ = some (.int .i64 (Y.getD t 0))
theorem clone_any (A : Option Addr) (n c : Nat) (Y : List Int) (w : World) (hY : Y.length = n) (hP : Part w A n Y) (hn : n ≤ 1000) : Calls Try.prog 30 #[.slice A n c] w fun e w' =>
    ∃ bo c2, e = .returned (.slice bo n c2) ∧ w'.ownsRow w.heap.size 3 1 (.slice bo n c2) n (ics Y) ∧ Below w.heap.size w w' := by
  have fin : ∀ (v : Value) (w2 : World) (xs : List Value), w2.ownsRow w.heap.size 3 1 v n xs → xs = ics Y → v ≠ .slice none 0 0 → Below w.heap.size w w2 →
      ∃ bo c2, (Ending.returned v : Ending) = .returned (.slice bo n c2) ∧ w2.ownsRow w.heap.size 3 1 (.slice bo n c2) n (ics Y) ∧ Below w.heap.size w w2 := by
    rintro v w2 xs o rfl hv b
    rcases o.2 with ⟨h, -⟩ | ⟨q, c2, cur, e, r⟩
    · exact absurd h hv
    · subst e
      exact ⟨_, _, rfl, o, b⟩
  rcases hP with h0 | ⟨b, off, rfl, hc⟩
  · subst h0
    have e := List.eq_nil_of_length_eq_zero hY
    subst e
    cases A with
    | none =>
      refine (AnyG.slices_Clone_int_nil Try.cloneI 0 c w).mono ?_
      rintro e w' ⟨rfl, rfl⟩
      exact ⟨none, 0, rfl, World.ownsRow_nil _ _ _ _, Below.refl _ _⟩
    | some a =>
      refine (AnyG.slices_Clone_int_zero Try.cloneI a c w).mono ?_
      rintro e w' ⟨v, rfl, o, hv, b⟩
      exact fin v w' _ o rfl hv b
  · refine (AnyG.slices_Clone_int Try.cloneI b off n c Y w (by omega) (by omega) (fun j hj => hc j (by omega))).mono ?_
    rintro e w' ⟨v, rfl, o, hv, b2⟩
    exact fin v w' _ o (by rw [List.take_of_length_le (by omega)]; rfl) hv b2
theorem Lg.len (L : Lg B w g m nx Z ao cap) : Z.length ≤ cap ∧ cap ≤ maxLen := by
  rcases L.own.2 with ⟨h0, h00⟩ | ⟨q, cap2, cur, hv, hbg, hgg, hnc, hcm, hcsz, htake⟩
  · simp only [Value.slice.injEq] at h0
    rw [h0.2.2, h0.2.1]
    exact ⟨Nat.le_refl _, Nat.zero_le _⟩
  · simp only [Value.slice.injEq] at hv
    rw [hv.2.2]
    exact ⟨hnc, hcm⟩
set_option maxRecDepth 100000 in
set_option maxHeartbeats 1000000 in
theorem from_mid (w : World) (L : Lg B w g m nx Z ao cap) (D : Bd m nx Z) (n : Int) (k : Nat) (hk : n - (nx - Z.length) = (k : Int)) (hl : k ≤ Z.length) (A : Option Addr) (HE : Hid ((if cap = k then ao else Option.map (fun x => x.add k) ao) = A))
    (HA : Hid (∀ W, Lg B W g m nx Z ao cap → Part W A (Z.length - k) (Z.drop k))) :
    Calls Try.prog 27 #[ptr g, .int .i64 n] w fun e w' =>
    ∃ bo c2, e = .returned (.slice bo (Z.length - k) c2) ∧ w'.ownsRow w.heap.size 3 1 (.slice bo (Z.length - k) c2) (Z.length - k) (ics (Z.drop k)) ∧ Below w.heap.size w w' := by
  have HL := hide L
  have HD := hide D
  have HW : Hid (IntKind.i64.wrap (n - (nx - Z.length)) = (k : Int)) := by show _ = _; have := D.l; rw [hk, IntKind.wrap_i64]; omega
  have hlen := L.len
  clear L D hk
  go_enter Try.func27, Try.ntmps27
  go_wp2_with fail
  refine wp_region_held_drew (S := fun W => W.cell? ⟨g, 2, none⟩ = some (.slice ao Z.length cap)) (by kernel_rfl) (HL.out.below (below_drew1 w)).c2 (fun hHeld => ?_)
  refine wpAnyH_take (i := 0) (oi := { dst := some 5, op := Op.move (Operand.tmp 0), type := 26, pos := "dlog.go:58", after := #[], guard := none }) (v := ?_) rfl (by kernel_rfl) (by kernel_rfl) (by kernel_rfl) (fun _ _ _ h => h) (Or.inl ⟨by rfl, ?_⟩) (by assumption) ?_
  rotate_left
  · (intro w hSw; (try dsimp only at hSw); go_simp); first | done | with_reducible rfl
  simp only [Act.put, List.setIfInBounds_toArray, List.set_cons_zero, List.set_cons_succ]
  refine wpAnyH_take (i := 1) (oi := { dst := some 6, op := Op.nilCheck (Operand.tmp 5), type := 0, pos := "dlog.go:58", after := #[{ on := 0, ground := Ground.data }], guard := none }) (v := ?_) rfl (by kernel_rfl) (by kernel_rfl) (by kernel_rfl) (fun _ _ _ h => h) (Or.inl ⟨by rfl, ?_⟩) (by assumption) ?_
  rotate_left
  · (intro w hSw; (try dsimp only at hSw); go_simp); first | done | with_reducible rfl
  simp only [Act.put, List.setIfInBounds_toArray, List.set_cons_zero, List.set_cons_succ]
  refine wpAnyH_take (i := 2) (oi := { dst := some 7, op := Op.fieldAddr 47 (Operand.tmp 6) 2, type := 0, pos := "dlog.go:58", after := #[{ on := 1, ground := Ground.data }], guard := none }) (v := ?_) rfl (by kernel_rfl) (by kernel_rfl) (by kernel_rfl) (fun _ _ _ h => h) (Or.inl ⟨by rfl, ?_⟩) (by assumption) ?_
  rotate_left
  · (intro w hSw; (try dsimp only at hSw); go_simp); first | done | with_reducible rfl
  simp only [Act.put, List.setIfInBounds_toArray, List.set_cons_zero, List.set_cons_succ]
  refine wpAnyH_take (i := 3) (oi := { dst := some 8, op := Op.load 38 (Operand.tmp 7), type := 38, pos := "dlog.go:58", after := #[{ on := 2, ground := Ground.data }], guard := none }) (v := ?_) rfl (by kernel_rfl) (by kernel_rfl) (by kernel_rfl) (fun _ _ _ h => h) (Or.inl ⟨by rfl, ?_⟩) (by assumption) ?_
  rotate_left
  · (intro w hSw; (try dsimp only at hSw); go_simp); first | done | with_reducible rfl
  simp only [Act.put, List.setIfInBounds_toArray, List.set_cons_zero, List.set_cons_succ]
  refine wpAnyH_take (i := 4) (oi := { dst := some 9, op := Op.move (Operand.tmp 1), type := 3, pos := "dlog.go:58", after := #[], guard := none }) (v := ?_) rfl (by kernel_rfl) (by kernel_rfl) (by kernel_rfl) (fun _ _ _ h => h) (Or.inl ⟨by rfl, ?_⟩) (by assumption) ?_
  rotate_left
  · (intro w hSw; (try dsimp only at hSw); go_simp); first | done | with_reducible rfl
  simp only [Act.put, List.setIfInBounds_toArray, List.set_cons_zero, List.set_cons_succ]
  refine wpAnyH_take (i := 5) (oi := { dst := some 10, op := Op.move (Operand.tmp 0), type := 26, pos := "dlog.go:58", after := #[], guard := none }) (v := ?_) rfl (by kernel_rfl) (by kernel_rfl) (by kernel_rfl) (fun _ _ _ h => h) (Or.inl ⟨by rfl, ?_⟩) (by assumption) ?_
  rotate_left
  · (intro w hSw; (try dsimp only at hSw); go_simp); first | done | with_reducible rfl
  simp only [Act.put, List.setIfInBounds_toArray, List.set_cons_zero, List.set_cons_succ]
  refine wpAnyH_ready (rs := [6]) (by kernel_rfl) (by simp) ?_
  refine AllReadyH.cons rfl (fun K hK => ?_) ?_
  rotate_left
  · exact AllReadyH.nil
  go_simp
  go_wp2_with fail
  refine (first_any _ (HL.out.below (below_drew1 w)) HD.out).mono ?_
  rintro e w1 ⟨rfl, q, hq⟩
  have b1 : Below w.heap.size w w1 := by rw [hq]; exact (below_drew1 w).trans (below_drewN w.drew q)
  have HB1 := hide b1
  have HL1 := hide (HL.out.below b1)
  clear b1 hq q
  refine hK.out _ _ HL1.out.c2 (fun hHeld => ?_)
  clear hK K
  refine wpAnyH_take (i := 7) (oi := { dst := some 12, op := Op.binOp BinOp.sub 3 (Operand.tmp 9) (Operand.tmp 11) 3, type := 3, pos := "dlog.go:58", after := #[{ on := 4, ground := Ground.data }, { on := 6, ground := Ground.data }], guard := none }) (v := ?_) rfl (by kernel_rfl) (by kernel_rfl) (by kernel_rfl) (fun _ _ _ h => h) (Or.inl ⟨by rfl, ?_⟩) (by assumption) ?_
  rotate_left
  · (intro w hSw; (try dsimp only at hSw); go_simp); first | done | with_reducible rfl
  simp only [Act.put, List.setIfInBounds_toArray, List.set_cons_zero, List.set_cons_succ]
  rw [HW.out]
  refine wpAnyH_take (i := 8) (oi := { dst := some 13, op := Op.slice 38 (Operand.tmp 8) (some (Operand.tmp 12)) none none, type := 38, pos := "dlog.go:58", after := #[{ on := 3, ground := Ground.data }, { on := 7, ground := Ground.data }], guard := none }) (v := .slice A (Z.length - k) (cap - k)) rfl (by kernel_rfl) (by kernel_rfl) (by kernel_rfl) (fun _ _ _ h => h) (Or.inl ⟨by rfl, ?_⟩) (by assumption) ?_
  skip
  · (intro w hSw; (try dsimp only at hSw); go_simp; exact HE.out); first | done | with_reducible rfl
  simp only [Act.put, List.setIfInBounds_toArray, List.set_cons_zero, List.set_cons_succ]
  refine wpAnyH_ready (rs := [9]) (by kernel_rfl) (by simp) ?_
  refine AllReadyH.cons rfl (fun K hK => ?_) ?_
  rotate_left
  · exact AllReadyH.nil
  go_simp
  go_wp2_with fail
  refine (clone_any _ _ _ (Z.drop k) w1 (by simp) (HA.out w1 HL1.out) (by have := HD.out.l; omega)).mono ?_
  rintro e w2 ⟨bo, c2, rfl, o2, b2⟩
  have HFin : Hid (w2.ownsRow w.heap.size 3 1 (.slice bo (Z.length - k) c2) (Z.length - k) (ics (Z.drop k)) ∧ Below w.heap.size w w2) := ⟨own_down o2 HB1.out.size, HB1.out.trans (b2.mono HB1.out.size)⟩
  refine hK.out _ _ (HL1.out.below b2).c2 (fun hHeld => ?_)
  clear hK K o2 b2
  refine wpAnyH_take (i := 10) (oi := { dst := some 4, op := Op.assign (Operand.tmp 14), type := 38, pos := "dlog.go:58", after := #[{ on := 9, ground := Ground.data }, { on := 9, ground := Ground.chain }, { on := 0, ground := Ground.phase }, { on := 1, ground := Ground.phase }, { on := 2, ground := Ground.phase }, { on := 3, ground := Ground.phase }, { on := 4, ground := Ground.phase }, { on := 5, ground := Ground.phase }, { on := 6, ground := Ground.phase }, { on := 7, ground := Ground.phase }, { on := 8, ground := Ground.phase }, { on := 9, ground := Ground.phase }], guard := none }) (v := ?_) rfl (by kernel_rfl) (by kernel_rfl) (by kernel_rfl) (fun _ _ _ h => h) (Or.inl ⟨by rfl, ?_⟩) (by assumption) ?_
  rotate_left
  · (intro w hSw; (try dsimp only at hSw); go_simp); first | done | with_reducible rfl
  simp only [Act.put, List.setIfInBounds_toArray, List.set_cons_zero, List.set_cons_succ]
  refine wpAnyH_done (by kernel_rfl) ?_ _
  clear hHeld
  go_wp2_with fail
  go_ret
  exact ⟨bo, c2, rfl, HFin.out⟩
theorem from_any (w : World) (L : Lg B w g m nx Z ao cap) (D : Bd m nx Z) (n : Int) (k : Nat) (hk : n - (nx - Z.length) = (k : Int)) (hl : k ≤ Z.length) :
    Calls Try.prog 27 #[ptr g, .int .i64 n] w fun e w' =>
    ∃ bo c2, e = .returned (.slice bo (Z.length - k) c2) ∧ w'.ownsRow w.heap.size 3 1 (.slice bo (Z.length - k) c2) (Z.length - k) (ics (Z.drop k)) ∧ Below w.heap.size w w' := by
  refine from_mid w L D n k hk hl _ rfl ?_
  intro W LW
  by_cases h0 : Z.length - k = 0
  · exact Or.inl h0
  · obtain ⟨q, rfl, h1, -, hc⟩ := LW.place (by omega)
    refine Or.inr ⟨q, k, by rw [if_neg (by omega)]; simp [Addr.add]; omega, fun t ht => ?_⟩
    rw [hc (k + t) (by omega)]
    simp [List.getD, List.getElem?_drop]
/-- the items from a number on -/
def fromB (nx : Int) (Z : List Int) (n : Int) : Bool := decide (nx - Z.length ≤ n ∧ n ≤ nx)
def fromV (nx : Int) (Z : List Int) (n : Int) : List Int := if fromB nx Z n = true then Z.drop (n - (nx - Z.length)).toNat else []
set_option maxRecDepth 100000 in
theorem fromU_any (w : World) (L : Lg B w g m nx Z ao cap) (D : Bd m nx Z) (n : Int) : Calls Try.prog 14 #[ptr g, .int .i64 n] w fun e w' =>
    ∃ bo c2, e = .returned (.tuple #[.slice bo (fromV nx Z n).length c2, .bool (fromB nx Z n)]) ∧ w'.ownsRow w.heap.size 3 1 (.slice bo (fromV nx Z n).length c2) (fromV nx Z n).length (ics (fromV nx Z n)) ∧ Below w.heap.size w w' := by
  have HL := hide L
  have HD := hide D
  by_cases h1 : n < nx - Z.length
  · have HF : Hid (fromB nx Z n = false ∧ fromV nx Z n = []) := by
      have : fromB nx Z n = false := by unfold fromB; simp; omega
      exact ⟨this, by unfold fromV; rw [this]; rfl⟩
    rw [HF.out.1, HF.out.2]
    clear L D HF
    go_enter Try.func14, Try.ntmps14
    go_wp2_with (go_at_call 10; refine (first_any _ HL.out HD.out).mono ?_; rintro e w' ⟨rfl, q, rfl⟩)
    go_ret2
    exact ⟨none, 0, rfl, World.ownsRow_nil _ _ _ _, below_drewN _ _⟩
  · by_cases h2 : nx < n
    · have HF : Hid (fromB nx Z n = false ∧ fromV nx Z n = []) := by
        have : fromB nx Z n = false := by unfold fromB; simp; omega
        exact ⟨this, by unfold fromV; rw [this]; rfl⟩
      rw [HF.out.1, HF.out.2]
      have c1 := L.c1
      clear L D HF
      go_enter Try.func14, Try.ntmps14
      go_wp2_with (go_at_call 10; refine (first_any _ HL.out HD.out).mono ?_; rintro e w' ⟨rfl, q, rfl⟩)
      go_ret2
      exact ⟨none, 0, rfl, World.ownsRow_nil _ _ _ _, below_drewN _ _⟩
    · obtain ⟨k, hk⟩ : ∃ k : Nat, n - (nx - Z.length) = (k : Int) := ⟨(n - (nx - Z.length)).toNat, by omega⟩
      have HKL : Hid (k ≤ Z.length) := by show _ ≤ _; omega
      have HF : Hid (fromB nx Z n = true ∧ fromV nx Z n = Z.drop k) := by
        have : fromB nx Z n = true := by unfold fromB; simp; omega
        exact ⟨this, by unfold fromV; rw [this, hk]; rfl⟩
      rw [HF.out.1, HF.out.2]
      have HKE := hide hk
      have c1 := L.c1
      clear L D HF hk
      rw [List.length_drop]
      go_enter Try.func14, Try.ntmps14
      go_wp2_with (go_at_call 10; refine (first_any _ HL.out HD.out).mono ?_; rintro e w' ⟨rfl, q, rfl⟩)
      refine (from_any _ (HL.out.drewN q) HD.out n k HKE.out HKL.out).mono ?_
      rintro e w2 ⟨bo, c2, rfl, o2, b2⟩
      have HFin := hide (And.intro o2 ((below_drewN w q).trans b2))
      clear o2 b2 c1
      go_wp2_with fail
      go_ret2
      exact ⟨bo, c2, rfl, HFin.out⟩
end Go.Proofs.Ytgnclfeicgbjpaa
