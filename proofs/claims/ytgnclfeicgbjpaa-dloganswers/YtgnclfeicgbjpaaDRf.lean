/- The reference's From, asked at its First. -/
import Derived.Test.YtgnclfeicgbjpaaDRl
import Derived.OrdersHeld
namespace Go.Proofs.Ytgnclfeicgbjpaa
open Go.RowKit
variable {B : Nat} {w w' : World} {g : Nat} {m s k : Int} {A : List Int} {ao : Option Addr} {cap : Nat}

/-- append of a part onto a new empty row, run -/
theorem new_runs (W : World) (Y : List Int) (P : Option Addr) (n c : Nat) (hY : Y.length = n) (hP : Part W P n Y) (hn : n ≤ 4400000000000) (hnil : P = none → n = 0 ∧ c = 0) (ty : TypeId) :
    ∃ bo c2 w2, (Builtin.append_ #[38, 38] ty #[.slice (some ⟨W.heap.size, 0, none⟩) 0 0, .slice P n c]).run Try.prog (W.alloc (.cells #[] 3)) = .ok (.slice bo n c2) w2 ∧ w2.ownsRow W.heap.size 3 1 (.slice bo n c2) n (ics Y) ∧ Below W.heap.size W w2 := by
  obtain ⟨i0, hi, hz0, hz1, hz2⟩ := info_parts infoI
  have hown : (W.alloc (.cells #[] 3)).ownsRow W.heap.size 3 1 (.slice (some ⟨W.heap.size, 0, none⟩) 0 0) 0 (ics []) := ⟨by simp [ics], .inr ⟨W.heap.size, 0, _, rfl, Nat.le_refl _, heap_alloc_new W _, Nat.le_refl _, by unfold maxLen; omega, by simp, by simp [ics]⟩⟩
  cases P with
  | none =>
    obtain ⟨rfl, rfl⟩ := hnil rfl
    obtain rfl : Y = [] := List.eq_nil_of_length_eq_zero hY
    exact ⟨_, 0, _, run_append_owned_none (P := Try.prog) (w := W.alloc (.cells #[] 3)) W.heap.size 38 ty 3 i0 1 Try.underlying38 hi _ 0 (ics []) hown, hown, below_new W _⟩
  | some ad =>
    obtain ⟨v', w2, hrun, ho, hgrow, _, hat⟩ := run_append_own_at (P := Try.prog) (W.alloc (.cells #[] 3)) W.heap.size 38 ty 3 i0 (.int .i64 0) 1 8 Try.underlying38 hi hz0 hz1 hz2 rfl (by decide) (.slice (some ⟨W.heap.size, 0, none⟩) 0 0) 0 (ics []) hown ad n c (ics Y) (by rw [ics_length, hY, Nat.mul_one]) (fun j u hj => by
      have hl : j < Y.length := by rw [← ics_length]; exact (List.getElem?_eq_some_iff.1 hj).1
      rw [ics_at Y j hl] at hj
      rcases hP with h0 | ⟨b, off, e, hc⟩
      · omega
      · have e' := Option.some.inj e
        subst e'
        have := hc j (by omega)
        rw [Addr.add_lit]
        rw [(below_new W (.cells #[] 3)).cell (World.block_lt_of_cell? _ _ this), this]
        exact hj) (ics_one Y) (by unfold maxLen; omega) (by omega) (by simp)
    rw [Nat.zero_add, show ics [] ++ ics Y = ics Y from rfl] at ho
    have hb : Below W.heap.size W w2 := (below_new W _).grown hgrow (by simp) (by intro k h; have : W.heap.size = k := Option.some.inj h; omega)
    rcases ho.2 with ⟨h0, h00⟩ | ⟨q, cap2, cur, hv, r⟩
    · subst h0 h00
      exact ⟨none, 0, w2, hrun, ho, hb⟩
    · subst hv
      exact ⟨_, cap2, w2, hrun, ho, hb⟩
theorem step_appI {W : World} {ops : Array Oper} {o : Oper} {a : Act} {K : Act → World → Prop} {Q : Exit → Act → World → Prop} {E : Prop} {v1 v2 v' : Value} {w2 : World} (hgd : o.guard = none) (s x : Operand) (ho : o.op = .call { callee := .builtin .append, args := #[s, x], argTypes := #[38, 38] })
    (hs : a.eval s = v1) (hx : a.eval x = v2) (hrun : (Builtin.append_ #[38, 38] o.type #[v1, v2]).run Try.prog W = .ok v' w2) (hK : K (a.put o.dst v') w2) :
    if Region.wanted o (yielded ops a.tmps) = true then Oper.wp Try.prog o a W K Q else E := by
  have hw : Region.wanted o (yielded ops a.tmps) = true := by simp [Region.wanted, hgd]
  rw [if_pos hw]
  unfold Oper.wp
  simp [execOp, ho, resolve, invoke, builtin, hs, hx, hrun, Result.andThen]
  exact hK
theorem Rf.len (L : Rf B w g m s k A ao cap) : A.length ≤ cap ∧ cap ≤ maxLen := by
  rcases L.own.2 with ⟨h0, h00⟩ | ⟨q, cap2, cur, hv, hbg, hgg, hnc, hcm, hcsz, htake⟩
  · simp only [Value.slice.injEq] at h0
    rw [h0.2.2]; unfold maxLen; omega
  · simp only [Value.slice.injEq] at hv
    rw [hv.2.2]
    exact ⟨hnc, hcm⟩
theorem Rf.part (L : Rf B w g m s k A ao cap) (j : Nat) (hj : j ≤ A.length) : Part w (if cap = j then ao else Option.map (fun x => x.add j) ao) (A.length - j) (A.drop j) ∧ ((if cap = j then ao else Option.map (fun x => x.add j) ao) = none → A.length - j = 0 ∧ cap - j = 0) := by
  rcases L.own.2 with ⟨h0, h00⟩ | ⟨q, cap2, cur, hv, hbg, hgg, hnc, hcm, hcsz, htake⟩
  · simp only [Value.slice.injEq] at h0
    obtain ⟨_, e1, e2⟩ := h0
    exact ⟨Or.inl (by omega), fun _ => ⟨by omega, by omega⟩⟩
  · have hv' := hv
    simp only [Value.slice.injEq] at hv'
    obtain ⟨rfl, -, rfl⟩ := hv'
    refine ⟨?_, fun h => ?_⟩
    · by_cases h0 : A.length - j = 0
      · exact Or.inl h0
      · refine Or.inr ⟨q, j, by rw [if_neg (by omega)]; simp [Addr.add]; omega, fun t ht => ?_⟩
        have := L.own.cellAt (j + t) (by omega)
        rw [this, ics_at A (j + t) (by omega)]
        simp [List.getD, List.getElem?_drop]
    · split at h <;> cases h
theorem below_on' {a b c : World} (h1 : Below a.heap.size a b) (h2 : Below b.heap.size b c) : Below a.heap.size a c := h1.trans (h2.mono h1.size)
set_option maxRecDepth 100000 in
set_option maxHeartbeats 1000000 in
theorem rfrom_mid (w : World) (L : Rf B w g m s k A ao cap) (D : Rb m s k A) (j : Nat) (hj : k = (j : Int)) (P : Option Addr) (HE : Hid ((if cap = j then ao else Option.map (fun x => x.add j) ao) = P)) :
    Calls Try.prog 22 #[ptr g, .int .i64 (s + k)] w fun e w' =>
    ∃ bo c2, e = .returned (.tuple #[.slice bo (A.length - j) c2, .bool true]) ∧ w'.ownsRow w.heap.size 3 1 (.slice bo (A.length - j) c2) (A.length - j) (ics (A.drop j)) ∧ Below w.heap.size w w' := by
  have HL := hide L
  have HD := hide D
  have hjl : j ≤ A.length := by have := D.k1; omega
  have hlen := L.len
  have HW : Hid (IntKind.i64.wrap (s + k - s) = (j : Int)) := by show _ = _; have := D.l; rw [show s + k - s = (j : Int) by omega, IntKind.wrap_i64]; omega
  have d1 : ¬ (s + k < s + k) := by omega
  have d2 : ¬ (s + (A.length : Int) < s + k) := by omega
  have d3 : decide (s + k < s + k) = false := decide_eq_false d1
  clear L D hj
  go_enter Try.func22, Try.ntmps22
  go_wp2_with fail
  refine (rfirst_any _ HL.out HD.out).mono ?_
  rintro e w1 ⟨rfl, n1, hw1⟩
  have H1 : Hid (Rf B w1 g m s k A ao cap ∧ Below w.heap.size w w1) := by rw [hw1]; exact ⟨HL.out.drewN n1, below_drewN w n1⟩
  clear hw1 HL
  go_wp2_with fail
  refine (rnext_any _ H1.out.1 HD.out).mono ?_
  rintro e w2 ⟨rfl, n2, hw2⟩
  have H2 : Hid (Rf B w2 g m s k A ao cap ∧ Below w.heap.size w w2) := by rw [hw2]; exact ⟨H1.out.1.drewN n2, below_on' H1.out.2 (below_drewN w1 n2)⟩
  clear hw2 H1
  go_wp2_with fail
  refine wp_region_held_drew (S := fun W => W.cell? ⟨g, 1, none⟩ = some (.int .i64 s) ∧ W.cell? ⟨g, 3, none⟩ = some (.slice ao A.length cap)) (by kernel_rfl) (⟨(H2.out.1.below (below_drew1 w2)).c1, (H2.out.1.below (below_drew1 w2)).c3⟩) (fun hHeld => ?_)
  refine wpAnyH_take (i := 1) (oi := { dst := some 17, op := Op.move (Operand.tmp 0), type := 28, pos := "ref.go:45", after := #[], guard := none }) (v := ?_) rfl (by kernel_rfl) (by kernel_rfl) (by kernel_rfl) (fun _ _ _ h => h) (Or.inl ⟨by rfl, ?_⟩) (by assumption) ?_
  rotate_left
  · (intro w hSw; (try dsimp only at hSw); go_simp); first | done | with_reducible rfl
  simp only [Act.put, List.setIfInBounds_toArray, List.set_cons_zero, List.set_cons_succ]
  refine wpAnyH_take (i := 2) (oi := { dst := some 18, op := Op.nilCheck (Operand.tmp 17), type := 0, pos := "ref.go:45", after := #[{ on := 1, ground := Ground.data }], guard := none }) (v := ?_) rfl (by kernel_rfl) (by kernel_rfl) (by kernel_rfl) (fun _ _ _ h => h) (Or.inl ⟨by rfl, ?_⟩) (by assumption) ?_
  rotate_left
  · (intro w hSw; (try dsimp only at hSw); go_simp); first | done | with_reducible rfl
  simp only [Act.put, List.setIfInBounds_toArray, List.set_cons_zero, List.set_cons_succ]
  refine wpAnyH_take (i := 3) (oi := { dst := some 19, op := Op.fieldAddr 49 (Operand.tmp 18) 3, type := 0, pos := "ref.go:45", after := #[{ on := 2, ground := Ground.data }], guard := none }) (v := ?_) rfl (by kernel_rfl) (by kernel_rfl) (by kernel_rfl) (fun _ _ _ h => h) (Or.inl ⟨by rfl, ?_⟩) (by assumption) ?_
  rotate_left
  · (intro w hSw; (try dsimp only at hSw); go_simp); first | done | with_reducible rfl
  simp only [Act.put, List.setIfInBounds_toArray, List.set_cons_zero, List.set_cons_succ]
  refine wpAnyH_take (i := 4) (oi := { dst := some 20, op := Op.load 38 (Operand.tmp 19), type := 38, pos := "ref.go:45", after := #[{ on := 3, ground := Ground.data }], guard := none }) (v := ?_) rfl (by kernel_rfl) (by kernel_rfl) (by kernel_rfl) (fun _ _ _ h => h) (Or.inl ⟨by rfl, ?_⟩) (by assumption) ?_
  rotate_left
  · (intro w hSw; (try dsimp only at hSw); obtain ⟨hc1, hc3⟩ := hSw; go_simp); first | done | with_reducible rfl
  simp only [Act.put, List.setIfInBounds_toArray, List.set_cons_zero, List.set_cons_succ]
  refine wpAnyH_take (i := 5) (oi := { dst := some 21, op := Op.move (Operand.tmp 1), type := 3, pos := "ref.go:45", after := #[], guard := none }) (v := ?_) rfl (by kernel_rfl) (by kernel_rfl) (by kernel_rfl) (fun _ _ _ h => h) (Or.inl ⟨by rfl, ?_⟩) (by assumption) ?_
  rotate_left
  · (intro w hSw; (try dsimp only at hSw); go_simp); first | done | with_reducible rfl
  simp only [Act.put, List.setIfInBounds_toArray, List.set_cons_zero, List.set_cons_succ]
  refine wpAnyH_take (i := 6) (oi := { dst := some 22, op := Op.move (Operand.tmp 0), type := 28, pos := "ref.go:45", after := #[], guard := none }) (v := ?_) rfl (by kernel_rfl) (by kernel_rfl) (by kernel_rfl) (fun _ _ _ h => h) (Or.inl ⟨by rfl, ?_⟩) (by assumption) ?_
  rotate_left
  · (intro w hSw; (try dsimp only at hSw); go_simp); first | done | with_reducible rfl
  simp only [Act.put, List.setIfInBounds_toArray, List.set_cons_zero, List.set_cons_succ]
  refine wpAnyH_take (i := 7) (oi := { dst := some 23, op := Op.nilCheck (Operand.tmp 22), type := 0, pos := "ref.go:45", after := #[{ on := 6, ground := Ground.data }], guard := none }) (v := ?_) rfl (by kernel_rfl) (by kernel_rfl) (by kernel_rfl) (fun _ _ _ h => h) (Or.inl ⟨by rfl, ?_⟩) (by assumption) ?_
  rotate_left
  · (intro w hSw; (try dsimp only at hSw); go_simp); first | done | with_reducible rfl
  simp only [Act.put, List.setIfInBounds_toArray, List.set_cons_zero, List.set_cons_succ]
  refine wpAnyH_take (i := 8) (oi := { dst := some 24, op := Op.fieldAddr 49 (Operand.tmp 23) 1, type := 0, pos := "ref.go:45", after := #[{ on := 7, ground := Ground.data }], guard := none }) (v := ?_) rfl (by kernel_rfl) (by kernel_rfl) (by kernel_rfl) (fun _ _ _ h => h) (Or.inl ⟨by rfl, ?_⟩) (by assumption) ?_
  rotate_left
  · (intro w hSw; (try dsimp only at hSw); go_simp); first | done | with_reducible rfl
  simp only [Act.put, List.setIfInBounds_toArray, List.set_cons_zero, List.set_cons_succ]
  refine wpAnyH_take (i := 9) (oi := { dst := some 25, op := Op.load 3 (Operand.tmp 24), type := 3, pos := "ref.go:45", after := #[{ on := 8, ground := Ground.data }], guard := none }) (v := ?_) rfl (by kernel_rfl) (by kernel_rfl) (by kernel_rfl) (fun _ _ _ h => h) (Or.inl ⟨by rfl, ?_⟩) (by assumption) ?_
  rotate_left
  · (intro w hSw; (try dsimp only at hSw); obtain ⟨hc1, hc3⟩ := hSw; go_simp); first | done | with_reducible rfl
  simp only [Act.put, List.setIfInBounds_toArray, List.set_cons_zero, List.set_cons_succ]
  refine wpAnyH_take (i := 10) (oi := { dst := some 26, op := Op.binOp BinOp.sub 3 (Operand.tmp 21) (Operand.tmp 25) 3, type := 3, pos := "ref.go:45", after := #[{ on := 5, ground := Ground.data }, { on := 9, ground := Ground.data }], guard := none }) (v := ?_) rfl (by kernel_rfl) (by kernel_rfl) (by kernel_rfl) (fun _ _ _ h => h) (Or.inl ⟨by rfl, ?_⟩) (by assumption) ?_
  rotate_left
  · (intro w hSw; (try dsimp only at hSw); go_simp); first | done | with_reducible rfl
  simp only [Act.put, List.setIfInBounds_toArray, List.set_cons_zero, List.set_cons_succ]
  rw [HW.out]
  refine wpAnyH_take (i := 11) (oi := { dst := some 27, op := Op.slice 38 (Operand.tmp 20) (some (Operand.tmp 26)) none none, type := 38, pos := "ref.go:45", after := #[{ on := 4, ground := Ground.data }, { on := 10, ground := Ground.data }], guard := none }) (v := .slice P (A.length - j) (cap - j)) rfl (by kernel_rfl) (by kernel_rfl) (by kernel_rfl) (fun _ _ _ h => h) (Or.inl ⟨by rfl, ?_⟩) (by assumption) ?_
  skip
  · (intro w hSw; (try dsimp only at hSw); go_simp; exact HE.out); first | done | with_reducible rfl
  simp only [Act.put, List.setIfInBounds_toArray, List.set_cons_zero, List.set_cons_succ]
  have HP := hide ((H2.out.1.below (below_drew1 w2)).part j hjl)
  rw [HE.out] at HP
  refine wpAnyH_ready (rs := [0]) (by kernel_rfl) (by simp) ?_
  refine AllReadyH.cons rfl (fun K hK => ?_) ?_
  rotate_left
  · exact AllReadyH.nil
  go_simp
  refine hK.out _ _ ⟨((H2.out.1.below (below_drew1 w2)).below (below_new _ _)).c1, ((H2.out.1.below (below_drew1 w2)).below (below_new _ _)).c3⟩ (fun hHeld => ?_)
  clear hK K
  refine wpAnyH_ready (rs := [12]) (by kernel_rfl) (by simp) ?_
  refine AllReadyH.cons rfl (fun K hK => ?_) ?_
  rotate_left
  · exact AllReadyH.nil
  obtain ⟨bo, c2, w4, hrun, ho4, hb4⟩ := new_runs w2.drew (A.drop j) P (A.length - j) (cap - j) (by simp) HP.out.1 (by have := HD.out.l; omega) HP.out.2 38
  refine step_appI (o := { dst := some 28, op := Op.call { callee := Callee.builtin Builtin.append, args := #[Operand.tmp 16, Operand.tmp 27], argTypes := #[38, 38] }, type := 38, pos := "ref.go:45", after := #[{ on := 0, ground := Ground.data }, { on := 11, ground := Ground.data }], guard := none }) rfl (.tmp 16) (.tmp 27) rfl rfl rfl hrun ?_
  simp only [Act.put, List.setIfInBounds_toArray, List.set_cons_zero, List.set_cons_succ]
  have H4 := hide ((H2.out.1.below (below_drew1 w2)).below hb4)
  have HFin : Hid (w4.ownsRow w.heap.size 3 1 (.slice bo (A.length - j) c2) (A.length - j) (ics (A.drop j)) ∧ Below w.heap.size w w4) := ⟨own_down ho4 H2.out.2.size, below_on' (below_on' H2.out.2 (below_drew1 w2)) hb4⟩
  refine hK.out _ _ ⟨H4.out.c1, H4.out.c3⟩ (fun hHeld => ?_)
  clear hK K hrun ho4 hb4
  refine wpAnyH_take (i := 13) (oi := { dst := some 4, op := Op.assign (Operand.tmp 28), type := 38, pos := "ref.go:45", after := #[{ on := 12, ground := Ground.data }, { on := 12, ground := Ground.chain }, { on := 0, ground := Ground.phase }, { on := 1, ground := Ground.phase }, { on := 2, ground := Ground.phase }, { on := 3, ground := Ground.phase }, { on := 4, ground := Ground.phase }, { on := 5, ground := Ground.phase }, { on := 6, ground := Ground.phase }, { on := 7, ground := Ground.phase }, { on := 8, ground := Ground.phase }, { on := 9, ground := Ground.phase }, { on := 10, ground := Ground.phase }, { on := 11, ground := Ground.phase }, { on := 12, ground := Ground.phase }], guard := none }) (v := ?_) rfl (by kernel_rfl) (by kernel_rfl) (by kernel_rfl) (fun _ _ _ h => h) (Or.inl ⟨by rfl, ?_⟩) (by assumption) ?_
  rotate_left
  · (intro w hSw; (try dsimp only at hSw); go_simp); first | done | with_reducible rfl
  simp only [Act.put, List.setIfInBounds_toArray, List.set_cons_zero, List.set_cons_succ]
  refine wpAnyH_take (i := 14) (oi := { dst := some 5, op := Op.assign (Operand.const (Value.bool true)), type := 4, pos := "ref.go:45", after := #[{ on := 13, ground := Ground.chain }, { on := 0, ground := Ground.phase }, { on := 1, ground := Ground.phase }, { on := 2, ground := Ground.phase }, { on := 3, ground := Ground.phase }, { on := 4, ground := Ground.phase }, { on := 5, ground := Ground.phase }, { on := 6, ground := Ground.phase }, { on := 7, ground := Ground.phase }, { on := 8, ground := Ground.phase }, { on := 9, ground := Ground.phase }, { on := 10, ground := Ground.phase }, { on := 11, ground := Ground.phase }, { on := 12, ground := Ground.phase }, { on := 13, ground := Ground.phase }], guard := none }) (v := ?_) rfl (by kernel_rfl) (by kernel_rfl) (by kernel_rfl) (fun _ _ _ h => h) (Or.inl ⟨by rfl, ?_⟩) (by assumption) ?_
  rotate_left
  · (intro w hSw; (try dsimp only at hSw); go_simp); first | done | with_reducible rfl
  simp only [Act.put, List.setIfInBounds_toArray, List.set_cons_zero, List.set_cons_succ]
  refine wpAnyH_done (by kernel_rfl) ?_ _
  clear hHeld
  go_wp2_with fail
  go_ret2
  exact ⟨bo, c2, rfl, HFin.out⟩
theorem rfrom_any (w : World) (L : Rf B w g m s k A ao cap) (D : Rb m s k A) (j : Nat) (hj : k = (j : Int)) : Calls Try.prog 22 #[ptr g, .int .i64 (s + k)] w fun e w' =>
    ∃ bo c2, e = .returned (.tuple #[.slice bo (A.length - j) c2, .bool true]) ∧ w'.ownsRow w.heap.size 3 1 (.slice bo (A.length - j) c2) (A.length - j) (ics (A.drop j)) ∧ Below w.heap.size w w' := rfrom_mid w L D j hj _ rfl
end Go.Proofs.Ytgnclfeicgbjpaa
