/- dlog's Walk. -/
import Derived.Test.YtgnclfeicgbjpaaDWi
import Derived.Test.YtgnclfeicgbjpaaDIr
import Derived.OrdersHeld
namespace Go.Proofs.Ytgnclfeicgbjpaa
open Go.RowKit
variable {w w' w2 : World} {g B cap : Nat} {m nx : Int} {Z : List Int} {ao : Option Addr}

theorem own_below {C n c : Nat} {bo : Option Addr} {xs : List Value} (h : w.ownsRow C 3 1 (.slice bo n c) n xs) (hb : Below w.heap.size w w') : w'.ownsRow C 3 1 (.slice bo n c) n xs := by
  refine ⟨h.1, ?_⟩
  rcases h.2 with h | ⟨q, cap2, cur, hv, hbg, hgg, r⟩
  · exact Or.inl h
  · exact Or.inr ⟨q, cap2, cur, hv, hbg, (hb.block q (Array.getElem?_eq_some_iff.1 hgg).1).trans hgg, r⟩
theorem Its.of {p q k : Nat} {W : World} {bo : Option Addr} {c : Nat} {zs : List Int} (h : W.ownsRow p 3 1 (.slice bo k c) k (ics zs)) (hl : zs.length = k) (hq : q = W.heap.size) : Its p q W (.slice bo k c) zs := by
  subst hl
  rcases h.2 with ⟨hv, h0⟩ | ⟨b, cap2, cur, hv, hb, hgb, r⟩
  · exact .inl ⟨bo, c, by rw [h0], List.length_eq_zero_iff.1 h0⟩
  · simp only [Value.slice.injEq, true_and] at hv
    obtain ⟨rfl, rfl⟩ := hv
    refine .inr ⟨b, 0, c, rfl, hb, hq ▸ (Array.getElem?_eq_some_iff.1 hgb).1, fun j hj => ?_⟩
    have := h.cellAt j (by omega)
    rw [ics_at zs j hj] at this
    rw [Nat.zero_add]
    exact this
set_option maxRecDepth 100000 in
set_option maxHeartbeats 3200000 in
theorem walk_any (w : World) (L : Lg B w g m nx Z ao cap) (D : Bd m nx Z) (n : Int) : Calls Try.prog 9 #[ptr g, .int .i64 n] w fun e w' =>
    ∃ Bi Bf sv, e = .returned (.func (.func 28) #[] #[.pointer (some ⟨Bi, 0, none⟩), .pointer (some ⟨Bf, 0, none⟩)]) ∧ w.heap.size ≤ Bi ∧ Bi < w'.heap.size ∧ w.heap.size ≤ Bf ∧ Bf < w'.heap.size ∧ w'.cell? ⟨Bi, 0, none⟩ = some sv ∧ w'.cell? ⟨Bf, 0, none⟩ = some (.int .i64 (btw n (nx - Z.length) nx)) ∧ Its w.heap.size w'.heap.size w' sv (Z.drop (cutN nx Z n)) ∧ Below w.heap.size w w' := by
  obtain ⟨f0, hf0⟩ : ∃ f0, btw n (nx - Z.length) nx = f0 := ⟨_, rfl⟩
  obtain ⟨k, hk⟩ : ∃ k, cutN nx Z n = k := ⟨_, rfl⟩
  have hcl := cutN_le nx Z n
  rw [hk, hf0] at hcl
  rw [hf0, hk]
  have Hk : Hid (f0 - (nx - Z.length) = (k : Int)) := hcl.2.symm
  have Hl : Hid (k ≤ Z.length) := hcl.1
  have HL := hide L
  have HD := hide D
  have HF0 := hide hf0
  clear L D hcl hk hf0
  go_enter Try.func9, Try.ntmps9
  go_wp2_with fail
  refine wp_region_held_drew (S := fun v => v.cell? ⟨g, 1, none⟩ = some (.int .i64 nx)) (by kernel_rfl) ((HL.out.below (below_drew1 w)).c1) (fun hHeld => ?_)
  refine wpAnyH_take (i := 0) (oi := { dst := some 7, op := Op.move (Operand.tmp 1), type := 3, pos := "dlog.go:70", after := #[], guard := none }) (v := ?_) rfl (by kernel_rfl) (by kernel_rfl) (by kernel_rfl) (fun _ _ _ h => h) (Or.inl ⟨by rfl, ?_⟩) (by assumption) ?_
  rotate_left
  · (intro w hSw; (try dsimp only at hSw); go_simp); first | done | with_reducible rfl
  simp only [Act.put, List.setIfInBounds_toArray, List.set_cons_zero, List.set_cons_succ]
  refine wpAnyH_take (i := 1) (oi := { dst := some 8, op := Op.move (Operand.tmp 0), type := 26, pos := "dlog.go:70", after := #[], guard := none }) (v := ?_) rfl (by kernel_rfl) (by kernel_rfl) (by kernel_rfl) (fun _ _ _ h => h) (Or.inl ⟨by rfl, ?_⟩) (by assumption) ?_
  rotate_left
  · (intro w hSw; (try dsimp only at hSw); go_simp); first | done | with_reducible rfl
  simp only [Act.put, List.setIfInBounds_toArray, List.set_cons_zero, List.set_cons_succ]
  refine wpAnyH_take (i := 3) (oi := { dst := some 10, op := Op.move (Operand.tmp 0), type := 26, pos := "dlog.go:70", after := #[], guard := none }) (v := ?_) rfl (by kernel_rfl) (by kernel_rfl) (by kernel_rfl) (fun _ _ _ h => h) (Or.inl ⟨by rfl, ?_⟩) (by assumption) ?_
  rotate_left
  · (intro w hSw; (try dsimp only at hSw); go_simp); first | done | with_reducible rfl
  simp only [Act.put, List.setIfInBounds_toArray, List.set_cons_zero, List.set_cons_succ]
  refine wpAnyH_take (i := 4) (oi := { dst := some 11, op := Op.nilCheck (Operand.tmp 10), type := 0, pos := "dlog.go:70", after := #[{ on := 3, ground := Ground.data }], guard := none }) (v := ?_) rfl (by kernel_rfl) (by kernel_rfl) (by kernel_rfl) (fun _ _ _ h => h) (Or.inl ⟨by rfl, ?_⟩) (by assumption) ?_
  rotate_left
  · (intro w hSw; (try dsimp only at hSw); go_simp); first | done | with_reducible rfl
  simp only [Act.put, List.setIfInBounds_toArray, List.set_cons_zero, List.set_cons_succ]
  refine wpAnyH_take (i := 5) (oi := { dst := some 12, op := Op.fieldAddr 47 (Operand.tmp 11) 1, type := 0, pos := "dlog.go:70", after := #[{ on := 4, ground := Ground.data }], guard := none }) (v := ?_) rfl (by kernel_rfl) (by kernel_rfl) (by kernel_rfl) (fun _ _ _ h => h) (Or.inl ⟨by rfl, ?_⟩) (by assumption) ?_
  rotate_left
  · (intro w hSw; (try dsimp only at hSw); go_simp); first | done | with_reducible rfl
  simp only [Act.put, List.setIfInBounds_toArray, List.set_cons_zero, List.set_cons_succ]
  refine wpAnyH_take (i := 6) (oi := { dst := some 13, op := Op.load 3 (Operand.tmp 12), type := 3, pos := "dlog.go:70", after := #[{ on := 5, ground := Ground.data }], guard := none }) (v := ?_) rfl (by kernel_rfl) (by kernel_rfl) (by kernel_rfl) (fun _ _ _ h => h) (Or.inl ⟨by rfl, ?_⟩) (by assumption) ?_
  rotate_left
  · (intro w hSw; (try dsimp only at hSw); have hl := hSw; go_simp); first | done | with_reducible rfl
  simp only [Act.put, List.setIfInBounds_toArray, List.set_cons_zero, List.set_cons_succ]
  refine wpAnyH_ready (rs := [2, 8]) (by kernel_rfl) (by simp) ?_
  refine AllReadyH.cons rfl (fun K hK => ?_) (AllReadyH.cons rfl (fun K hK => ?_) AllReadyH.nil)
  · go_simp
    go_wp2_with fail
    refine (first_any _ (HL.out.below (below_drew1 w)) HD.out).mono ?_
    rintro e w1 ⟨rfl, n1, hw1⟩
    have H1 : Hid (Lg B w1 g m nx Z ao cap ∧ Below w.heap.size w w1) := by rw [hw1]; exact ⟨(HL.out.below (below_drew1 w)).drewN n1, (below_drew1 w).trans (below_drewN w.drew n1)⟩
    clear hw1
    refine hK.out _ _ H1.out.1.c1 (fun hHeld => ?_)
    clear hK K
    refine wpAnyH_ready (rs := [7, 8]) (by kernel_rfl) (by simp) ?_
    refine AllReadyH.cons rfl (fun K hK => ?_) (AllReadyH.cons rfl (fun K hK => ?_) AllReadyH.nil)
    · go_simp
      go_wp2_with fail
      refine (between_any n (nx - Z.length) nx w1).mono ?_
      rintro e w3 ⟨rfl, rfl⟩
      rw [HF0.out]
      refine hK.out _ _ H1.out.1.c1 (fun hHeld => ?_)
      clear hK K
      refine wpAnyH_ready (rs := [8]) (by kernel_rfl) (by simp) ?_
      refine AllReadyH.cons rfl (fun K hK => ?_) ?_
      rotate_left
      · exact AllReadyH.nil
      go_simp
      refine hK.out _ _ (H1.out.1.below (below_new _ _)).c1 (fun hHeld => ?_)
      clear hK K
      have HX6 : Hid (Boxed (w3.alloc (.cells #[.int .i64 f0] 3)) w3.heap.size 3 (.int .i64 f0)) := Boxed.new w3 3 (.int .i64 f0)
      have b6 : Below w3.heap.size w3 (w3.alloc (.cells #[.int .i64 f0] 3)) := below_new w3 _
      have H6 : Hid (Lg B (w3.alloc (.cells #[.int .i64 f0] 3)) g m nx Z ao cap ∧ Below w.heap.size w (w3.alloc (.cells #[.int .i64 f0] 3))) := ⟨H1.out.1.below b6, H1.out.2.trans (b6.mono H1.out.2.size)⟩
      have HGb : Hid (w.heap.size ≤ w3.heap.size) := H1.out.2.size
      clear b6
      refine wpAnyH_ready (rs := [9]) (by kernel_rfl) (by simp) ?_
      refine AllReadyH.cons rfl (fun K hK => ?_) ?_
      rotate_left
      · exact AllReadyH.nil
      go_simp
      go_wp2_with fail
      refine hK.out _ _ H6.out.1.c1 (fun hHeld => ?_)
      clear hK K
      refine wpAnyH_done (by kernel_rfl) ?_ _
      clear hHeld
      obtain ⟨gb, hgb⟩ : ∃ gb, w3.heap.size = gb := ⟨_, rfl⟩
      obtain ⟨W6, hW6⟩ : ∃ W6, (w3.alloc (.cells #[.int .i64 f0] 3)) = W6 := ⟨_, rfl⟩
      rw [hW6] at HX6 H6 ⊢
      rw [hgb] at HX6 HGb ⊢
      clear hgb hW6
      have c6 := HX6.out.cell
      go_wp2_with fail
      refine (from_any _ H6.out.1 HD.out f0 k Hk.out Hl.out).mono ?_
      rintro e w7 ⟨bo, c2, rfl, ho7, b7⟩
      have bw7 : Below w.heap.size w w7 := H6.out.2.trans (b7.mono H6.out.2.size)
      have hx7 : Boxed w7 gb 3 (.int .i64 f0) := (b7.block gb HX6.out.lt).trans HX6.out
      have hx9 := Boxed.new w7 38 (.slice bo (Z.length - k) c2)
      have hb9 : Below w7.heap.size w7 (w7.alloc (.cells #[.slice bo (Z.length - k) c2] 38)) := below_new w7 _
      have hFin : Hid (w.heap.size ≤ w7.heap.size ∧ Its w.heap.size (w7.alloc (.cells #[.slice bo (Z.length - k) c2] 38)).heap.size (w7.alloc (.cells #[.slice bo (Z.length - k) c2] 38)) (.slice bo (Z.length - k) c2) (Z.drop k) ∧ Boxed (w7.alloc (.cells #[.slice bo (Z.length - k) c2] 38)) gb 3 (.int .i64 f0) ∧ Boxed (w7.alloc (.cells #[.slice bo (Z.length - k) c2] 38)) w7.heap.size 38 (.slice bo (Z.length - k) c2) ∧ Below w.heap.size w (w7.alloc (.cells #[.slice bo (Z.length - k) c2] 38))) := by
        refine ⟨bw7.size, Its.of (own_below (own_down ho7 H6.out.2.size) hb9) (by simp) rfl, (hb9.block gb hx7.lt).trans hx7, hx9, bw7.trans (hb9.mono bw7.size)⟩
      clear ho7 b7 bw7 hx7 hx9 hb9
      go_wp2_with fail
      go_ret
      obtain ⟨h1, h2, h3, h4, h5⟩ := hFin.out
      exact ⟨_, gb, _, rfl, h1, h4.lt, HGb.out, h3.lt, h4.cell, h3.cell, h2, h5⟩
    · go_simp
      refine hK.out _ _ (H1.out.1.below (below_new _ _)).c1 (fun hHeld => ?_)
      clear hK K
      refine wpAnyH_ready (rs := [7]) (by kernel_rfl) (by simp) ?_
      refine AllReadyH.cons rfl (fun K hK => ?_) ?_
      rotate_left
      · exact AllReadyH.nil
      go_simp
      go_wp2_with fail
      refine (between_any n (nx - Z.length) nx _).mono ?_
      rintro e w3 ⟨rfl, hw3⟩
      rw [HF0.out]
      subst hw3
      refine hK.out _ _ (H1.out.1.below (below_new _ _)).c1 (fun hHeld => ?_)
      clear hK K
      have HX6 : Hid (Boxed (w1.alloc (.cells #[.int .i64 f0] 3)) w1.heap.size 3 (.int .i64 f0)) := Boxed.new w1 3 (.int .i64 f0)
      have b6 : Below w1.heap.size w1 (w1.alloc (.cells #[.int .i64 f0] 3)) := below_new w1 _
      have H6 : Hid (Lg B (w1.alloc (.cells #[.int .i64 f0] 3)) g m nx Z ao cap ∧ Below w.heap.size w (w1.alloc (.cells #[.int .i64 f0] 3))) := ⟨H1.out.1.below b6, H1.out.2.trans (b6.mono H1.out.2.size)⟩
      have HGb : Hid (w.heap.size ≤ w1.heap.size) := H1.out.2.size
      clear b6
      refine wpAnyH_ready (rs := [9]) (by kernel_rfl) (by simp) ?_
      refine AllReadyH.cons rfl (fun K hK => ?_) ?_
      rotate_left
      · exact AllReadyH.nil
      go_simp
      go_wp2_with fail
      refine hK.out _ _ H6.out.1.c1 (fun hHeld => ?_)
      clear hK K
      refine wpAnyH_done (by kernel_rfl) ?_ _
      clear hHeld
      obtain ⟨gb, hgb⟩ : ∃ gb, w1.heap.size = gb := ⟨_, rfl⟩
      obtain ⟨W6, hW6⟩ : ∃ W6, (w1.alloc (.cells #[.int .i64 f0] 3)) = W6 := ⟨_, rfl⟩
      rw [hW6] at HX6 H6 ⊢
      rw [hgb] at HX6 HGb ⊢
      clear hgb hW6
      have c6 := HX6.out.cell
      go_wp2_with fail
      refine (from_any _ H6.out.1 HD.out f0 k Hk.out Hl.out).mono ?_
      rintro e w7 ⟨bo, c2, rfl, ho7, b7⟩
      have bw7 : Below w.heap.size w w7 := H6.out.2.trans (b7.mono H6.out.2.size)
      have hx7 : Boxed w7 gb 3 (.int .i64 f0) := (b7.block gb HX6.out.lt).trans HX6.out
      have hx9 := Boxed.new w7 38 (.slice bo (Z.length - k) c2)
      have hb9 : Below w7.heap.size w7 (w7.alloc (.cells #[.slice bo (Z.length - k) c2] 38)) := below_new w7 _
      have hFin : Hid (w.heap.size ≤ w7.heap.size ∧ Its w.heap.size (w7.alloc (.cells #[.slice bo (Z.length - k) c2] 38)).heap.size (w7.alloc (.cells #[.slice bo (Z.length - k) c2] 38)) (.slice bo (Z.length - k) c2) (Z.drop k) ∧ Boxed (w7.alloc (.cells #[.slice bo (Z.length - k) c2] 38)) gb 3 (.int .i64 f0) ∧ Boxed (w7.alloc (.cells #[.slice bo (Z.length - k) c2] 38)) w7.heap.size 38 (.slice bo (Z.length - k) c2) ∧ Below w.heap.size w (w7.alloc (.cells #[.slice bo (Z.length - k) c2] 38))) := by
        refine ⟨bw7.size, Its.of (own_below (own_down ho7 H6.out.2.size) hb9) (by simp) rfl, (hb9.block gb hx7.lt).trans hx7, hx9, bw7.trans (hb9.mono bw7.size)⟩
      clear ho7 b7 bw7 hx7 hx9 hb9
      go_wp2_with fail
      go_ret
      obtain ⟨h1, h2, h3, h4, h5⟩ := hFin.out
      exact ⟨_, gb, _, rfl, h1, h4.lt, HGb.out, h3.lt, h4.cell, h3.cell, h2, h5⟩
  · go_simp
    refine hK.out _ _ ((HL.out.below (below_drew1 w)).below (below_new _ _)).c1 (fun hHeld => ?_)
    clear hK K
    refine wpAnyH_ready (rs := [2]) (by kernel_rfl) (by simp) ?_
    refine AllReadyH.cons rfl (fun K hK => ?_) ?_
    rotate_left
    · exact AllReadyH.nil
    go_simp
    go_wp2_with fail
    refine (first_any _ ((HL.out.below (below_drew1 w)).below (below_new _ _)) HD.out).mono ?_
    rintro e w1 ⟨rfl, n1, hw1⟩
    have HB1 : Hid (Lg B w1 g m nx Z ao cap ∧ Below w.heap.size w w1) := by rw [hw1]; exact ⟨((HL.out.below (below_drew1 w)).below (below_new _ _)).drewN n1, ((below_drew1 w).trans (below_new w.drew _)).trans ((below_drewN _ n1).mono (below_new w.drew _).size)⟩
    have hx1 : Boxed w1 w.heap.size 3 (.int .i64 0) := by rw [hw1]; exact Boxed.new w.drew 3 (.int .i64 0)
    have HX1 := hide hx1
    clear hw1 hx1
    refine hK.out _ _ HB1.out.1.c1 (fun hHeld => ?_)
    clear hK K
    refine wpAnyH_ready (rs := [7]) (by kernel_rfl) (by simp) ?_
    refine AllReadyH.cons rfl (fun K hK => ?_) ?_
    rotate_left
    · exact AllReadyH.nil
    go_simp
    go_wp2_with fail
    refine (between_any n (nx - Z.length) nx w1).mono ?_
    rintro e w3 ⟨rfl, rfl⟩
    rw [HF0.out]
    refine hK.out _ _ HB1.out.1.c1 (fun hHeld => ?_)
    clear hK K
    have c5 := HX1.out.cell
    have f5 := HX1.out.frozen
    have HX6 : Hid (Boxed (w3.setCell ⟨w.heap.size, 0, none⟩ (.int .i64 f0)) w.heap.size 3 (.int .i64 f0)) := HX1.out.set (.int .i64 f0)
    have H6 : Hid (Lg B (w3.setCell ⟨w.heap.size, 0, none⟩ (.int .i64 f0)) g m nx Z ao cap ∧ Below w.heap.size w (w3.setCell ⟨w.heap.size, 0, none⟩ (.int .i64 f0))) := ⟨HB1.out.1.on (heap_setCell_other w3 _ g _ (by show g ≠ w.heap.size; have := HL.out.lt; omega)) (fun ad e => heap_setCell_other w3 _ ad.block _ (by show ad.block ≠ w.heap.size; have := (HL.out.row ad e).2; omega)), HB1.out.2.setCell (p := ⟨w.heap.size, 0, none⟩) (Nat.le_refl _) _⟩
    have HGb : Hid (w.heap.size ≤ w.heap.size) := Nat.le_refl _
    refine wpAnyH_ready (rs := [9]) (by kernel_rfl) (by simp) ?_
    refine AllReadyH.cons rfl (fun K hK => ?_) ?_
    rotate_left
    · exact AllReadyH.nil
    go_simp
    go_wp2_with fail
    refine hK.out _ _ H6.out.1.c1 (fun hHeld => ?_)
    clear hK K
    refine wpAnyH_done (by kernel_rfl) ?_ _
    clear hHeld
    clear c5 f5
    obtain ⟨gb, hgb⟩ : ∃ gb, w.heap.size = gb := ⟨_, rfl⟩
    obtain ⟨W6, hW6⟩ : ∃ W6, w3.setCell ⟨w.heap.size, 0, none⟩ (.int .i64 f0) = W6 := ⟨_, rfl⟩
    rw [hW6] at HX6 H6 ⊢
    have HGb2 : Hid (w.heap.size ≤ gb) := by rw [hgb]; exact Nat.le_refl _
    clear HGb
    have HGb := HGb2
    have HX62 : Hid (Boxed W6 gb 3 (.int .i64 f0)) := by rw [← hgb]; exact HX6.out
    clear HX6
    have HX6 := HX62
    skip
    clear hW6
    have c6 := HX6.out.cell
    go_wp2_with fail
    refine (from_any _ H6.out.1 HD.out f0 k Hk.out Hl.out).mono ?_
    rintro e w7 ⟨bo, c2, rfl, ho7, b7⟩
    have bw7 : Below w.heap.size w w7 := H6.out.2.trans (b7.mono H6.out.2.size)
    have hx7 : Boxed w7 gb 3 (.int .i64 f0) := (b7.block gb HX6.out.lt).trans HX6.out
    have hx9 := Boxed.new w7 38 (.slice bo (Z.length - k) c2)
    have hb9 : Below w7.heap.size w7 (w7.alloc (.cells #[.slice bo (Z.length - k) c2] 38)) := below_new w7 _
    have hFin : Hid (w.heap.size ≤ w7.heap.size ∧ Its w.heap.size (w7.alloc (.cells #[.slice bo (Z.length - k) c2] 38)).heap.size (w7.alloc (.cells #[.slice bo (Z.length - k) c2] 38)) (.slice bo (Z.length - k) c2) (Z.drop k) ∧ Boxed (w7.alloc (.cells #[.slice bo (Z.length - k) c2] 38)) gb 3 (.int .i64 f0) ∧ Boxed (w7.alloc (.cells #[.slice bo (Z.length - k) c2] 38)) w7.heap.size 38 (.slice bo (Z.length - k) c2) ∧ Below w.heap.size w (w7.alloc (.cells #[.slice bo (Z.length - k) c2] 38))) := by
      refine ⟨bw7.size, Its.of (own_below (own_down ho7 H6.out.2.size) hb9) (by simp) rfl, (hb9.block gb hx7.lt).trans hx7, hx9, bw7.trans (hb9.mono bw7.size)⟩
    clear ho7 b7 bw7 hx7 hx9 hb9
    go_wp2_with fail
    go_ret
    obtain ⟨h1, h2, h3, h4, h5⟩ := hFin.out
    exact ⟨_, gb, _, rfl, h1, h4.lt, HGb.out, h3.lt, h4.cell, h3.cell, h2, h5⟩
end Go.Proofs.Ytgnclfeicgbjpaa
