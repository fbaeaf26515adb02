/- barrowref07.left. -/
import Derived.Test.YtfpmijfcemopoaaGreatKm01
import Derived.Test.YtfpmijfcemopoaaGreatKb31
import Derived.Deep.CutRange
namespace Go.Proofs.YtfpmijfcemopoaaGreat
open Go.RowKit
attribute [local go_sem ↓] ldP_eq stP_eq K.ld28_eq K.st28_eq K.ld26_eq
attribute [local go_sem] cells_PV PC_size K.cells_EV K.EC_size
/-- an entry of one state stays beside the other -/
def stayB (B : List K.En) (P : Pst) (x : K.En) : Bool := B.any (fun y => K.sameDot y x) || !inB P x
theorem take_snocK (L : List K.En) (k : Nat) (h : k < L.length) : L.take (k + 1) = L.take k ++ [L.getD k K.en0] := K.take_snoc L k h
set_option maxRecDepth 100000 in
set_option maxHeartbeats 3200000 in
theorem left_any (ao bo : Option Addr) (n cap m cap' : Nat) (A B : List K.En) (p : Pv) (w : World) (hS : K.ESrc w ao n cap A) (hR : K.ESrc w bo m cap' B) (hB : K.Asc B) (hP : PSrc w p) :
    Calls Tryz.prog 76 #[.slice ao n cap, .slice bo m cap', PV p] w fun x w' => ∃ a l c, x = .returned (.slice a l c) ∧ K.ESrc w' a l c (A.filter (stayB B p.P)) ∧ Below w.heap.size w w' := by
  have b1 := below_new w (.cells (PC p) 27)
  have HX := hide (pbox_new w p)
  have HS := hide (hS.below b1)
  have HR := hide (hR.below b1)
  have HP := hide (hP.below b1)
  have HB := hide b1
  have hnb := hS.2.2.2.2
  have HL : Hid (A.length = n) := hS.1
  have HBA := hide hB
  clear hS hR hB hP b1
  obtain ⟨wk, hwk⟩ : ∃ wk, w.alloc (.cells (PC p) 27) = wk := ⟨_, rfl⟩
  obtain ⟨G, hG⟩ : ∃ G, w.heap.size = G := ⟨_, rfl⟩
  rw [hwk] at HX HS HR HP HB
  rw [hG] at HX
  go_enter Tryz.func76, Tryz.ntmps76
  go_wp2_with fail
  clear hwk hG
  go_loopw [7, 8] (fun v i wr => ∃ (k : Nat) (ap : Option Addr) (c : Nat), k ≤ n ∧ v = .slice ap ((A.take k).filter (stayB B p.P)).length c ∧ i = .int .i64 (k : Int) ∧ Hid (K.OwnE wk.heap.size wk.heap.size wk wr ap c ((A.take k).filter (stayB B p.P)))) (fun _ i _ => n - (intOf i).toNat)
  case atStart => exact ⟨0, none, 0, Nat.zero_le _, rfl, rfl, K.OwnE.nil (Below.refl _ _) (Nat.le_refl _) (Nat.le_refl _)⟩
  case round =>
    obtain ⟨k, ap, c, hk, rfl, rfl, HO⟩ := hrel
    rename World => wr
    obtain ⟨acc, Hacc⟩ : ∃ acc, Hid ((A.take k).filter (stayB B p.P) = acc) := ⟨_, rfl⟩
    have hal : acc.length ≤ k := by
      rw [← Hacc.out]; have h1 := List.length_filter_le (stayB B p.P) (A.take k); have h2 := List.length_take_le k A; omega
    rw [Hacc.out] at HO ⊢
    obtain ⟨an, han⟩ : ∃ an, acc.length = an := ⟨_, rfl⟩
    rw [han] at hal ⊢
    by_cases hlt : k < n
    · have hlti : (k : Int) < (n : Int) := by omega
      obtain ⟨ad, hao, A0⟩ := (HS.out.below HO.out.below).at k hlt
      subst hao
      obtain ⟨e, He⟩ : ∃ e, Hid (A.getD k K.en0 = e) := ⟨_, rfl⟩
      rw [He.out] at A0
      have HT := hide (take_snocK A k (by rw [HL.out]; exact hlt))
      rw [He.out] at HT
      have HA0 := hide A0
      have Hlt := hide hlt
      have Han := hide han
      have HXr := hide (HX.out.below HO.out.below)
      have HSt : Hid (∀ W, Below wr.heap.size wr W → (K.ld26 (.pointer (some (ad.add (k * 4))))).run Tryz.prog W = .ok (.agg (K.DC e)) W ∧ (ldP (.pointer (some ⟨G, 0, none⟩))).run Tryz.prog W = .ok (PV p) W) := fun W hW => ⟨K.run_ld26 (HA0.out.on hW), run_ldP (HXr.out.below hW).at⟩
      clear A0 hlt hk han
      go_upto_region 5 with fail
      refine wp_region_held_drew (S := fun W => (K.ld26 (.pointer (some (ad.add (k * 4))))).run Tryz.prog W = .ok (.agg (K.DC e)) W ∧ (ldP (.pointer (some ⟨G, 0, none⟩))).run Tryz.prog W = .ok (PV p) W) (by kernel_rfl) (HSt.out _ (below_drew1 wr)) (fun hHeld => ?_)
      refine wpAnyH_take (i := 0) (oi := { dst := some 15, op := Op.move (Operand.tmp 1), type := 23, pos := "ref.go:218", after := #[], guard := none }) (v := ?_) rfl (by kernel_rfl) (by kernel_rfl) (by kernel_rfl) (fun _ _ _ h => h) (Or.inl ⟨by rfl, ?_⟩) (by assumption) ?_
      rotate_left
      · (intro w hSw; (try dsimp only at hSw); go_simp); first | done | with_reducible rfl
      simp only [Act.put, List.setIfInBounds_toArray, List.set_cons_zero, List.set_cons_succ]
      refine wpAnyH_take (i := 1) (oi := { dst := some 16, op := Op.move (Operand.tmp 0), type := 23, pos := "ref.go:218", after := #[], guard := none }) (v := ?_) rfl (by kernel_rfl) (by kernel_rfl) (by kernel_rfl) (fun _ _ _ h => h) (Or.inl ⟨by rfl, ?_⟩) (by assumption) ?_
      rotate_left
      · (intro w hSw; (try dsimp only at hSw); go_simp); first | done | with_reducible rfl
      simp only [Act.put, List.setIfInBounds_toArray, List.set_cons_zero, List.set_cons_succ]
      refine wpAnyH_take (i := 2) (oi := { dst := some 17, op := Op.move (Operand.tmp 8), type := 3, pos := "ref.go:218", after := #[], guard := none }) (v := ?_) rfl (by kernel_rfl) (by kernel_rfl) (by kernel_rfl) (fun _ _ _ h => h) (Or.inl ⟨by rfl, ?_⟩) (by assumption) ?_
      rotate_left
      · (intro w hSw; (try dsimp only at hSw); go_simp); first | done | with_reducible rfl
      simp only [Act.put, List.setIfInBounds_toArray, List.set_cons_zero, List.set_cons_succ]
      refine wpAnyH_take (i := 3) (oi := { dst := some 18, op := Op.indexAddr 23 (Operand.tmp 16) (Operand.tmp 17), type := 0, pos := "ref.go:218", after := #[{ on := 1, ground := Ground.data }, { on := 2, ground := Ground.data }], guard := none }) (v := ?_) rfl (by kernel_rfl) (by kernel_rfl) (by kernel_rfl) (fun _ _ _ h => h) (Or.inl ⟨by rfl, ?_⟩) (by assumption) ?_
      rotate_left
      · (intro w hSw; (try dsimp only at hSw); go_simp); first | done | with_reducible rfl
      simp only [Act.put, List.setIfInBounds_toArray, List.set_cons_zero, List.set_cons_succ]
      refine wpAnyH_take (i := 4) (oi := { dst := some 19, op := Op.fieldAddr 49 (Operand.tmp 18) 0, type := 0, pos := "ref.go:218", after := #[{ on := 3, ground := Ground.data }], guard := none }) (v := ?_) rfl (by kernel_rfl) (by kernel_rfl) (by kernel_rfl) (fun _ _ _ h => h) (Or.inl ⟨by rfl, ?_⟩) (by assumption) ?_
      rotate_left
      · (intro w hSw; (try dsimp only at hSw); go_simp); first | done | with_reducible rfl
      simp only [Act.put, List.setIfInBounds_toArray, List.set_cons_zero, List.set_cons_succ]
      refine wpAnyH_take (i := 5) (oi := { dst := some 20, op := Op.load 47 (Operand.tmp 19), type := 47, pos := "ref.go:218", after := #[{ on := 4, ground := Ground.data }], guard := none }) (v := ?_) rfl (by kernel_rfl) (by kernel_rfl) (by kernel_rfl) (fun _ _ _ h => h) (Or.inl ⟨by rfl, ?_⟩) (by assumption) ?_
      rotate_left
      · (intro w hSw; (try dsimp only at hSw); go_simp); first | done | with_reducible rfl
      simp only [Act.put, List.setIfInBounds_toArray, List.set_cons_zero, List.set_cons_succ]
      refine wpAnyH_ready (rs := [6]) (by kernel_rfl) (by simp) ?_
      refine AllReadyH.cons rfl (fun K hK => ?_) ?_
      rotate_left
      · exact AllReadyH.nil
      go_simp
      go_wp2_with fail
      refine (Go.Proofs.YtfpmijfcemopoaaGreat.K.place_any bo m cap' B e _ ((HR.out.below HO.out.below).below (below_drew1 wr)) HBA.out).mono ?_
      rintro x w3 ⟨z, rfl, b3, hz⟩
      have HB3 : Hid (Below wr.heap.size wr w3) := (below_drew1 wr).trans b3
      refine hK.out _ _ (HSt.out _ HB3.out) (fun hHeld => ?_)
      clear hK K
      clear b3
      rcases hz with ⟨rfl, hno⟩ | ⟨j, hj, rfl, hs⟩
      · refine wpAnyH_take (i := 7) (oi := { dst := some 22, op := Op.binOp BinOp.geq 3 (Operand.tmp 21) (Operand.const (Value.int IntKind.i64 0)) 3, type := 4, pos := "ref.go:218", after := #[{ on := 6, ground := Ground.data }], guard := none }) (v := ?_) rfl (by kernel_rfl) (by kernel_rfl) (by kernel_rfl) (fun _ _ _ h => h) (Or.inl ⟨by rfl, ?_⟩) (by assumption) ?_
        rotate_left
        · (intro w hSw; (try dsimp only at hSw); go_simp); first | done | with_reducible rfl
        simp only [Act.put, List.setIfInBounds_toArray, List.set_cons_zero, List.set_cons_succ]
        refine wpAnyH_take (i := 8) (oi := { dst := some 23, op := Op.move (Operand.tmp 22), type := 4, pos := "ref.go:218", after := #[{ on := 7, ground := Ground.data }, { on := 6, ground := Ground.chain }], guard := none }) (v := ?_) rfl (by kernel_rfl) (by kernel_rfl) (by kernel_rfl) (fun _ _ _ h => h) (Or.inl ⟨by rfl, ?_⟩) (by assumption) ?_
        rotate_left
        · (intro w hSw; (try dsimp only at hSw); go_simp); first | done | with_reducible rfl
        simp only [Act.put, List.setIfInBounds_toArray, List.set_cons_zero, List.set_cons_succ]
        refine wpAnyH_take (i := 9) (oi := { dst := some 24, op := Op.load 27 (Operand.tmp 5), type := 27, pos := "ref.go:218", after := #[{ on := 8, ground := Ground.guard }], guard := some (8, false) }) (v := ?_) rfl (by kernel_rfl) (by kernel_rfl) (by kernel_rfl) (fun _ _ _ h => h) (Or.inl ⟨by rfl, ?_⟩) (by assumption) ?_
        rotate_left
        · (intro w hSw; (try dsimp only at hSw); go_simp); first | done | with_reducible rfl
        simp only [Act.put, List.setIfInBounds_toArray, List.set_cons_zero, List.set_cons_succ]
        refine wpAnyH_take (i := 10) (oi := { dst := some 25, op := Op.move (Operand.tmp 0), type := 23, pos := "ref.go:218", after := #[{ on := 8, ground := Ground.guard }], guard := some (8, false) }) (v := ?_) rfl (by kernel_rfl) (by kernel_rfl) (by kernel_rfl) (fun _ _ _ h => h) (Or.inl ⟨by rfl, ?_⟩) (by assumption) ?_
        rotate_left
        · (intro w hSw; (try dsimp only at hSw); go_simp); first | done | with_reducible rfl
        simp only [Act.put, List.setIfInBounds_toArray, List.set_cons_zero, List.set_cons_succ]
        refine wpAnyH_take (i := 11) (oi := { dst := some 26, op := Op.move (Operand.tmp 8), type := 3, pos := "ref.go:218", after := #[{ on := 8, ground := Ground.guard }], guard := some (8, false) }) (v := ?_) rfl (by kernel_rfl) (by kernel_rfl) (by kernel_rfl) (fun _ _ _ h => h) (Or.inl ⟨by rfl, ?_⟩) (by assumption) ?_
        rotate_left
        · (intro w hSw; (try dsimp only at hSw); go_simp); first | done | with_reducible rfl
        simp only [Act.put, List.setIfInBounds_toArray, List.set_cons_zero, List.set_cons_succ]
        refine wpAnyH_take (i := 12) (oi := { dst := some 27, op := Op.indexAddr 23 (Operand.tmp 25) (Operand.tmp 26), type := 0, pos := "ref.go:218", after := #[{ on := 10, ground := Ground.data }, { on := 11, ground := Ground.data }, { on := 8, ground := Ground.guard }], guard := some (8, false) }) (v := ?_) rfl (by kernel_rfl) (by kernel_rfl) (by kernel_rfl) (fun _ _ _ h => h) (Or.inl ⟨by rfl, ?_⟩) (by assumption) ?_
        rotate_left
        · (intro w hSw; (try dsimp only at hSw); go_simp); first | done | with_reducible rfl
        simp only [Act.put, List.setIfInBounds_toArray, List.set_cons_zero, List.set_cons_succ]
        refine wpAnyH_take (i := 13) (oi := { dst := some 28, op := Op.fieldAddr 49 (Operand.tmp 27) 0, type := 0, pos := "ref.go:218", after := #[{ on := 12, ground := Ground.data }, { on := 8, ground := Ground.guard }], guard := some (8, false) }) (v := ?_) rfl (by kernel_rfl) (by kernel_rfl) (by kernel_rfl) (fun _ _ _ h => h) (Or.inl ⟨by rfl, ?_⟩) (by assumption) ?_
        rotate_left
        · (intro w hSw; (try dsimp only at hSw); go_simp); first | done | with_reducible rfl
        simp only [Act.put, List.setIfInBounds_toArray, List.set_cons_zero, List.set_cons_succ]
        refine wpAnyH_take (i := 14) (oi := { dst := some 29, op := Op.load 47 (Operand.tmp 28), type := 47, pos := "ref.go:218", after := #[{ on := 13, ground := Ground.data }, { on := 8, ground := Ground.guard }], guard := some (8, false) }) (v := ?_) rfl (by kernel_rfl) (by kernel_rfl) (by kernel_rfl) (fun _ _ _ h => h) (Or.inl ⟨by rfl, ?_⟩) (by assumption) ?_
        rotate_left
        · (intro w hSw; (try dsimp only at hSw); go_simp); first | done | with_reducible rfl
        simp only [Act.put, List.setIfInBounds_toArray, List.set_cons_zero, List.set_cons_succ]
        refine wpAnyH_ready (rs := [15]) (by kernel_rfl) (by simp) ?_
        refine AllReadyH.cons rfl (fun K hK => ?_) ?_
        rotate_left
        · exact AllReadyH.nil
        go_simp
        go_wp2_with fail
        refine (refHas_any p ⟨e.rep, e.num⟩ _ ((HP.out.below HO.out.below).below HB3.out)).mono ?_
        rintro x w4 ⟨b, rfl, hb, b4⟩
        have HBx : Hid (Below wr.heap.size wr w4) := HB3.out.trans (b4.mono HB3.out.size)
        refine hK.out _ _ (HSt.out _ HBx.out) (fun hHeld => ?_)
        clear hK K
        clear b4
        have hnone : B.any (fun y => K.sameDot y e) = false := by
          rw [List.any_eq_false]
          intro y hy
          rw [hno y hy]
          decide
        refine wpAnyH_take (i := 16) (oi := { dst := some 31, op := Op.unOp UnOp.not 4 (Operand.tmp 30), type := 4, pos := "ref.go:218", after := #[{ on := 15, ground := Ground.data }, { on := 8, ground := Ground.guard }], guard := some (8, false) }) (v := ?_) rfl (by kernel_rfl) (by kernel_rfl) (by kernel_rfl) (fun _ _ _ h => h) (Or.inl ⟨by rfl, ?_⟩) (by assumption) ?_
        rotate_left
        · (intro w hSw; (try dsimp only at hSw); go_simp); first | done | with_reducible rfl
        simp only [Act.put, List.setIfInBounds_toArray, List.set_cons_zero, List.set_cons_succ]
        refine wpAnyH_take (i := 17) (oi := { dst := some 32, op := Op.pick (Operand.tmp 23) (Operand.const (Value.bool true)) (Operand.tmp 31), type := 4, pos := "ref.go:218", after := #[{ on := 8, ground := Ground.data }, { on := 16, ground := Ground.data }], guard := none }) (v := ?_) rfl (by kernel_rfl) (by kernel_rfl) (by kernel_rfl) (fun _ _ _ h => h) (Or.inl ⟨by rfl, ?_⟩) (by assumption) ?_
        rotate_left
        · (intro w hSw; (try dsimp only at hSw); go_simp); first | done | with_reducible rfl
        simp only [Act.put, List.setIfInBounds_toArray, List.set_cons_zero, List.set_cons_succ]
        refine wpAnyH_done (by kernel_rfl) ?_ _
        clear hHeld
        cases b with
        | true =>
          have HF : Hid (stayB B p.P e = false) := by
            show _ = _
            unfold stayB
            rw [hnone, (inB_iff p.P e).2 (hb.out.1 rfl)]
            rfl
          clear hno hb hnone
          have HN : Hid ((A.take (k + 1)).filter (stayB B p.P) = acc) := by
            show _ = _
            rw [HT.out, List.filter_append, Hacc.out]
            simp [HF.out]
          have HO6 := hide (HO.out.later HBx.out)
          go_wp2_with fail
          go_roundw
          case rel => exact ⟨k + 1, ap, c, Hlt.out, by rw [HN.out, Han.out], by simp, by rw [HN.out]; exact HO6⟩
          case measure => simp [intOf]; have := Hlt.out; omega
        | false =>
          have HF : Hid (stayB B p.P e = true) := by
            show _ = _
            unfold stayB
            have : inB p.P e = false := by
              cases h : inB p.P e
              · rfl
              · have := hb.out.2 ((inB_iff p.P e).1 h)
                cases this
            rw [hnone, this]
            rfl
          clear hno hb hnone
          have HN : Hid ((A.take (k + 1)).filter (stayB B p.P) = acc ++ [e]) := by
            show _ = _
            rw [HT.out, List.filter_append, Hacc.out]
            simp [HF.out]
          have HO6 := hide (HO.out.later HBx.out)
          have l6 := K.run_ld28 (HA0.out.on HBx.out)
          go_wp2_with (at_builtin; refine HO6.out.append e _ rfl (by have := Han.out; have := Hlt.out; omega) rfl (.tmp 33) (.tmp 38) rfl an Han.out rfl rfl ?_; intro g7 c7 w7 O7 hk7; have HO7 := hide O7; clear O7 hk7)
          clear l6
          go_roundw
          case rel => exact ⟨k + 1, some ⟨g7, 0, none⟩, c7, Hlt.out, by rw [HN.out, List.length_append, Han.out]; rfl, by simp, by rw [HN.out]; exact HO7⟩
          case measure => simp [intOf]; have := Hlt.out; omega
      · have hj0 : (0 : Int) ≤ (j : Int) := by omega
        have HBx := HB3
        refine wpAnyH_take (i := 7) (oi := { dst := some 22, op := Op.binOp BinOp.geq 3 (Operand.tmp 21) (Operand.const (Value.int IntKind.i64 0)) 3, type := 4, pos := "ref.go:218", after := #[{ on := 6, ground := Ground.data }], guard := none }) (v := ?_) rfl (by kernel_rfl) (by kernel_rfl) (by kernel_rfl) (fun _ _ _ h => h) (Or.inl ⟨by rfl, ?_⟩) (by assumption) ?_
        rotate_left
        · (intro w hSw; (try dsimp only at hSw); go_simp); first | done | with_reducible rfl
        simp only [Act.put, List.setIfInBounds_toArray, List.set_cons_zero, List.set_cons_succ]
        refine wpAnyH_take (i := 8) (oi := { dst := some 23, op := Op.move (Operand.tmp 22), type := 4, pos := "ref.go:218", after := #[{ on := 7, ground := Ground.data }, { on := 6, ground := Ground.chain }], guard := none }) (v := ?_) rfl (by kernel_rfl) (by kernel_rfl) (by kernel_rfl) (fun _ _ _ h => h) (Or.inl ⟨by rfl, ?_⟩) (by assumption) ?_
        rotate_left
        · (intro w hSw; (try dsimp only at hSw); go_simp); first | done | with_reducible rfl
        simp only [Act.put, List.setIfInBounds_toArray, List.set_cons_zero, List.set_cons_succ]
        refine wpAnyH_take (i := 9) (oi := { dst := some 24, op := Op.load 27 (Operand.tmp 5), type := 27, pos := "ref.go:218", after := #[{ on := 8, ground := Ground.guard }], guard := some (8, false) }) (v := undef) rfl (by kernel_rfl) (by kernel_rfl) (by kernel_rfl) (fun _ _ _ h => h) (Or.inr ⟨by rfl, by rfl⟩) (by assumption) ?_
        simp only [Act.put, List.setIfInBounds_toArray, List.set_cons_zero, List.set_cons_succ]
        refine wpAnyH_take (i := 10) (oi := { dst := some 25, op := Op.move (Operand.tmp 0), type := 23, pos := "ref.go:218", after := #[{ on := 8, ground := Ground.guard }], guard := some (8, false) }) (v := undef) rfl (by kernel_rfl) (by kernel_rfl) (by kernel_rfl) (fun _ _ _ h => h) (Or.inr ⟨by rfl, by rfl⟩) (by assumption) ?_
        simp only [Act.put, List.setIfInBounds_toArray, List.set_cons_zero, List.set_cons_succ]
        refine wpAnyH_take (i := 11) (oi := { dst := some 26, op := Op.move (Operand.tmp 8), type := 3, pos := "ref.go:218", after := #[{ on := 8, ground := Ground.guard }], guard := some (8, false) }) (v := undef) rfl (by kernel_rfl) (by kernel_rfl) (by kernel_rfl) (fun _ _ _ h => h) (Or.inr ⟨by rfl, by rfl⟩) (by assumption) ?_
        simp only [Act.put, List.setIfInBounds_toArray, List.set_cons_zero, List.set_cons_succ]
        refine wpAnyH_take (i := 12) (oi := { dst := some 27, op := Op.indexAddr 23 (Operand.tmp 25) (Operand.tmp 26), type := 0, pos := "ref.go:218", after := #[{ on := 10, ground := Ground.data }, { on := 11, ground := Ground.data }, { on := 8, ground := Ground.guard }], guard := some (8, false) }) (v := undef) rfl (by kernel_rfl) (by kernel_rfl) (by kernel_rfl) (fun _ _ _ h => h) (Or.inr ⟨by rfl, by rfl⟩) (by assumption) ?_
        simp only [Act.put, List.setIfInBounds_toArray, List.set_cons_zero, List.set_cons_succ]
        refine wpAnyH_take (i := 13) (oi := { dst := some 28, op := Op.fieldAddr 49 (Operand.tmp 27) 0, type := 0, pos := "ref.go:218", after := #[{ on := 12, ground := Ground.data }, { on := 8, ground := Ground.guard }], guard := some (8, false) }) (v := undef) rfl (by kernel_rfl) (by kernel_rfl) (by kernel_rfl) (fun _ _ _ h => h) (Or.inr ⟨by rfl, by rfl⟩) (by assumption) ?_
        simp only [Act.put, List.setIfInBounds_toArray, List.set_cons_zero, List.set_cons_succ]
        refine wpAnyH_take (i := 14) (oi := { dst := some 29, op := Op.load 47 (Operand.tmp 28), type := 47, pos := "ref.go:218", after := #[{ on := 13, ground := Ground.data }, { on := 8, ground := Ground.guard }], guard := some (8, false) }) (v := undef) rfl (by kernel_rfl) (by kernel_rfl) (by kernel_rfl) (fun _ _ _ h => h) (Or.inr ⟨by rfl, by rfl⟩) (by assumption) ?_
        simp only [Act.put, List.setIfInBounds_toArray, List.set_cons_zero, List.set_cons_succ]
        refine wpAnyH_take (i := 15) (oi := { dst := some 30, op := Op.call { callee := Callee.value (Operand.func 63), args := #[Operand.tmp 24, Operand.tmp 29], argTypes := #[27, 47] }, type := 4, pos := "ref.go:218", after := #[{ on := 9, ground := Ground.data }, { on := 14, ground := Ground.data }, { on := 8, ground := Ground.chain }, { on := 8, ground := Ground.guard }], guard := some (8, false) }) (v := undef) rfl (by kernel_rfl) (by kernel_rfl) (by kernel_rfl) (fun _ _ _ h => h) (Or.inr ⟨by rfl, by rfl⟩) (by assumption) ?_
        simp only [Act.put, List.setIfInBounds_toArray, List.set_cons_zero, List.set_cons_succ]
        refine wpAnyH_take (i := 16) (oi := { dst := some 31, op := Op.unOp UnOp.not 4 (Operand.tmp 30), type := 4, pos := "ref.go:218", after := #[{ on := 15, ground := Ground.data }, { on := 8, ground := Ground.guard }], guard := some (8, false) }) (v := undef) rfl (by kernel_rfl) (by kernel_rfl) (by kernel_rfl) (fun _ _ _ h => h) (Or.inr ⟨by rfl, by rfl⟩) (by assumption) ?_
        simp only [Act.put, List.setIfInBounds_toArray, List.set_cons_zero, List.set_cons_succ]
        refine wpAnyH_take (i := 17) (oi := { dst := some 32, op := Op.pick (Operand.tmp 23) (Operand.const (Value.bool true)) (Operand.tmp 31), type := 4, pos := "ref.go:218", after := #[{ on := 8, ground := Ground.data }, { on := 16, ground := Ground.data }], guard := none }) (v := ?_) rfl (by kernel_rfl) (by kernel_rfl) (by kernel_rfl) (fun _ _ _ h => h) (Or.inl ⟨by rfl, ?_⟩) (by assumption) ?_
        rotate_left
        · (intro w hSw; (try dsimp only at hSw); go_simp); first | done | with_reducible rfl
        simp only [Act.put, List.setIfInBounds_toArray, List.set_cons_zero, List.set_cons_succ]
        refine wpAnyH_done (by kernel_rfl) ?_ _
        clear hHeld
        have HF : Hid (stayB B p.P e = true) := by
          show _ = _
          unfold stayB
          have : B.any (fun y => K.sameDot y e) = true := by
            rw [List.any_eq_true]
            refine ⟨B.getD j K.en0, ?_, hs⟩
            have : B.getD j K.en0 = B[j] := by simp [List.getD, List.getElem?_eq_getElem hj]
            rw [this]
            exact List.getElem_mem hj
          rw [this]
          rfl
        clear hs
        have HN : Hid ((A.take (k + 1)).filter (stayB B p.P) = acc ++ [e]) := by
          show _ = _
          rw [HT.out, List.filter_append, Hacc.out]
          simp [HF.out]
        have HO6 := hide (HO.out.later HBx.out)
        have l6 := K.run_ld28 (HA0.out.on HBx.out)
        go_wp2_with (at_builtin; refine HO6.out.append e _ rfl (by have := Han.out; have := Hlt.out; omega) rfl (.tmp 33) (.tmp 38) rfl an Han.out rfl rfl ?_; intro g7 c7 w7 O7 hk7; have HO7 := hide O7; clear O7 hk7)
        clear l6
        go_roundw
        case rel => exact ⟨k + 1, some ⟨g7, 0, none⟩, c7, Hlt.out, by rw [HN.out, List.length_append, Han.out]; rfl, by simp, by rw [HN.out]; exact HO7⟩
        case measure => simp [intOf]; have := Hlt.out; omega
    · have hlti : ¬ (k : Int) < (n : Int) := by omega
      have HE : Hid (K.ESrc wr ap an c (A.filter (stayB B p.P)) ∧ Below w.heap.size w wr) := by
        have h1 := HO.out.src (fun e he => by rw [← Hacc.out] at he; exact HS.out.2.2.2.1 e (List.mem_of_mem_take (List.mem_filter.1 he).1)) (by omega)
        rw [han] at h1
        have e : acc = A.filter (stayB B p.P) := by rw [← Hacc.out, List.take_of_length_le (by have := HL.out; omega)]
        rw [← e]
        exact ⟨h1.1, HB.out.trans (HO.out.below.mono HB.out.size)⟩
      clear hlt
      go_wp2_with fail
      go_ret
      exact ⟨ap, an, c, rfl, HE.out.1, HE.out.2⟩
end Go.Proofs.YtfpmijfcemopoaaGreat
