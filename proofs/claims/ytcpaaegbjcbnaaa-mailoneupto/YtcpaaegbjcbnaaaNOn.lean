/- MailOne: the law. -/
import Derived.Test.YtcpaaegbjcbnaaaNFm
namespace Go.Proofs.Ytcpaaegbjcbnaaa
open Go.RowKit
attribute [local go_sem ↓] ldP_eq stP_eq ldM_eq stM_eq mkP_eq
attribute [local go_sem] to_MC MC_s0 MC_s1 MC_s2 MC_s3 MC_s4 MC_s5

theorem ckE_01 (m : Ml) (X : List Pt) : ckE m X = 0 ∨ ckE m X = 1 := by unfold ckE; split <;> simp
set_option maxRecDepth 100000 in
set_option maxHeartbeats 8000000 in
theorem mailOne_any (a b c d e : Int) (po : Option Addr) (pn pc : Nat) (X : List Pt) (Y : List (List Int)) (a' b' c' d' e' : Int) (qo : Option Addr) (qn qc : Nat) (X' : List Pt) (Y' : List (List Int)) (w : World) (A : MA w a b c d e po pn pc X Y) (A' : MA w a' b' c' d' e' qo qn qc X' Y') :
    Calls Try.prog 7 #[MV ⟨a, b, c, d, e, po, pn, pc⟩, MV ⟨a', b', c', d', e', qo, qn, qc⟩] w fun r w' => r = .returned (.bool true) ∧ Below w.heap.size w w' := by
  obtain ⟨w0, hw0⟩ : ∃ w0, w.alloc (.cells (MC ⟨a, b, c, d, e, po, pn, pc⟩) 24) = w0 := ⟨_, rfl⟩
  obtain ⟨g2, hg2⟩ : ∃ g2, w.heap.size = g2 := ⟨_, rfl⟩
  obtain ⟨w1, hw1⟩ : ∃ w1, w0.alloc (.cells (MC ⟨a', b', c', d', e', qo, qn, qc⟩) 24) = w1 := ⟨_, rfl⟩
  obtain ⟨g3, hg3⟩ : ∃ g3, w0.heap.size = g3 := ⟨_, rfl⟩
  have X2 := bx_new w ⟨a, b, c, d, e, po, pn, pc⟩ hw0 hg2
  have X3 := bx_new w0 ⟨a', b', c', d', e', qo, qn, qc⟩ hw1 hg3
  have hb1 := X2.bel.trans (X3.bel.mono X2.bel.size)
  have HB := hide hb1
  have HM : Hid (MBox w1 g2 ⟨a, b, c, d, e, po, pn, pc⟩ ∧ MBox w1 g3 ⟨a', b', c', d', e', qo, qn, qc⟩) := ⟨X2.box.below X3.bel, X3.box⟩
  have HA := hide (A.below hb1)
  have HA' := hide (A'.below hb1)
  have HSW : Hid (∀ wr : World, Below w1.heap.size w1 wr → MBox wr g2 ⟨a, b, c, d, e, po, pn, pc⟩ ∧ MBox wr g3 ⟨a', b', c', d', e', qo, qn, qc⟩) := fun wr hb => ⟨HM.out.1.below hb, HM.out.2.below hb⟩
  have HC := hide (awake_any w1)
  clear X2 X3 hb1 A A'
  go_enter Try.func7, Try.ntmps7
  go_wp2_with fail
  refine HC.out.mono ?_
  rintro r w2 ⟨rfl, b2⟩
  have HB2 := hide b2
  have hl2 := run_ldM (HSW.out w2 b2).1
  have HK := rcheck_any a b c d e po pn pc X w2 (HA.out.below b2).s
  clear b2 HC
  rcases ckE_01 ⟨a, b, c, d, e, po, pn, pc⟩ X with hc | hc
  case inr =>
    rw [hc] at HK
    have HK := hide HK
    clear hc
    go_wp2_with fail
    refine HK.out.mono ?_
    rintro r w3 ⟨rfl, b3⟩
    have HE := hide (HB.out.trans ((HB2.out.trans (b3.mono HB2.out.size)).mono HB.out.size))
    clear b3 HK hl2
    go_wp2_with fail
    go_ret
    exact ⟨rfl, HE.out⟩
  rw [hc] at HK
  have HK := hide HK
  have HCa := hide hc
  clear hc
  go_wp2_with fail
  refine HK.out.mono ?_
  rintro r w3 ⟨rfl, b3⟩
  have HB3 := hide (HB2.out.trans (b3.mono HB2.out.size))
  have hl3 := run_ldM (HSW.out w3 HB3.out).2
  have HK3 := rcheck_any a' b' c' d' e' qo qn qc X' w3 (HA'.out.below HB3.out).s
  clear b3 HK hl2 HB2
  rcases ckE_01 ⟨a', b', c', d', e', qo, qn, qc⟩ X' with hc | hc
  case inr =>
    rw [hc] at HK3
    have HK := hide HK3
    clear hc HK3
    go_wp2_with fail
    refine HK.out.mono ?_
    rintro r w4 ⟨rfl, b4⟩
    have HE := hide (HB.out.trans ((HB3.out.trans (b4.mono HB3.out.size)).mono HB.out.size))
    clear b4 HK hl3
    go_wp2_with fail
    go_ret
    exact ⟨rfl, HE.out⟩
  rw [hc] at HK3
  have HK := hide HK3
  have HCb := hide hc
  clear hc HK3
  go_wp2_with fail
  refine HK.out.mono ?_
  rintro r w4 ⟨rfl, b4⟩
  have HB4 := hide (HB3.out.trans (b4.mono HB3.out.size))
  have hl4 := run_ldM (HSW.out w4 HB4.out).1
  have HP := hide ((HA.out.below HB4.out).put HCa.out)
  clear b4 HK hl3 HB3
  go_wp2_with fail
  refine HP.out.mono ?_
  rintro r w5 ⟨xo, xn, xc, rfl, X5, N5⟩
  have HB5 := hide (HB4.out.trans (N5.1.mono HB4.out.size))
  have hl5 := run_ldM (HSW.out w5 HB5.out).2
  have HS5 := hide (X5.srcO HA.out.oc)
  have HP5 := hide ((HA'.out.below HB5.out).put HCb.out)
  clear X5 N5 HP hl4 HB4
  go_wp2_with fail
  refine HP5.out.mono ?_
  rintro r w6 ⟨yo, yn, yc, rfl, Y6, N6⟩
  have HB6 := hide (HB5.out.trans (N6.1.mono HB5.out.size))
  have HS6 := hide (And.intro (HS5.out.below N6.1) (Y6.srcO HA'.out.oc))
  obtain ⟨u, hu⟩ : ∃ u, decide (mailB (pmOf a b c d e pn X Y) = mailB (pmOf a' b' c' d' e' qn X' Y')) = u := ⟨_, rfl⟩
  have hE := eqB_any xo yo xn xc yn yc _ _ w6.drew (HS6.out.1.below (below_drew1 w6)) (HS6.out.2.below (below_drew1 w6)) (by have h1 := HA.out.len HCa.out; have h2 := HS6.out.1.1; omega)
  rw [hu] at hE
  have HE := hide hE
  have HB7 : Hid (Below w1.heap.size w1 w6.drew) := HB6.out.trans ((below_drew1 w6).mono HB6.out.size)
  have HIff := hide (EqQ_iff HA.out HCa.out HA'.out HCb.out)
  have HU : Hid (if u = true then mailB (pmOf a b c d e pn X Y) = mailB (pmOf a' b' c' d' e' qn X' Y') else ¬ mailB (pmOf a b c d e pn X Y) = mailB (pmOf a' b' c' d' e' qn X' Y')) := by
    show (if _ then _ else _)
    cases u with
    | true => exact of_decide_eq_true hu
    | false => exact of_decide_eq_false hu
  clear hu hE Y6 N6 HP5 hl5 HB5 HS5
  go_wp2_with fail
  refine wp_region_held_drew (S := fun wr => MBox wr g2 ⟨a, b, c, d, e, po, pn, pc⟩ ∧ MBox wr g3 ⟨a', b', c', d', e', qo, qn, qc⟩) (by kernel_rfl) (HSW.out _ HB7.out) (fun hHeld => ?_)
  refine wpAnyH_take (i := 0) (oi := { dst := some 29, op := Op.move (Operand.tmp 6), type := 27, pos := "outright.go:65", after := #[], guard := none }) (v := ?_) rfl (by kernel_rfl) (by kernel_rfl) (by kernel_rfl) (fun _ _ _ h => h) (Or.inl ⟨by rfl, ?_⟩) (by assumption) ?_
  rotate_left
  · (intro w hSw; (try dsimp only at hSw); go_simp); first | done | with_reducible rfl
  simp only [Act.put, List.setIfInBounds_toArray, List.set_cons_zero, List.set_cons_succ]
  refine wpAnyH_take (i := 1) (oi := { dst := some 30, op := Op.binOp BinOp.eql 27 (Operand.tmp 29) (Operand.const (Value.int IntKind.i64 0)) 27, type := 4, pos := "outright.go:65", after := #[{ on := 0, ground := Ground.data }], guard := none }) (v := ?_) rfl (by kernel_rfl) (by kernel_rfl) (by kernel_rfl) (fun _ _ _ h => h) (Or.inl ⟨by rfl, ?_⟩) (by assumption) ?_
  rotate_left
  · (intro w hSw; (try dsimp only at hSw); go_simp); first | done | with_reducible rfl
  simp only [Act.put, List.setIfInBounds_toArray, List.set_cons_zero, List.set_cons_succ]
  refine wpAnyH_take (i := 2) (oi := { dst := some 31, op := Op.move (Operand.tmp 30), type := 4, pos := "outright.go:65", after := #[{ on := 1, ground := Ground.data }], guard := none }) (v := ?_) rfl (by kernel_rfl) (by kernel_rfl) (by kernel_rfl) (fun _ _ _ h => h) (Or.inl ⟨by rfl, ?_⟩) (by assumption) ?_
  rotate_left
  · (intro w hSw; (try dsimp only at hSw); go_simp); first | done | with_reducible rfl
  simp only [Act.put, List.setIfInBounds_toArray, List.set_cons_zero, List.set_cons_succ]
  refine wpAnyH_take (i := 3) (oi := { dst := some 32, op := Op.move (Operand.tmp 8), type := 27, pos := "outright.go:65", after := #[{ on := 2, ground := Ground.guard }], guard := some (2, true) }) (v := ?_) rfl (by kernel_rfl) (by kernel_rfl) (by kernel_rfl) (fun _ _ _ h => h) (Or.inl ⟨by rfl, ?_⟩) (by assumption) ?_
  rotate_left
  · (intro w hSw; (try dsimp only at hSw); go_simp); first | done | with_reducible rfl
  simp only [Act.put, List.setIfInBounds_toArray, List.set_cons_zero, List.set_cons_succ]
  refine wpAnyH_take (i := 4) (oi := { dst := some 33, op := Op.binOp BinOp.eql 27 (Operand.tmp 32) (Operand.const (Value.int IntKind.i64 0)) 27, type := 4, pos := "outright.go:65", after := #[{ on := 3, ground := Ground.data }, { on := 2, ground := Ground.guard }], guard := some (2, true) }) (v := ?_) rfl (by kernel_rfl) (by kernel_rfl) (by kernel_rfl) (fun _ _ _ h => h) (Or.inl ⟨by rfl, ?_⟩) (by assumption) ?_
  rotate_left
  · (intro w hSw; (try dsimp only at hSw); go_simp); first | done | with_reducible rfl
  simp only [Act.put, List.setIfInBounds_toArray, List.set_cons_zero, List.set_cons_succ]
  refine wpAnyH_take (i := 5) (oi := { dst := some 34, op := Op.pick (Operand.tmp 31) (Operand.tmp 33) (Operand.const (Value.bool false)), type := 4, pos := "outright.go:65", after := #[{ on := 2, ground := Ground.data }, { on := 4, ground := Ground.data }], guard := none }) (v := ?_) rfl (by kernel_rfl) (by kernel_rfl) (by kernel_rfl) (fun _ _ _ h => h) (Or.inl ⟨by rfl, ?_⟩) (by assumption) ?_
  rotate_left
  · (intro w hSw; (try dsimp only at hSw); go_simp); first | done | with_reducible rfl
  simp only [Act.put, List.setIfInBounds_toArray, List.set_cons_zero, List.set_cons_succ]
  refine wpAnyH_take (i := 6) (oi := { dst := some 35, op := Op.move (Operand.tmp 34), type := 4, pos := "outright.go:65", after := #[{ on := 5, ground := Ground.data }, { on := 2, ground := Ground.chain }], guard := none }) (v := ?_) rfl (by kernel_rfl) (by kernel_rfl) (by kernel_rfl) (fun _ _ _ h => h) (Or.inl ⟨by rfl, ?_⟩) (by assumption) ?_
  rotate_left
  · (intro w hSw; (try dsimp only at hSw); go_simp); first | done | with_reducible rfl
  simp only [Act.put, List.setIfInBounds_toArray, List.set_cons_zero, List.set_cons_succ]
  refine wpAnyH_take (i := 7) (oi := { dst := some 36, op := Op.move (Operand.tmp 5), type := 26, pos := "outright.go:65", after := #[{ on := 6, ground := Ground.guard }], guard := some (6, true) }) (v := ?_) rfl (by kernel_rfl) (by kernel_rfl) (by kernel_rfl) (fun _ _ _ h => h) (Or.inl ⟨by rfl, ?_⟩) (by assumption) ?_
  rotate_left
  · (intro w hSw; (try dsimp only at hSw); go_simp); first | done | with_reducible rfl
  simp only [Act.put, List.setIfInBounds_toArray, List.set_cons_zero, List.set_cons_succ]
  refine wpAnyH_take (i := 8) (oi := { dst := some 37, op := Op.move (Operand.tmp 7), type := 26, pos := "outright.go:65", after := #[{ on := 6, ground := Ground.guard }], guard := some (6, true) }) (v := ?_) rfl (by kernel_rfl) (by kernel_rfl) (by kernel_rfl) (fun _ _ _ h => h) (Or.inl ⟨by rfl, ?_⟩) (by assumption) ?_
  rotate_left
  · (intro w hSw; (try dsimp only at hSw); go_simp); first | done | with_reducible rfl
  simp only [Act.put, List.setIfInBounds_toArray, List.set_cons_zero, List.set_cons_succ]
  refine wpAnyH_take (i := 10) (oi := { dst := some 39, op := Op.load 24 (Operand.tmp 2), type := 24, pos := "outright.go:65", after := #[{ on := 6, ground := Ground.guard }], guard := some (6, true) }) (v := ?_) rfl (by kernel_rfl) (by kernel_rfl) (by kernel_rfl) (fun _ _ _ h => h) (Or.inl ⟨by rfl, ?_⟩) (by assumption) ?_
  rotate_left
  · (intro w hSw; (try dsimp only at hSw); have hl := run_ldM hSw.1; go_simp); first | done | with_reducible rfl
  simp only [Act.put, List.setIfInBounds_toArray, List.set_cons_zero, List.set_cons_succ]
  refine wpAnyH_take (i := 11) (oi := { dst := some 40, op := Op.load 24 (Operand.tmp 3), type := 24, pos := "outright.go:65", after := #[{ on := 6, ground := Ground.guard }], guard := some (6, true) }) (v := ?_) rfl (by kernel_rfl) (by kernel_rfl) (by kernel_rfl) (fun _ _ _ h => h) (Or.inl ⟨by rfl, ?_⟩) (by assumption) ?_
  rotate_left
  · (intro w hSw; (try dsimp only at hSw); have hl := run_ldM hSw.2; go_simp); first | done | with_reducible rfl
  simp only [Act.put, List.setIfInBounds_toArray, List.set_cons_zero, List.set_cons_succ]
  refine wpAnyH_ready (rs := [9]) (by kernel_rfl) (by simp) ?_
  refine AllReadyH.cons rfl (fun K hK => ?_) ?_
  rotate_left
  · exact AllReadyH.nil
  go_simp
  go_wp2_with fail
  refine HE.out.mono ?_
  rintro r w8 ⟨rfl, b8⟩
  have HB8 := hide (HB7.out.trans (b8.mono HB7.out.size))
  have HQ := hide (equal_any a b c d e a' b' c' d' e' po qo pn pc qn qc X X' Y Y' w8 ⟨(HA.out.below HB8.out).s, (HA'.out.below HB8.out).s, (HA.out.below HB8.out).p, (HA'.out.below HB8.out).p⟩ (fun k hk => by have := HA.out.lens k hk; omega))
  clear b8
  refine hK.out _ _ (HSW.out _ HB8.out) (fun hHeld => ?_)
  clear hK K
  refine wpAnyH_ready (rs := [12]) (by kernel_rfl) (by simp) ?_
  refine AllReadyH.cons rfl (fun K hK => ?_) ?_
  rotate_left
  · exact AllReadyH.nil
  go_simp
  go_wp2_with fail
  refine HQ.out.mono ?_
  rintro r w9 ⟨v, rfl, hv, b9⟩
  have HB9 := hide (HB8.out.trans (b9.mono HB8.out.size))
  have hu : u = v := by
    have h1 := HU.out
    have h2 := HIff.out
    clear HE hHeld
    cases u with
    | true =>
      rw [if_pos rfl] at h1
      exact (hv.2 (h2.1 h1)).symm
    | false =>
      rw [if_neg (by simp)] at h1
      cases v with
      | true => exact absurd (h2.2 (hv.1 rfl)) h1
      | false => rfl
  subst hu
  clear hv b9
  refine hK.out _ _ (HSW.out _ HB9.out) (fun hHeld => ?_)
  clear hK K
  refine wpAnyH_take (i := 13) (oi := { dst := some 42, op := Op.binOp BinOp.eql 4 (Operand.tmp 38) (Operand.tmp 41) 4, type := 4, pos := "outright.go:65", after := #[{ on := 9, ground := Ground.data }, { on := 12, ground := Ground.data }, { on := 6, ground := Ground.guard }], guard := some (6, true) }) (v := ?_) rfl (by kernel_rfl) (by kernel_rfl) (by kernel_rfl) (fun _ _ _ h => h) (Or.inl ⟨by rfl, ?_⟩) (by assumption) ?_
  rotate_left
  · (intro w hSw; (try dsimp only at hSw); go_simp); first | done | with_reducible rfl
  simp only [Act.put, List.setIfInBounds_toArray, List.set_cons_zero, List.set_cons_succ]
  refine wpAnyH_take (i := 14) (oi := { dst := some 43, op := Op.pick (Operand.tmp 35) (Operand.tmp 42) (Operand.const (Value.bool false)), type := 4, pos := "outright.go:65", after := #[{ on := 6, ground := Ground.data }, { on := 13, ground := Ground.data }], guard := none }) (v := ?_) rfl (by kernel_rfl) (by kernel_rfl) (by kernel_rfl) (fun _ _ _ h => h) (Or.inl ⟨by rfl, ?_⟩) (by assumption) ?_
  rotate_left
  · (intro w hSw; (try dsimp only at hSw); go_simp); first | done | with_reducible rfl
  simp only [Act.put, List.setIfInBounds_toArray, List.set_cons_zero, List.set_cons_succ]
  refine wpAnyH_take (i := 15) (oi := { dst := some 4, op := Op.assign (Operand.tmp 43), type := 4, pos := "outright.go:65", after := #[{ on := 14, ground := Ground.data }, { on := 12, ground := Ground.chain }, { on := 0, ground := Ground.phase }, { on := 1, ground := Ground.phase }, { on := 2, ground := Ground.phase }, { on := 3, ground := Ground.phase }, { on := 4, ground := Ground.phase }, { on := 5, ground := Ground.phase }, { on := 6, ground := Ground.phase }, { on := 7, ground := Ground.phase }, { on := 8, ground := Ground.phase }, { on := 9, ground := Ground.phase }, { on := 10, ground := Ground.phase }, { on := 11, ground := Ground.phase }, { on := 12, ground := Ground.phase }, { on := 13, ground := Ground.phase }, { on := 14, ground := Ground.phase }], guard := none }) (v := ?_) rfl (by kernel_rfl) (by kernel_rfl) (by kernel_rfl) (fun _ _ _ h => h) (Or.inl ⟨by rfl, ?_⟩) (by assumption) ?_
  rotate_left
  · (intro w hSw; (try dsimp only at hSw); go_simp); first | done | with_reducible rfl
  simp only [Act.put, List.setIfInBounds_toArray, List.set_cons_zero, List.set_cons_succ]
  refine wpAnyH_done (by kernel_rfl) ?_ _
  clear hHeld
  go_wp2_with fail
  go_ret
  exact ⟨rfl, HB.out.trans (HB9.out.mono HB.out.size)⟩
end Go.Proofs.Ytcpaaegbjcbnaaa
