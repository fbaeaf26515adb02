/- mail.Size. -/
import Derived.Test.YtpnlfljndkfplaaNFm
import Derived.Test.YtpnlfljndkfplaaUSz
namespace Go.Proofs.Ytpnlfljndkfplaa
open Go.RowKit
attribute [local go_sem ↓] ldP_eq stP_eq ldM_eq stM_eq mkP_eq
attribute [local go_sem] to_MC MC_s0 MC_s1 MC_s2 MC_s3 MC_s4 MC_s5
variable {w w' w2 : World} {g : Nat}

set_option maxRecDepth 100000 in
theorem msize_bad (a b c d e : Int) (po : Option Addr) (pn pc : Nat) (X : List Pt) (w : World) (S : PSrc w po pn pc X) (he : e ≤ 9223372036854775807) (hck : ckE ⟨a, b, c, d, e, po, pn, pc⟩ X = 1) : Calls Try.prog 13 #[MV ⟨a, b, c, d, e, po, pn, pc⟩] w fun r w' => r = .returned (.tuple #[.int .i64 0, .int .i64 1]) ∧ Below w.heap.size w w' := by
  obtain ⟨w1, hw1⟩ : ∃ w1, w.alloc (.cells (MC ⟨a, b, c, d, e, po, pn, pc⟩) 24) = w1 := ⟨_, rfl⟩
  obtain ⟨g, hg⟩ : ∃ g, w.heap.size = g := ⟨_, rfl⟩
  have HX := hide (bx_new w ⟨a, b, c, d, e, po, pn, pc⟩ hw1 hg)
  have hl := run_ldM HX.out.box
  have hC := check_any a b c d e po pn pc X w1 (S.below HX.out.bel) he
  rw [hck] at hC
  have HC := hide hC
  have HB : Hid (Below w.heap.size w w1) := by show Below _ _ _; exact HX.out.bel
  clear S hck hC
  go_enter Try.func13, Try.ntmps13
  go_wp2_with fail
  refine HC.out.mono ?_
  rintro r w3 ⟨rfl, b3⟩
  have HB3 := hide (HB.out.trans (b3.mono HB.out.size))
  clear b3 hl HC
  go_wp2_with fail
  go_ret2
  exact ⟨rfl, HB3.out⟩
set_option maxRecDepth 100000 in
set_option maxHeartbeats 4000000 in
theorem msize_ok (a b c d e : Int) (po : Option Addr) (pn pc : Nat) (X : List Pt) (Y : List (List Int)) (w : World) (A : MA w a b c d e po pn pc X Y) (hck : ckE ⟨a, b, c, d, e, po, pn, pc⟩ X = 0) : Calls Try.prog 13 #[MV ⟨a, b, c, d, e, po, pn, pc⟩] w fun r w' => r = .returned (.tuple #[.int .i64 ((mailB (pmOf a b c d e pn X Y)).length : Int), .int .i64 0]) ∧ Below w.heap.size w w' := by
  have hb := in_bounds hck
  have h64 := (A.okN hck).2
  have hlen := A.len hck
  obtain ⟨w1, hw1⟩ : ∃ w1, w.alloc (.cells (MC ⟨a, b, c, d, e, po, pn, pc⟩) 24) = w1 := ⟨_, rfl⟩
  obtain ⟨g, hg⟩ : ∃ g, w.heap.size = g := ⟨_, rfl⟩
  have HX := hide (bx_new w ⟨a, b, c, d, e, po, pn, pc⟩ hw1 hg)
  have hl := run_ldM HX.out.box
  have hC := check_any a b c d e po pn pc X w1 (A.s.below HX.out.bel) A.hi
  rw [hck] at hC
  have HC := hide hC
  have HS := hide A.s
  have HY := hide A.p
  have HLn := hide A.lens
  have HB : Hid (Below w.heap.size w w1) := HX.out.bel
  have HF : Hid (0 ≤ a ∧ a ≤ 6 ∧ 0 ≤ b ∧ b ≤ 15 ∧ 0 ≤ c ∧ c ≤ 15 ∧ 0 ≤ d ∧ d ≤ e ∧ e ≤ 4611686018427387904 ∧ pn ≤ 64) := ⟨hb.1, hb.2.1, hb.2.2.1, hb.2.2.2.1, hb.2.2.2.2.1, hb.2.2.2.2.2.1, hb.2.2.2.2.2.2.1, hb.2.2.2.2.2.2.2.1, hb.2.2.2.2.2.2.2.2.1, h64⟩
  have HRi : Hid (∀ k, k < pn → 0 ≤ (X.getD k pt0).cart ∧ (X.getD k pt0).cart < 64) := fun k hk => by have := rise_at X (-1) k hb.2.2.2.2.2.2.2.2.2 (by rw [A.s.len]; exact hk); omega
  have HT2 : Hid (∀ k, k ≤ pn → (hB [a.toNat, b.toNat, c.toNat, d.toNat, e.toNat, pn] 6).length + (partsB (ptsOf X Y k)).length ≤ 70000000) := fun k hk => by
    rw [mailB_eq, List.length_append] at hlen
    have := partsB_le X Y pn k hk
    omega
  have HT : Hid (∀ k, k < 6 → (hB [a.toNat, b.toNat, c.toNat, d.toNat, e.toNat, pn] k).length ≤ 70000000) := fun k hk => by
    have := hB_le [a.toNat, b.toNat, c.toNat, d.toNat, e.toNat, pn] k (by omega)
    have := HT2.out 0 (Nat.zero_le _)
    omega
  have HEq : Hid ((mailB (pmOf a b c d e pn X Y)).length = (hB [a.toNat, b.toNat, c.toNat, d.toNat, e.toNat, pn] 6).length + (partsB (ptsOf X Y pn)).length) := by show _ = _; rw [mailB_eq, List.length_append]
  clear A hck hC hb h64 hlen
  go_enter Try.func13, Try.ntmps13
  go_wp2_with fail
  refine HC.out.mono ?_
  rintro r w3 ⟨rfl, b3⟩
  have M3 := HX.out.box.below b3
  have hl3 := run_ldM M3
  have HB3 := hide (HB.out.trans (b3.mono HB.out.size))
  have HM3 := hide M3
  have HH := hide (head_any a b c d e po pn pc w3)
  clear b3 hl HC M3
  go_wp2_with fail
  refine HH.out.mono ?_
  rintro r w5 ⟨rfl, b5⟩
  have HB5 := hide (HB3.out.trans (b5.mono HB3.out.size))
  have HM5 := hide (HM3.out.below b5)
  clear b5 hl3 HH HM3 HB3
  go_wp2_with fail
  go_loopw [5, 17] (fun s i wr => ∃ k : Nat, k ≤ 6 ∧ s = .int .i64 ((hB [a.toNat, b.toNat, c.toNat, d.toNat, e.toNat, pn] k).length : Int) ∧ i = .int .i64 k ∧ Hid (wr = w5)) (fun _ i _ => 6 - (intOf i).toNat)
  case atStart => exact ⟨0, by decide, rfl, rfl, rfl⟩
  case round =>
    obtain ⟨k, hk, rfl, rfl, HW⟩ := hrel
    by_cases h6 : k < 6
    · as_aux_lemma =>
        match k, h6 with
        | 0, _ =>
          have HC := hide (size_numB a.toNat wr (by have := HF.out; omega))
          rw [show ((a.toNat : Nat) : Int) = a by have := HF.out; omega] at HC
          have hix : (Instr.index 51 (A6 a b c d e pn) (.int .i64 0)).run Try.prog wr = .ok (.int .i64 a) wr := by kernel_rfl
          have HW6 : Hid (wrap64 (((hB [a.toNat, b.toNat, c.toNat, d.toNat, e.toNat, pn] 0).length : Int) + ((numB a.toNat).length : Int)) = ((hB [a.toNat, b.toNat, c.toNat, d.toNat, e.toNat, pn] 1).length : Int)) := by
            have eL := congrArg List.length (hB_succ [a.toNat, b.toNat, c.toNat, d.toNat, e.toNat, pn] 0 (by simp))
            rw [List.length_append] at eL
            have h9 := numB_nine (n := a.toNat) (by have := HF.out; omega)
            have h0 := HT.out 0 (by decide)
            show _ = _
            rw [w64 (by omega) (by omega), eL]
            rfl
          go_wp2_with fail
          refine HC.out.mono ?_
          rintro r w5 ⟨rfl, rfl⟩
          go_wp2_with fail
          go_roundw
          case rel => exact ⟨1, by decide, by rw [HW6.out], rfl, HW⟩
          case measure => simp [intOf]
        | 1, _ =>
          have HC := hide (size_numB b.toNat wr (by have := HF.out; omega))
          rw [show ((b.toNat : Nat) : Int) = b by have := HF.out; omega] at HC
          have hix : (Instr.index 51 (A6 a b c d e pn) (.int .i64 1)).run Try.prog wr = .ok (.int .i64 b) wr := by kernel_rfl
          have HW6 : Hid (wrap64 (((hB [a.toNat, b.toNat, c.toNat, d.toNat, e.toNat, pn] 1).length : Int) + ((numB b.toNat).length : Int)) = ((hB [a.toNat, b.toNat, c.toNat, d.toNat, e.toNat, pn] 2).length : Int)) := by
            have eL := congrArg List.length (hB_succ [a.toNat, b.toNat, c.toNat, d.toNat, e.toNat, pn] 1 (by simp))
            rw [List.length_append] at eL
            have h9 := numB_nine (n := b.toNat) (by have := HF.out; omega)
            have h0 := HT.out 1 (by decide)
            show _ = _
            rw [w64 (by omega) (by omega), eL]
            rfl
          go_wp2_with fail
          refine HC.out.mono ?_
          rintro r w5 ⟨rfl, rfl⟩
          go_wp2_with fail
          go_roundw
          case rel => exact ⟨2, by decide, by rw [HW6.out], rfl, HW⟩
          case measure => simp [intOf]
        | 2, _ =>
          have HC := hide (size_numB c.toNat wr (by have := HF.out; omega))
          rw [show ((c.toNat : Nat) : Int) = c by have := HF.out; omega] at HC
          have hix : (Instr.index 51 (A6 a b c d e pn) (.int .i64 2)).run Try.prog wr = .ok (.int .i64 c) wr := by kernel_rfl
          have HW6 : Hid (wrap64 (((hB [a.toNat, b.toNat, c.toNat, d.toNat, e.toNat, pn] 2).length : Int) + ((numB c.toNat).length : Int)) = ((hB [a.toNat, b.toNat, c.toNat, d.toNat, e.toNat, pn] 3).length : Int)) := by
            have eL := congrArg List.length (hB_succ [a.toNat, b.toNat, c.toNat, d.toNat, e.toNat, pn] 2 (by simp))
            rw [List.length_append] at eL
            have h9 := numB_nine (n := c.toNat) (by have := HF.out; omega)
            have h0 := HT.out 2 (by decide)
            show _ = _
            rw [w64 (by omega) (by omega), eL]
            rfl
          go_wp2_with fail
          refine HC.out.mono ?_
          rintro r w5 ⟨rfl, rfl⟩
          go_wp2_with fail
          go_roundw
          case rel => exact ⟨3, by decide, by rw [HW6.out], rfl, HW⟩
          case measure => simp [intOf]
        | 3, _ =>
          have HC := hide (size_numB d.toNat wr (by have := HF.out; omega))
          rw [show ((d.toNat : Nat) : Int) = d by have := HF.out; omega] at HC
          have hix : (Instr.index 51 (A6 a b c d e pn) (.int .i64 3)).run Try.prog wr = .ok (.int .i64 d) wr := by kernel_rfl
          have HW6 : Hid (wrap64 (((hB [a.toNat, b.toNat, c.toNat, d.toNat, e.toNat, pn] 3).length : Int) + ((numB d.toNat).length : Int)) = ((hB [a.toNat, b.toNat, c.toNat, d.toNat, e.toNat, pn] 4).length : Int)) := by
            have eL := congrArg List.length (hB_succ [a.toNat, b.toNat, c.toNat, d.toNat, e.toNat, pn] 3 (by simp))
            rw [List.length_append] at eL
            have h9 := numB_nine (n := d.toNat) (by have := HF.out; omega)
            have h0 := HT.out 3 (by decide)
            show _ = _
            rw [w64 (by omega) (by omega), eL]
            rfl
          go_wp2_with fail
          refine HC.out.mono ?_
          rintro r w5 ⟨rfl, rfl⟩
          go_wp2_with fail
          go_roundw
          case rel => exact ⟨4, by decide, by rw [HW6.out], rfl, HW⟩
          case measure => simp [intOf]
        | 4, _ =>
          have HC := hide (size_numB e.toNat wr (by have := HF.out; omega))
          rw [show ((e.toNat : Nat) : Int) = e by have := HF.out; omega] at HC
          have hix : (Instr.index 51 (A6 a b c d e pn) (.int .i64 4)).run Try.prog wr = .ok (.int .i64 e) wr := by kernel_rfl
          have HW6 : Hid (wrap64 (((hB [a.toNat, b.toNat, c.toNat, d.toNat, e.toNat, pn] 4).length : Int) + ((numB e.toNat).length : Int)) = ((hB [a.toNat, b.toNat, c.toNat, d.toNat, e.toNat, pn] 5).length : Int)) := by
            have eL := congrArg List.length (hB_succ [a.toNat, b.toNat, c.toNat, d.toNat, e.toNat, pn] 4 (by simp))
            rw [List.length_append] at eL
            have h9 := numB_nine (n := e.toNat) (by have := HF.out; omega)
            have h0 := HT.out 4 (by decide)
            show _ = _
            rw [w64 (by omega) (by omega), eL]
            rfl
          go_wp2_with fail
          refine HC.out.mono ?_
          rintro r w5 ⟨rfl, rfl⟩
          go_wp2_with fail
          go_roundw
          case rel => exact ⟨5, by decide, by rw [HW6.out], rfl, HW⟩
          case measure => simp [intOf]
        | 5, _ =>
          have HC := hide (size_numB pn wr (by have := HF.out; omega))
          rw [show ((pn : Nat) : Int) = (pn : Int) by have := HF.out; omega] at HC
          have hix : (Instr.index 51 (A6 a b c d e pn) (.int .i64 5)).run Try.prog wr = .ok (.int .i64 (pn : Int)) wr := by kernel_rfl
          have HW6 : Hid (wrap64 (((hB [a.toNat, b.toNat, c.toNat, d.toNat, e.toNat, pn] 5).length : Int) + ((numB pn).length : Int)) = ((hB [a.toNat, b.toNat, c.toNat, d.toNat, e.toNat, pn] 6).length : Int)) := by
            have eL := congrArg List.length (hB_succ [a.toNat, b.toNat, c.toNat, d.toNat, e.toNat, pn] 5 (by simp))
            rw [List.length_append] at eL
            have h9 := numB_nine (n := pn) (by have := HF.out; omega)
            have h0 := HT.out 5 (by decide)
            show _ = _
            rw [w64 (by omega) (by omega), eL]
            rfl
          go_wp2_with fail
          refine HC.out.mono ?_
          rintro r w5 ⟨rfl, rfl⟩
          go_wp2_with fail
          go_roundw
          case rel => exact ⟨6, by decide, by rw [HW6.out], rfl, HW⟩
          case measure => simp [intOf]
    · have hnl : ¬ (k : Int) < 6 := by omega
      obtain ⟨s6, hs6⟩ : ∃ s6 : Nat, (hB [a.toNat, b.toNat, c.toNat, d.toNat, e.toNat, pn] k).length = s6 := ⟨_, rfl⟩
      have HS6 : Hid ((hB [a.toNat, b.toNat, c.toNat, d.toNat, e.toNat, pn] 6).length = s6) := by show _ = _; rw [← hs6, show k = 6 by omega]
      rw [hs6]
      have HB6 : Hid (Below w.heap.size w wr ∧ MBox wr g ⟨a, b, c, d, e, po, pn, pc⟩) := by have := HW.out; subst this; exact ⟨HB5.out, HM5.out⟩
      have x5 := HB6.out.2.c5
      simp only at x5
      clear HB5 HM5 HW hs6
      go_wp2_with fail
      go_loopw [5, 28] (fun s i wq => ∃ k : Nat, k ≤ pn ∧ s = .int .i64 ((s6 + (partsB (ptsOf X Y k)).length : Nat) : Int) ∧ i = .int .i64 k ∧ Hid (Below w.heap.size w wq)) (fun _ i _ => pn - (intOf i).toNat)
      case atStart => exact ⟨0, Nat.zero_le _, rfl, rfl, HB6.out.1⟩
      case round =>
        clear x5 hk h6 hnl HB6
        obtain ⟨k, hk, rfl, rfl, HW⟩ := hrel
        by_cases hlt : k < pn
        · have HLT := hide hlt
          have HK1 : Hid (wrap64 ((k : Int) + 1) = ((k + 1 : Nat) : Int)) := by show _ = _; have := HF.out; rw [w64 (by omega) (by omega)]; rfl
          obtain ⟨bb, oo, rfl, A0⟩ := (HS.out.below HW.out).at k hlt
          have hR := HRi.out k hlt
          have hY0 := HY.out k hlt
          have hT := HT2.out (k + 1) hlt
          have hP := ptsOf_succ X Y k
          have hv := HLn.out k hlt
          obtain ⟨⟨ct, vo, vn, vc⟩, hp⟩ : ∃ p, X.getD k pt0 = p := ⟨_, rfl⟩
          rw [hp] at A0 hY0 hR hP
          simp only at hY0 hR hP
          have hvn : (Y.getD k []).length = vn := hY0.1
          have hB2 : (partsB (ptsOf X Y (k + 1))).length = (partsB (ptsOf X Y k)).length + ((numB ct.toNat).length + ((numB vn).length + vn)) := by
            rw [hP, partsB_snoc]
            unfold partB frm
            simp only [List.length_append, hvn]
          obtain ⟨sk, hsk⟩ : ∃ sk, s6 + (partsB (ptsOf X Y k)).length = sk := ⟨_, rfl⟩
          have HC1 : Hid (∀ wx : World, Calls Try.prog 28 #[.int .i64 ct] wx fun e w' => e = .returned (.int .i64 ((numB ct.toNat).length : Int)) ∧ w' = wx) := fun wx => by
            have := size_numB ct.toNat wx (by omega)
            rwa [show ((ct.toNat : Nat) : Int) = ct by omega] at this
          have HC2 : Hid (∀ wx : World, Calls Try.prog 28 #[.int .i64 (vn : Int)] wx fun e w' => e = .returned (.int .i64 ((numB vn).length : Int)) ∧ w' = wx) := fun wx => size_numB vn wx (by omega)
          obtain ⟨n1, hn1⟩ : ∃ n1, (numB ct.toNat).length = n1 := ⟨_, rfl⟩
          obtain ⟨n2, hn2⟩ : ∃ n2, (numB vn).length = n2 := ⟨_, rfl⟩
          rw [hn1] at HC1 hB2
          rw [hn2] at HC2 hB2
          rw [hsk]
          have HS1 : Hid (IntKind.i64.wrap ((n1 : Int) + (n2 : Int)) = ((n1 + n2 : Nat) : Int)) := by show _ = _; rw [IntKind.wrap_i64]; omega
          have HS2 : Hid (IntKind.i64.wrap (((n1 + n2 : Nat) : Int) + (vn : Int)) = ((n1 + n2 + vn : Nat) : Int)) := by show _ = _; rw [IntKind.wrap_i64]; omega
          have HS3 : Hid (IntKind.i64.wrap ((sk : Int) + ((n1 + n2 + vn : Nat) : Int)) = ((s6 + (partsB (ptsOf X Y (k + 1))).length : Nat) : Int)) := by show _ = _; have := HS6.out; rw [IntKind.wrap_i64]; omega
          have hld := run_ldP A0
          obtain ⟨g2, hg2⟩ : ∃ g2, wr.heap.size = g2 := ⟨_, rfl⟩
          obtain ⟨w6, hst0, P6, b6, z6⟩ := madeP wr ⟨ct, vo, vn, vc⟩ g2 hg2
          have hst : (stP (.pointer (some ⟨g2, 0, none⟩)) (.agg (PC ⟨ct, vo, vn, vc⟩))).run Try.prog (wr.alloc (.cells #[.int .i64 0, .slice none 0 0] 46)) = .ok () w6 := hst0
          have y0 : w6.drew.cell? ⟨g2, 0, none⟩ = some (.int .i64 ct) := P6.at.c0
          have y1 : w6.drew.cell? ⟨g2, 1, none⟩ = some (.slice vo vn vc) := by have := P6.at.c1; rw [Addr.add_lit] at this; exact this
          have HW6 : Hid (Below w.heap.size w w6.drew) := HW.out.trans ((b6.trans ((below_drew1 w6).mono b6.size)).mono HW.out.size)
          clear A0 hR hY0 hT hP hv hp hvn hB2 hst0 P6 b6 z6 hn1 hn2 HW hsk
          go_wp2_with fail
          refine wp_region_held_drew (S := fun wr => wr.cell? ⟨g2, 0, none⟩ = some (.int .i64 ct) ∧ wr.cell? ⟨g2, 1, none⟩ = some (.slice vo vn vc)) (by kernel_rfl) (⟨y0, y1⟩) (fun hHeld => ?_)
          refine wpAnyH_take (i := 0) (oi := { dst := some 32, op := Op.move (Operand.tmp 5), type := 3, pos := "bytes.go:66", after := #[], guard := none }) (v := ?_) rfl (by kernel_rfl) (by kernel_rfl) (by kernel_rfl) (fun _ _ _ h => h) (Or.inl ⟨by rfl, ?_⟩) (by assumption) ?_
          rotate_left
          · (intro w hSw; (try dsimp only at hSw); go_simp); first | done | with_reducible rfl
          simp only [Act.put, List.setIfInBounds_toArray, List.set_cons_zero, List.set_cons_succ]
          refine wpAnyH_take (i := 1) (oi := { dst := some 33, op := Op.fieldAddr 46 (Operand.tmp 9) 0, type := 0, pos := "bytes.go:66", after := #[], guard := none }) (v := ?_) rfl (by kernel_rfl) (by kernel_rfl) (by kernel_rfl) (fun _ _ _ h => h) (Or.inl ⟨by rfl, ?_⟩) (by assumption) ?_
          rotate_left
          · (intro w hSw; (try dsimp only at hSw); go_simp); first | done | with_reducible rfl
          simp only [Act.put, List.setIfInBounds_toArray, List.set_cons_zero, List.set_cons_succ]
          refine wpAnyH_take (i := 2) (oi := { dst := some 34, op := Op.load 3 (Operand.tmp 33), type := 3, pos := "bytes.go:66", after := #[{ on := 1, ground := Ground.data }], guard := none }) (v := ?_) rfl (by kernel_rfl) (by kernel_rfl) (by kernel_rfl) (fun _ _ _ h => h) (Or.inl ⟨by rfl, ?_⟩) (by assumption) ?_
          rotate_left
          · (intro w hSw; (try dsimp only at hSw); go_simp); first | done | with_reducible rfl
          simp only [Act.put, List.setIfInBounds_toArray, List.set_cons_zero, List.set_cons_succ]
          refine wpAnyH_take (i := 4) (oi := { dst := some 36, op := Op.fieldAddr 46 (Operand.tmp 9) 1, type := 0, pos := "bytes.go:66", after := #[], guard := none }) (v := ?_) rfl (by kernel_rfl) (by kernel_rfl) (by kernel_rfl) (fun _ _ _ h => h) (Or.inl ⟨by rfl, ?_⟩) (by assumption) ?_
          rotate_left
          · (intro w hSw; (try dsimp only at hSw); go_simp); first | done | with_reducible rfl
          simp only [Act.put, List.setIfInBounds_toArray, List.set_cons_zero, List.set_cons_succ]
          refine wpAnyH_take (i := 5) (oi := { dst := some 37, op := Op.load 26 (Operand.tmp 36), type := 26, pos := "bytes.go:66", after := #[{ on := 4, ground := Ground.data }], guard := none }) (v := ?_) rfl (by kernel_rfl) (by kernel_rfl) (by kernel_rfl) (fun _ _ _ h => h) (Or.inl ⟨by rfl, ?_⟩) (by assumption) ?_
          rotate_left
          · (intro w hSw; (try dsimp only at hSw); go_simp); first | done | with_reducible rfl
          simp only [Act.put, List.setIfInBounds_toArray, List.set_cons_zero, List.set_cons_succ]
          refine wpAnyH_take (i := 6) (oi := { dst := some 38, op := Op.call { callee := Callee.builtin Builtin.len, args := #[Operand.tmp 37], argTypes := #[26] }, type := 3, pos := "bytes.go:66", after := #[{ on := 5, ground := Ground.data }], guard := none }) (v := ?_) rfl (by kernel_rfl) (by kernel_rfl) (by kernel_rfl) (fun _ _ _ h => h) (Or.inl ⟨by rfl, ?_⟩) (by assumption) ?_
          rotate_left
          · (intro w hSw; (try dsimp only at hSw); go_simp); first | done | with_reducible rfl
          simp only [Act.put, List.setIfInBounds_toArray, List.set_cons_zero, List.set_cons_succ]
          refine wpAnyH_take (i := 9) (oi := { dst := some 41, op := Op.fieldAddr 46 (Operand.tmp 9) 1, type := 0, pos := "bytes.go:66", after := #[], guard := none }) (v := ?_) rfl (by kernel_rfl) (by kernel_rfl) (by kernel_rfl) (fun _ _ _ h => h) (Or.inl ⟨by rfl, ?_⟩) (by assumption) ?_
          rotate_left
          · (intro w hSw; (try dsimp only at hSw); go_simp); first | done | with_reducible rfl
          simp only [Act.put, List.setIfInBounds_toArray, List.set_cons_zero, List.set_cons_succ]
          refine wpAnyH_take (i := 10) (oi := { dst := some 42, op := Op.load 26 (Operand.tmp 41), type := 26, pos := "bytes.go:66", after := #[{ on := 9, ground := Ground.data }], guard := none }) (v := ?_) rfl (by kernel_rfl) (by kernel_rfl) (by kernel_rfl) (fun _ _ _ h => h) (Or.inl ⟨by rfl, ?_⟩) (by assumption) ?_
          rotate_left
          · (intro w hSw; (try dsimp only at hSw); go_simp); first | done | with_reducible rfl
          simp only [Act.put, List.setIfInBounds_toArray, List.set_cons_zero, List.set_cons_succ]
          refine wpAnyH_take (i := 11) (oi := { dst := some 43, op := Op.call { callee := Callee.builtin Builtin.len, args := #[Operand.tmp 42], argTypes := #[26] }, type := 3, pos := "bytes.go:66", after := #[{ on := 10, ground := Ground.data }], guard := none }) (v := ?_) rfl (by kernel_rfl) (by kernel_rfl) (by kernel_rfl) (fun _ _ _ h => h) (Or.inl ⟨by rfl, ?_⟩) (by assumption) ?_
          rotate_left
          · (intro w hSw; (try dsimp only at hSw); go_simp); first | done | with_reducible rfl
          simp only [Act.put, List.setIfInBounds_toArray, List.set_cons_zero, List.set_cons_succ]
          refine wpAnyH_ready (rs := [3]) (by kernel_rfl) (by simp) ?_
          refine AllReadyH.cons rfl (fun K hK => ?_) ?_
          rotate_left
          · exact AllReadyH.nil
          go_simp
          go_wp2_with fail
          refine (HC1.out _).mono ?_
          rintro r w7 ⟨rfl, rfl⟩
          refine hK.out _ _ ⟨y0, y1⟩ (fun hHeld => ?_)
          clear hK K
          refine wpAnyH_ready (rs := [7]) (by kernel_rfl) (by simp) ?_
          refine AllReadyH.cons rfl (fun K hK => ?_) ?_
          rotate_left
          · exact AllReadyH.nil
          go_simp
          go_wp2_with fail
          refine (HC2.out _).mono ?_
          rintro r w8 ⟨rfl, rfl⟩
          refine hK.out _ _ ⟨y0, y1⟩ (fun hHeld => ?_)
          clear hK K
          refine wpAnyH_take (i := 8) (oi := { dst := some 40, op := Op.binOp BinOp.add 3 (Operand.tmp 35) (Operand.tmp 39) 3, type := 3, pos := "bytes.go:66", after := #[{ on := 3, ground := Ground.data }, { on := 7, ground := Ground.data }], guard := none }) (v := ?_) rfl (by kernel_rfl) (by kernel_rfl) (by kernel_rfl) (fun _ _ _ h => h) (Or.inl ⟨by rfl, ?_⟩) (by assumption) ?_
          rotate_left
          · (intro w hSw; (try dsimp only at hSw); go_simp); first | done | with_reducible rfl
          simp only [Act.put, List.setIfInBounds_toArray, List.set_cons_zero, List.set_cons_succ]
          refine wpAnyH_take (i := 12) (oi := { dst := some 44, op := Op.binOp BinOp.add 3 (Operand.tmp 40) (Operand.tmp 43) 3, type := 3, pos := "bytes.go:66", after := #[{ on := 8, ground := Ground.data }, { on := 11, ground := Ground.data }], guard := none }) (v := ?_) rfl (by kernel_rfl) (by kernel_rfl) (by kernel_rfl) (fun _ _ _ h => h) (Or.inl ⟨by rfl, ?_⟩) (by assumption) ?_
          rotate_left
          · (intro w hSw; (try dsimp only at hSw); go_simp); first | done | with_reducible rfl
          simp only [Act.put, List.setIfInBounds_toArray, List.set_cons_zero, List.set_cons_succ]
          refine wpAnyH_take (i := 13) (oi := { dst := some 45, op := Op.binOp BinOp.add 3 (Operand.tmp 32) (Operand.tmp 44) 3, type := 3, pos := "bytes.go:66", after := #[{ on := 0, ground := Ground.data }, { on := 12, ground := Ground.data }], guard := none }) (v := ?_) rfl (by kernel_rfl) (by kernel_rfl) (by kernel_rfl) (fun _ _ _ h => h) (Or.inl ⟨by rfl, ?_⟩) (by assumption) ?_
          rotate_left
          · (intro w hSw; (try dsimp only at hSw); go_simp); first | done | with_reducible rfl
          simp only [Act.put, List.setIfInBounds_toArray, List.set_cons_zero, List.set_cons_succ]
          simp only [HS1.out, HS2.out, HS3.out]
          refine wpAnyH_take (i := 14) (oi := { dst := some 5, op := Op.assign (Operand.tmp 45), type := 3, pos := "bytes.go:66", after := #[{ on := 13, ground := Ground.data }, { on := 7, ground := Ground.chain }, { on := 0, ground := Ground.phase }, { on := 1, ground := Ground.phase }, { on := 2, ground := Ground.phase }, { on := 3, ground := Ground.phase }, { on := 4, ground := Ground.phase }, { on := 5, ground := Ground.phase }, { on := 6, ground := Ground.phase }, { on := 7, ground := Ground.phase }, { on := 8, ground := Ground.phase }, { on := 9, ground := Ground.phase }, { on := 10, ground := Ground.phase }, { on := 11, ground := Ground.phase }, { on := 12, ground := Ground.phase }, { on := 13, ground := Ground.phase }], guard := none }) (v := ?_) rfl (by kernel_rfl) (by kernel_rfl) (by kernel_rfl) (fun _ _ _ h => h) (Or.inl ⟨by rfl, ?_⟩) (by assumption) ?_
          rotate_left
          · (intro w hSw; (try dsimp only at hSw); go_simp); first | done | with_reducible rfl
          simp only [Act.put, List.setIfInBounds_toArray, List.set_cons_zero, List.set_cons_succ]
          refine wpAnyH_done (by kernel_rfl) ?_ _
          clear hHeld
          go_wp2_with fail
          go_roundw
          case rel => exact ⟨k + 1, HLT.out, rfl, by rw [HK1.out], HW6⟩
          case measure => rw [HK1.out]; have := HLT.out; simp [intOf]; omega
        · obtain rfl : k = pn := by omega
          have HE : Hid (((s6 + (partsB (ptsOf X Y k)).length : Nat) : Int) = ((mailB (pmOf a b c d e k X Y)).length : Int)) := by show _ = _; rw [HEq.out, HS6.out]
          rw [HE.out]
          go_wp2_with fail
          go_ret2
          exact ⟨rfl, HW.out⟩
end Go.Proofs.Ytpnlfljndkfplaa
