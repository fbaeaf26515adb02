/- MailParts: the law. -/
import Derived.Test.YtcpaaegbjcbnaaaNCa
import Derived.Test.YtcpaaegbjcbnaaaNTh
namespace Go.Proofs.Ytcpaaegbjcbnaaa
open Go.RowKit
attribute [local go_sem ↓] ldP_eq stP_eq ldM_eq stM_eq mkP_eq
attribute [local go_sem] to_MC MC_s0 MC_s1 MC_s2 MC_s3 MC_s4 MC_s5
variable {w w' w2 : World} {g : Nat}

/-- Body of the read mail at a part's cart -/
theorem BodyIs.at {pn : Nat} {X : List Pt} {Y : List (List Int)} {q : Int} {r : Ending} (h : BodyIs w' pn X Y q r) (hX : X.length = pn) (hr : rise (-1) X = true) (k : Nat) (hk : k < pn) (hq : (X.getD k pt0).cart = q) :
    ∃ bo cc, r = .returned (.tuple #[.slice bo (X.getD k pt0).vn cc, .bool true]) ∧ Src w' bo (X.getD k pt0).vn cc (Y.getD k []) := by
  rcases h with ⟨j, bo, cc, hj, hc, hf, hr', hS⟩ | ⟨hf, _⟩
  · have e : j = k := by
      by_cases h1 : k < j
      · exact absurd hq (hf k h1)
      · by_cases h2 : j < k
        · have := rise_lt X (-1) j k hr h2 (by omega)
          omega
        · omega
    subst e
    exact ⟨bo, cc, hr', hS⟩
  · exact absurd hq (hf k hk)
theorem MlIs.vn {n0 : Nat} {p : Pm} {a' b' c' d' e' : Int} {qo : Option Addr} {qn qc : Nat} {X' : List Pt} {Y' : List (List Int)} (h : MlIs n0 w p ⟨a', b', c', d', e', qo, qn, qc⟩ X' Y') (k : Nat) (hk : k < qn) : (X'.getD k pt0).vn = (Y'.getD k []).length := (h.ps k hk).1.symm
variable {a b c d e : Int} {po : Option Addr} {pn pc : Nat} {X : List Pt} {Y : List (List Int)}
theorem MA.ckP (h : MA w a b c d e po pn pc X Y) (hck : ckE ⟨a, b, c, d, e, po, pn, pc⟩ X = 0) : ckP (pmOf a b c d e pn X Y) = 0 := by
  have e1 : ckE ⟨a, b, c, d, e, po, pn, pc⟩ X = Go.Proofs.Ytcpaaegbjcbnaaa.ckP (pmOf a b c d e pn X Y) := by
    have hb := in_bounds hck
    have hr : rise (-1) X = rise (-1) ((ptsOf X Y pn).map fun q => ⟨(q.1 : Int), none, 0, 0⟩) := rise_map _ _ _ (carts_of h.s.len (fun k hk => by have := rise_at X (-1) k hb.2.2.2.2.2.2.2.2.2 (by rw [h.s.len]; exact hk); omega))
    unfold Go.Proofs.Ytcpaaegbjcbnaaa.ckP ckE inForm ofKind kindB pmOf
    simp only [ptsOf_len]
    rw [hr, show ((a.toNat : Nat) : Int) = a by omega, show ((b.toNat : Nat) : Int) = b by omega, show ((c.toNat : Nat) : Int) = c by omega, show ((d.toNat : Nat) : Int) = d by omega, show ((e.toNat : Nat) : Int) = e by omega]
  rw [← e1]
  exact hck
/-- there -/
def Thr (X : List Pt) (q : Int) (k : Nat) (t : Bool) : Prop := t = true ↔ ∃ j, j < k ∧ (X.getD j pt0).cart = q
theorem Thr.yes {X : List Pt} {q : Int} {k : Nat} (h : (X.getD k pt0).cart = q) : Thr X q (k + 1) true := ⟨fun _ => ⟨k, Nat.lt_succ_self k, h⟩, fun _ => rfl⟩
theorem Thr.no {X : List Pt} {q : Int} {k : Nat} {t : Bool} (ht : Thr X q k t) (h : (X.getD k pt0).cart ≠ q) : Thr X q (k + 1) t := by
  constructor
  · intro e
    obtain ⟨j, hj, hc⟩ := ht.1 e
    exact ⟨j, by omega, hc⟩
  · rintro ⟨j, hj, hc⟩
    by_cases e : j = k
    · subst e; exact absurd hc h
    · exact ht.2 ⟨j, by omega, hc⟩
set_option maxRecDepth 100000 in
set_option maxHeartbeats 8000000 in
theorem mailParts_any (a b c d e : Int) (po : Option Addr) (pn pc : Nat) (X : List Pt) (Y : List (List Int)) (q : Int) (w : World) (A : MA w a b c d e po pn pc X Y) :
    Calls Try.prog 8 #[MV ⟨a, b, c, d, e, po, pn, pc⟩, .int .i64 q] w fun r w' => r = .returned (.bool true) ∧ Below w.heap.size w w' := by
  obtain ⟨w1, hw1⟩ : ∃ w1, w.alloc (.cells (MC ⟨a, b, c, d, e, po, pn, pc⟩) 24) = w1 := ⟨_, rfl⟩
  obtain ⟨g2, hg2⟩ : ∃ g2, w.heap.size = g2 := ⟨_, rfl⟩
  have X2 := bx_new w ⟨a, b, c, d, e, po, pn, pc⟩ hw1 hg2
  have HB : Hid (Below w.heap.size w w1) := X2.bel
  have HM := hide X2.box
  have HA := hide (A.below X2.bel)
  have HC := hide (some_any w1)
  clear X2 A
  go_enter Try.func8, Try.ntmps8
  go_wp2_with fail
  refine HC.out.mono ?_
  rintro r w2 ⟨qs, vs, rfl, P2, S2, b2⟩
  have hPS : PS w2 1 [⟨4, some ⟨vs, 0, none⟩, 2, 2⟩] [[255, 0]] := fun k hk => by obtain rfl : k = 0 := (by omega); exact S2
  have HBd := hide (body_any 1 0 1 2 3 (some ⟨qs, 0, none⟩) 1 1 _ [[255, 0]] 4 w2 P2 hPS (fun k hk => by obtain rfl : k = 0 := (by omega); show (2 : Nat) ≤ 140737488355328; omega))
  have HB2 := hide b2
  clear hPS P2 S2 b2 HC
  go_wp2_with fail
  refine HBd.out.mono ?_
  rintro r w3 ⟨h3, b3⟩
  obtain ⟨bo3, cc3, rfl, -⟩ := h3.at rfl rfl 0 Nat.zero_lt_one rfl
  have HB3 := hide (HB2.out.trans (b3.mono HB2.out.size))
  have hl3 := run_ldM (HM.out.below HB3.out)
  have HK := rcheck_any a b c d e po pn pc X w3 (HA.out.below HB3.out).s
  clear h3 b3 HBd HB2
  rcases (show ckE ⟨a, b, c, d, e, po, pn, pc⟩ X = 0 ∨ ckE ⟨a, b, c, d, e, po, pn, pc⟩ X = 1 by unfold ckE; split <;> simp) with hc | hc
  case inr =>
    rw [hc] at HK
    have HK := hide HK
    clear hc
    go_wp2_with fail
    refine HK.out.mono ?_
    rintro r w4 ⟨rfl, b4⟩
    have HE := hide (HB.out.trans ((HB3.out.trans (b4.mono HB3.out.size)).mono HB.out.size))
    clear b4 HK hl3
    go_wp2_with fail
    go_ret
    exact ⟨rfl, by first | exact HE.out | (have := HE.out; rw [hg2] at this; exact this)⟩
  rw [hc] at HK
  have HK := hide HK
  have HCa := hide hc
  clear hc
  go_wp2_with fail
  refine HK.out.mono ?_
  rintro r w4 ⟨rfl, b4⟩
  have HB4 := hide (HB3.out.trans (b4.mono HB3.out.size))
  have hl4 := run_ldM (HM.out.below HB4.out)
  have HP := hide ((HA.out.below HB4.out).put HCa.out)
  clear b4 HK hl3 HB3
  go_wp2_with fail
  refine HP.out.mono ?_
  rintro r w5 ⟨bo, n, bc, rfl, B5, N5⟩
  have HB5 := hide (HB4.out.trans (N5.1.mono HB4.out.size))
  have hlen := HA.out.len HCa.out
  have hzl := B5.len
  have HG := hide (get_any bo n bc _ w5 (B5.srcO HA.out.oc) B5.cap (by omega))
  have HOk := hide (HA.out.okN HCa.out).1
  clear hlen hzl B5 N5 HP hl4 HB4
  go_wp2_with fail
  refine HG.out.mono ?_
  rintro r w6 ⟨b6, h6⟩
  have hpm : pMail (mailB (pmOf a b c d e pn X Y)) = some (pmOf a b c d e pn X Y, []) := by have := pMail_to _ [] HOk.out; rwa [List.append_nil] at this
  obtain ⟨⟨a1, a2, a3, a4, a5, qo, qn, qc⟩, X', Y', rfl, hM⟩ : ∃ a0 X0 Y0, r = .returned (.tuple #[MV a0, .int .i64 0]) ∧ MlIs w5.heap.size w6 (pmOf a b c d e pn X Y) a0 X0 Y0 := by
    rcases h6 with ⟨p', a0, X0, Y0, hp', _, hr, hM⟩ | ⟨h, _⟩
    · rw [hpm] at hp'
      simp only [Option.some.injEq, Prod.mk.injEq, and_true] at hp'
      exact ⟨a0, X0, Y0, hr, by rw [hp']; exact hM⟩
    · exact absurd (HA.out.ckP HCa.out) (h _ hpm)
  have hB6 := HB5.out.trans (b6.mono HB5.out.size)
  obtain ⟨e1, e2, e3, e4, e5, e6, hSm⟩ := hM.sm (HA.out.below hB6) HCa.out
  subst e1 e2 e3 e4 e5 e6
  have hck' := hM.ck
  rw [HA.out.ckP HCa.out] at hck'
  have HRs : Hid (rise (-1) X' = true) := (in_bounds hck').2.2.2.2.2.2.2.2.2
  obtain ⟨g6, hg6⟩ : ∃ g6, w6.heap.size = g6 := ⟨_, rfl⟩
  obtain ⟨w7, hst, M7, b7, -⟩ := madeM w6 ⟨a1, a2, a3, a4, a5, qo, qn, qc⟩ g6 hg6
  have hl7 := run_ldM M7
  have HM7 := hide M7
  have HB7 := hide (hB6.trans (b7.mono hB6.size))
  have HSm := hide (hSm.below b7)
  have HVn : Hid (∀ k, k < qn → (X'.getD k pt0).vn ≤ 140737488355328) := fun k hk => by
    have h1 := (hSm.p k hk).1
    have h2 := HA.out.lens k hk
    omega
  have HN64 : Hid (qn ≤ 64) := (HA.out.okN HCa.out).2
  have HCt := hide (carts_any a1 a2 a3 a4 a5 qo qn qc X' w7 HSm.out.s)
  clear h6 hpm hM hB6 hSm hck' M7 b7 b6 HG HB5
  go_wp2_with fail
  refine HCt.out.mono ?_
  rintro r w8 ⟨lo, lc, rfl, L8, b8⟩
  have HB8 := hide b8
  have HL8 := hide L8
  have x5 := (HM.out.below (HB7.out.trans (b8.mono HB7.out.size))).c5
  simp only at x5
  clear b8 L8 hl7 HCt
  go_wp2_with fail
  clear x5
  go_loopw [12, 57] (fun v i wr => ∃ (k : Nat) (t : Bool), k ≤ qn ∧ v = .bool t ∧ i = .int .i64 k ∧ Hid (Thr X q k t ∧ Below w8.heap.size w8 wr)) (fun _ i _ => qn - (intOf i).toNat)
  case atStart => exact ⟨0, false, Nat.zero_le _, rfl, rfl, ⟨fun h => (by cases h), fun ⟨j, hj, _⟩ => absurd hj (Nat.not_lt_zero j)⟩, Below.refl _ _⟩
  case round =>
    obtain ⟨k, t, hk, rfl, rfl, HW⟩ := hrel
    have HBw : Hid (Below w7.heap.size w7 wr) := HB8.out.trans (HW.out.2.mono HB8.out.size)
    have hl9 := run_ldM (HM7.out.below HBw.out)
    by_cases hlt : k < qn
    · have HLT := hide hlt
      have HK1 : Hid (wrap64 ((k : Int) + 1) = ((k + 1 : Nat) : Int)) := by show _ = _; have := HN64.out; rw [w64 (by omega) (by omega)]; rfl
      obtain ⟨bb, oo, ep, A0⟩ := (HSm.out.below HBw.out).t.at k hlt
      obtain ⟨⟨ct, vo, vn, vc⟩, hp⟩ : ∃ p, X.getD k pt0 = p := ⟨_, rfl⟩
      have hcc := HSm.out.c k hlt
      have hY0 := (HSm.out.below HBw.out).q k hlt
      rw [hp] at A0 hcc hY0
      simp only at hcc hY0
      have HXc : Hid ((X.getD k pt0).cart = ct) := by show _ = _; rw [hp]
      subst ep
      have hld := run_ldP A0
      obtain ⟨gx, hgx⟩ : ∃ gx, wr.heap.size = gx := ⟨_, rfl⟩
      obtain ⟨wk, hst0, P1, B1', Z1⟩ := madeP wr ⟨ct, vo, vn, vc⟩ gx hgx
      have hst : (stP (.pointer (some ⟨gx, 0, none⟩)) (.agg (PC ⟨ct, vo, vn, vc⟩))).run Try.prog (wr.alloc (.cells #[.int .i64 0, .slice none 0 0] 46)) = .ok () wk := hst0
      have hlk := run_ldM (HM7.out.below (HBw.out.trans (B1'.mono HBw.out.size)))
      have y0 := P1.at.c0
      simp only at y0
      have HPB := hide P1
      have HBk : Hid (Below w8.heap.size w8 wk) := HW.out.2.trans (B1'.mono HW.out.2.size)
      have hB7k := HBw.out.trans (B1'.mono HBw.out.size)
      have HBd := hide (body_any a1 a2 a3 a4 a5 qo qn qc X' Y ct wk (HSm.out.below hB7k).s (HSm.out.below hB7k).p HVn.out)
      have HSY := hide (hY0.below B1')
      have HCc := hide hcc
      clear A0 hp hcc hY0 hst0 P1 B1' Z1 hB7k hl9
      go_wp2_with fail
      refine HBd.out.mono ?_
      rintro r wm ⟨hm, bm⟩
      obtain ⟨bo9, cc9, rfl, S9⟩ := hm.at HSm.out.s.len HRs.out k HLT.out HCc.out
      have HB8' := HB8
      have HBm : Hid (Below w8.heap.size w8 wm) := HBk.out.trans (bm.mono HBk.out.size)
      obtain ⟨adl, rfl, cl⟩ := HL8.out.at k HLT.out
      have HBq := hide bm
      have hcl : (cartsL X').getD k 0 = ct := by
        have : (cartsL X').getD k 0 = (X'.getD k pt0).cart := by simp [cartsL, List.getD, show k < X'.length by rw [HSm.out.s.len]; exact HLT.out]
        rw [this]; exact HCc.out
      rw [hcl] at cl
      have HSW : Hid (∀ wq : World, Below wk.heap.size wk wq → wq.cell? (adl.add k) = some (.int .i64 ct) ∧ wq.cell? ⟨gx, 0, none⟩ = some (.int .i64 ct) ∧ wq.cell? ⟨gx, 1, none⟩ = some (.slice vo vn vc)) := fun wq hq => by
        have a1 := (HPB.out.at.on hq).c1
        rw [Addr.add_lit] at a1
        exact ⟨((HBk.out.trans (hq.mono HBk.out.size)).cell (World.block_lt_of_cell? _ _ cl)).trans cl, (HPB.out.at.on hq).c0, a1⟩
      obtain ⟨v9, hv9⟩ : ∃ v9, (X'.getD k pt0).vn = v9 := ⟨_, rfl⟩
      have hv92 := HVn.out k HLT.out
      rw [hv9] at S9 hv92
      have hE := eqB_any bo9 vo v9 cc9 vn vc (Y.getD k []) (Y.getD k []) wm.drew (S9.below (below_drew1 wm)) ((HSY.out.below bm).below (below_drew1 wm)) (by omega)
      rw [decide_eq_true rfl] at hE
      have HE := hide hE
      rw [hv9]
      clear hm bm S9 cl hcl hE HBd hlk y0 hv9 hv92 HBm HB8'
      go_wp2_with fail
      refine wp_region_held_drew (S := fun wq => wq.cell? (adl.add k) = some (.int .i64 ct) ∧ wq.cell? ⟨gx, 0, none⟩ = some (.int .i64 ct) ∧ wq.cell? ⟨gx, 1, none⟩ = some (.slice vo vn vc)) (by kernel_rfl) (HSW.out _ (HBq.out.trans ((below_drew1 _).mono HBq.out.size))) (fun hHeld => ?_)
      refine wpAnyH_take (i := 0) (oi := { dst := some 69, op := Op.move (Operand.tmp 11), type := 43, pos := "outright.go:109", after := #[], guard := none }) (v := ?_) rfl (by kernel_rfl) (by kernel_rfl) (by kernel_rfl) (fun _ _ _ h => h) (Or.inl ⟨by rfl, ?_⟩) (by assumption) ?_
      rotate_left
      · (intro w hSw; (try dsimp only at hSw); go_simp); first | done | with_reducible rfl
      simp only [Act.put, List.setIfInBounds_toArray, List.set_cons_zero, List.set_cons_succ]
      refine wpAnyH_take (i := 1) (oi := { dst := some 70, op := Op.move (Operand.tmp 13), type := 3, pos := "outright.go:109", after := #[], guard := none }) (v := ?_) rfl (by kernel_rfl) (by kernel_rfl) (by kernel_rfl) (fun _ _ _ h => h) (Or.inl ⟨by rfl, ?_⟩) (by assumption) ?_
      rotate_left
      · (intro w hSw; (try dsimp only at hSw); go_simp); first | done | with_reducible rfl
      simp only [Act.put, List.setIfInBounds_toArray, List.set_cons_zero, List.set_cons_succ]
      refine wpAnyH_take (i := 2) (oi := { dst := some 71, op := Op.indexAddr 43 (Operand.tmp 69) (Operand.tmp 70), type := 0, pos := "outright.go:109", after := #[{ on := 0, ground := Ground.data }, { on := 1, ground := Ground.data }], guard := none }) (v := ?_) rfl (by kernel_rfl) (by kernel_rfl) (by kernel_rfl) (fun _ _ _ h => h) (Or.inl ⟨by rfl, ?_⟩) (by assumption) ?_
      rotate_left
      · (intro w hSw; (try dsimp only at hSw); go_simp); first | done | with_reducible rfl
      simp only [Act.put, List.setIfInBounds_toArray, List.set_cons_zero, List.set_cons_succ]
      refine wpAnyH_take (i := 3) (oi := { dst := some 72, op := Op.load 3 (Operand.tmp 71), type := 3, pos := "outright.go:109", after := #[{ on := 2, ground := Ground.data }], guard := none }) (v := ?_) rfl (by kernel_rfl) (by kernel_rfl) (by kernel_rfl) (fun _ _ _ h => h) (Or.inl ⟨by rfl, ?_⟩) (by assumption) ?_
      rotate_left
      · (intro w hSw; (try dsimp only at hSw); go_simp); first | done | with_reducible rfl
      simp only [Act.put, List.setIfInBounds_toArray, List.set_cons_zero, List.set_cons_succ]
      refine wpAnyH_take (i := 4) (oi := { dst := some 73, op := Op.fieldAddr 46 (Operand.tmp 14) 0, type := 0, pos := "outright.go:109", after := #[], guard := none }) (v := ?_) rfl (by kernel_rfl) (by kernel_rfl) (by kernel_rfl) (fun _ _ _ h => h) (Or.inl ⟨by rfl, ?_⟩) (by assumption) ?_
      rotate_left
      · (intro w hSw; (try dsimp only at hSw); go_simp); first | done | with_reducible rfl
      simp only [Act.put, List.setIfInBounds_toArray, List.set_cons_zero, List.set_cons_succ]
      refine wpAnyH_take (i := 5) (oi := { dst := some 74, op := Op.load 3 (Operand.tmp 73), type := 3, pos := "outright.go:109", after := #[{ on := 4, ground := Ground.data }], guard := none }) (v := ?_) rfl (by kernel_rfl) (by kernel_rfl) (by kernel_rfl) (fun _ _ _ h => h) (Or.inl ⟨by rfl, ?_⟩) (by assumption) ?_
      rotate_left
      · (intro w hSw; (try dsimp only at hSw); go_simp); first | done | with_reducible rfl
      simp only [Act.put, List.setIfInBounds_toArray, List.set_cons_zero, List.set_cons_succ]
      refine wpAnyH_take (i := 6) (oi := { dst := some 75, op := Op.binOp BinOp.neq 3 (Operand.tmp 72) (Operand.tmp 74) 3, type := 4, pos := "outright.go:109", after := #[{ on := 3, ground := Ground.data }, { on := 5, ground := Ground.data }], guard := none }) (v := ?_) rfl (by kernel_rfl) (by kernel_rfl) (by kernel_rfl) (fun _ _ _ h => h) (Or.inl ⟨by rfl, ?_⟩) (by assumption) ?_
      rotate_left
      · (intro w hSw; (try dsimp only at hSw); go_simp); first | done | with_reducible rfl
      simp only [Act.put, List.setIfInBounds_toArray, List.set_cons_zero, List.set_cons_succ]
      refine wpAnyH_take (i := 7) (oi := { dst := some 76, op := Op.move (Operand.tmp 75), type := 4, pos := "outright.go:109", after := #[{ on := 6, ground := Ground.data }], guard := none }) (v := ?_) rfl (by kernel_rfl) (by kernel_rfl) (by kernel_rfl) (fun _ _ _ h => h) (Or.inl ⟨by rfl, ?_⟩) (by assumption) ?_
      rotate_left
      · (intro w hSw; (try dsimp only at hSw); go_simp); first | done | with_reducible rfl
      simp only [Act.put, List.setIfInBounds_toArray, List.set_cons_zero, List.set_cons_succ]
      refine wpAnyH_take (i := 8) (oi := { dst := some 77, op := Op.move (Operand.tmp 6), type := 4, pos := "outright.go:109", after := #[{ on := 7, ground := Ground.guard }], guard := some (7, false) }) (v := ?_) rfl (by kernel_rfl) (by kernel_rfl) (by kernel_rfl) (fun _ _ _ h => h) (Or.inl ⟨by rfl, ?_⟩) (by assumption) ?_
      rotate_left
      · (intro w hSw; (try dsimp only at hSw); go_simp); first | done | with_reducible rfl
      simp only [Act.put, List.setIfInBounds_toArray, List.set_cons_zero, List.set_cons_succ]
      refine wpAnyH_take (i := 9) (oi := { dst := some 78, op := Op.unOp UnOp.not 4 (Operand.tmp 77), type := 4, pos := "outright.go:109", after := #[{ on := 8, ground := Ground.data }, { on := 7, ground := Ground.guard }], guard := some (7, false) }) (v := ?_) rfl (by kernel_rfl) (by kernel_rfl) (by kernel_rfl) (fun _ _ _ h => h) (Or.inl ⟨by rfl, ?_⟩) (by assumption) ?_
      rotate_left
      · (intro w hSw; (try dsimp only at hSw); go_simp); first | done | with_reducible rfl
      simp only [Act.put, List.setIfInBounds_toArray, List.set_cons_zero, List.set_cons_succ]
      refine wpAnyH_take (i := 10) (oi := { dst := some 79, op := Op.pick (Operand.tmp 76) (Operand.const (Value.bool true)) (Operand.tmp 78), type := 4, pos := "outright.go:109", after := #[{ on := 7, ground := Ground.data }, { on := 9, ground := Ground.data }], guard := none }) (v := ?_) rfl (by kernel_rfl) (by kernel_rfl) (by kernel_rfl) (fun _ _ _ h => h) (Or.inl ⟨by rfl, ?_⟩) (by assumption) ?_
      rotate_left
      · (intro w hSw; (try dsimp only at hSw); go_simp); first | done | with_reducible rfl
      simp only [Act.put, List.setIfInBounds_toArray, List.set_cons_zero, List.set_cons_succ]
      refine wpAnyH_take (i := 11) (oi := { dst := some 80, op := Op.move (Operand.tmp 79), type := 4, pos := "outright.go:109", after := #[{ on := 10, ground := Ground.data }, { on := 7, ground := Ground.chain }], guard := none }) (v := ?_) rfl (by kernel_rfl) (by kernel_rfl) (by kernel_rfl) (fun _ _ _ h => h) (Or.inl ⟨by rfl, ?_⟩) (by assumption) ?_
      rotate_left
      · (intro w hSw; (try dsimp only at hSw); go_simp); first | done | with_reducible rfl
      simp only [Act.put, List.setIfInBounds_toArray, List.set_cons_zero, List.set_cons_succ]
      refine wpAnyH_take (i := 12) (oi := { dst := some 81, op := Op.move (Operand.tmp 5), type := 26, pos := "outright.go:109", after := #[{ on := 11, ground := Ground.guard }], guard := some (11, false) }) (v := ?_) rfl (by kernel_rfl) (by kernel_rfl) (by kernel_rfl) (fun _ _ _ h => h) (Or.inl ⟨by rfl, ?_⟩) (by assumption) ?_
      rotate_left
      · (intro w hSw; (try dsimp only at hSw); go_simp); first | done | with_reducible rfl
      simp only [Act.put, List.setIfInBounds_toArray, List.set_cons_zero, List.set_cons_succ]
      refine wpAnyH_take (i := 13) (oi := { dst := some 82, op := Op.fieldAddr 46 (Operand.tmp 14) 1, type := 0, pos := "outright.go:109", after := #[{ on := 11, ground := Ground.guard }], guard := some (11, false) }) (v := ?_) rfl (by kernel_rfl) (by kernel_rfl) (by kernel_rfl) (fun _ _ _ h => h) (Or.inl ⟨by rfl, ?_⟩) (by assumption) ?_
      rotate_left
      · (intro w hSw; (try dsimp only at hSw); go_simp); first | done | with_reducible rfl
      simp only [Act.put, List.setIfInBounds_toArray, List.set_cons_zero, List.set_cons_succ]
      refine wpAnyH_take (i := 14) (oi := { dst := some 83, op := Op.load 26 (Operand.tmp 82), type := 26, pos := "outright.go:109", after := #[{ on := 13, ground := Ground.data }, { on := 11, ground := Ground.guard }], guard := some (11, false) }) (v := ?_) rfl (by kernel_rfl) (by kernel_rfl) (by kernel_rfl) (fun _ _ _ h => h) (Or.inl ⟨by rfl, ?_⟩) (by assumption) ?_
      rotate_left
      · (intro w hSw; (try dsimp only at hSw); go_simp); first | done | with_reducible rfl
      simp only [Act.put, List.setIfInBounds_toArray, List.set_cons_zero, List.set_cons_succ]
      refine wpAnyH_ready (rs := [15]) (by kernel_rfl) (by simp) ?_
      refine AllReadyH.cons rfl (fun K hK => ?_) ?_
      rotate_left
      · exact AllReadyH.nil
      go_simp
      go_wp2_with fail
      refine HE.out.mono ?_
      rintro r w9 ⟨rfl, b9⟩
      have HB9 := hide (HBq.out.trans (((below_drew1 _).trans b9).mono HBq.out.size))
      clear b9
      refine hK.out _ _ (HSW.out _ HB9.out) (fun hHeld => ?_)
      clear hK K
      refine wpAnyH_take (i := 16) (oi := { dst := some 85, op := Op.unOp UnOp.not 4 (Operand.tmp 84), type := 4, pos := "outright.go:109", after := #[{ on := 15, ground := Ground.data }, { on := 11, ground := Ground.guard }], guard := some (11, false) }) (v := ?_) rfl (by kernel_rfl) (by kernel_rfl) (by kernel_rfl) (fun _ _ _ h => h) (Or.inl ⟨by rfl, ?_⟩) (by assumption) ?_
      rotate_left
      · (intro w hSw; (try dsimp only at hSw); go_simp); first | done | with_reducible rfl
      simp only [Act.put, List.setIfInBounds_toArray, List.set_cons_zero, List.set_cons_succ]
      refine wpAnyH_take (i := 17) (oi := { dst := some 86, op := Op.pick (Operand.tmp 80) (Operand.const (Value.bool true)) (Operand.tmp 85), type := 4, pos := "outright.go:109", after := #[{ on := 11, ground := Ground.data }, { on := 16, ground := Ground.data }], guard := none }) (v := ?_) rfl (by kernel_rfl) (by kernel_rfl) (by kernel_rfl) (fun _ _ _ h => h) (Or.inl ⟨by rfl, ?_⟩) (by assumption) ?_
      rotate_left
      · (intro w hSw; (try dsimp only at hSw); go_simp); first | done | with_reducible rfl
      simp only [Act.put, List.setIfInBounds_toArray, List.set_cons_zero, List.set_cons_succ]
      refine wpAnyH_done (by kernel_rfl) ?_ _
      clear hHeld
      have y9 := (HSW.out _ HB9.out).2.1
      have HBz : Hid (Below w8.heap.size w8 w9) := HBk.out.trans (HB9.out.mono HBk.out.size)
      clear HE
      by_cases hq : ct = q
      · have HTh := hide (Thr.yes (X := X) (k := k) (HXc.out.trans hq))
        subst hq
        go_wp2_with fail
        go_roundw
        case rel => exact ⟨k + 1, true, HLT.out, rfl, by first | rw [HK1.out] | simp, HTh.out, HBz.out⟩
        case measure => (try rw [HK1.out]); have := HLT.out; simp [intOf]; omega
      · have HTh := hide (HW.out.1.no (by rw [HXc.out]; exact hq))
        have hqf : (ct == q) = false := by simpa using hq
        clear hq
        go_wp2_with fail
        go_roundw
        case rel => exact ⟨k + 1, t, HLT.out, rfl, by first | rw [HK1.out] | simp, HTh.out, HBz.out⟩
        case measure => (try rw [HK1.out]); have := HLT.out; simp [intOf]; omega
    · obtain rfl : k = qn := by omega
      have HBd := hide (body_any a1 a2 a3 a4 a5 qo k qc X' Y q wr (HSm.out.below HBw.out).s (HSm.out.below HBw.out).p HVn.out)
      go_wp2_with fail
      refine HBd.out.mono ?_
      rintro r wm ⟨hm, bm⟩
      have HE := hide (HB.out.trans ((HB7.out.trans ((HBw.out.trans (bm.mono HBw.out.size)).mono HB7.out.size)).mono HB.out.size))
      rcases hm with ⟨j, bj, cj, hj, hc, -, rfl, -⟩ | ⟨hf, rfl⟩
      · obtain rfl : t = true := HW.out.1.2 ⟨j, hj, (HSm.out.c j hj).symm.trans hc⟩
        clear hc hj bm HBd hl9
        go_wp2_with fail
        go_ret
        exact ⟨rfl, by first | exact HE.out | (have := HE.out; rw [hg2] at this; exact this)⟩
      · obtain rfl : t = false := by
          cases t with
          | false => rfl
          | true =>
            obtain ⟨j, hj, hc⟩ := HW.out.1.1 rfl
            exact absurd ((HSm.out.c j hj).trans hc) (hf j hj)
        clear hf bm HBd hl9
        go_wp2_with fail
        go_ret
        exact ⟨rfl, by first | exact HE.out | (have := HE.out; rw [hg2] at this; exact this)⟩
end Go.Proofs.Ytcpaaegbjcbnaaa
