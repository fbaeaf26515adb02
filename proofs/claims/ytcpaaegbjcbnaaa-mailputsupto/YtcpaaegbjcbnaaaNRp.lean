/- The reference's num and Put. -/
import Derived.Test.YtcpaaegbjcbnaaaNFm
namespace Go.Proofs.Ytcpaaegbjcbnaaa
open Go.RowKit
attribute [local go_sem ↓] ldP_eq stP_eq ldM_eq stM_eq mkP_eq
attribute [local go_sem] to_MC MC_s0 MC_s1 MC_s2 MC_s3 MC_s4 MC_s5
variable {w w' w2 : World} {g : Nat}

theorem Ap.of_below {ao : Option Addr} (h : Below w.heap.size w w') : Ap w w' ao ao := ⟨⟨h.os, h.tape, h.output, h.size, fun k hk _ => h.block k hk⟩, Or.inl rfl⟩
/-- a row that grows, beside one that is read -/
structure NI2 (w wr : World) (ao bo xo : Option Addr) (n c m xc : Nat) (Z Y : List Int) : Prop where
  b : BR wr bo n c Z
  ap : Ap w wr ao bo
  x : BR wr xo m xc Y
  ne : ∀ q, blk xo = some q → blk bo ≠ some q
theorem NI2.app {wr w5 : World} {ao bo xo b5 : Option Addr} {n c m xc c5 : Nat} {Z Z5 Y : List Int} (h : NI2 w wr ao bo xo n c m xc Z Y) (S : BR w5 b5 (n + 1) c5 Z5) (A : Ap wr w5 bo b5) : NI2 w w5 ao b5 xo (n + 1) c5 m xc Z5 Y := by
  refine ⟨S, h.ap.trans A, h.x.keep (fun k e => A.grown.block k (h.x.lt k e) (fun x => h.ne k e x.symm)), fun q e x => ?_⟩
  rcases A.lies with hl | ⟨j, hl, hj⟩
  · rw [hl] at x; exact h.ne q e x
  · rw [hl] at x
    have : j = q := Option.some.inj x
    have := h.x.lt q e
    omega
theorem take_snoc (L : List Int) (k : Nat) (h : k < L.length) : L.take (k + 1) = L.take k ++ [L.getD k 0] := by
  rw [List.take_add_one, List.getD_eq_getElem?_getD, List.getElem?_eq_getElem h]; rfl
set_option maxRecDepth 100000 in
theorem rnum_any (ao : Option Addr) (n cp : Nat) (Z : List Int) (x : Nat) (w : World) (B : BR w ao n cp Z) (hx : x ≤ 9223372036854775807) (hn : n ≤ 140737488355000) : Calls Try.prog 22 #[.slice ao n cp, .int .i64 (x : Int)] w fun r w' =>
    ∃ bo cc, r = .returned (.slice bo (n + (numB x).length) cc) ∧ BR w' bo (n + (numB x).length) cc (Z ++ numB x) ∧ Ap w w' ao bo := by
  have HC := hide (refNum_any x w hx)
  have HB := hide B
  have HL : Hid (n + (numB x).length ≤ 140737488355100 ∧ (numB x).length ≤ 9) := ⟨by have := numB_nine hx; omega, numB_nine hx⟩
  clear B hx hn
  go_enter Try.func22, Try.ntmps22
  go_wp2_with fail
  refine HC.out.mono ?_
  rintro r w1 ⟨xo, xc, rfl, X1, A1⟩
  obtain ⟨m, hm⟩ : ∃ m, (numB x).length = m := ⟨_, rfl⟩
  have HI : Hid (NI2 w w1 ao ao xo n cp m xc Z (numB x)) := by
    have N := NewB.of_ap A1
    rw [hm] at X1
    exact ⟨HB.out.below N.1, Ap.of_below N.1, X1, fun q e x => by have := N.2 q e; have := HB.out.lt q x; omega⟩
  have HMm := hide hm
  rw [hm] at HL
  rw [hm]
  clear X1 A1 HC hm
  go_wp2_with fail
  go_loopw [0, 6] (fun b i wr => ∃ (k : Nat) (bo : Option Addr) (cc : Nat), k ≤ m ∧ b = .slice bo (n + k) cc ∧ i = .int .i64 k ∧ Hid (NI2 w wr ao bo xo (n + k) cc m xc (Z ++ (numB x).take k) (numB x))) (fun _ i _ => m - (intOf i).toNat)
  case atStart => exact ⟨0, ao, cp, Nat.zero_le _, rfl, rfl, by show NI2 _ _ _ _ _ _ _ _ _ (Z ++ []) _; rw [List.append_nil]; exact HI.out⟩
  case round =>
    clear HI
    obtain ⟨k, bo, cc, hk, rfl, rfl, HI⟩ := hrel
    by_cases hlt : k < m
    · have HLT := hide hlt
      have HK1 : Hid (wrap64 ((k : Int) + 1) = ((k + 1 : Nat) : Int)) := by show _ = _; have := HL.out; rw [w64 (by omega) (by omega)]; rfl
      obtain ⟨ad, rfl, c1⟩ := cell_at (HI.out.x.srcO (numB_oct x)) k hlt
      have HS := take_snoc (numB x) k (by rw [HMm.out]; exact hlt)
      obtain ⟨z, hz⟩ : ∃ z, (numB x).getD k 0 = z := ⟨_, rfl⟩
      rw [hz] at c1 HS
      have HS := hide HS
      clear hz
      go_wp2_with (at_builtin; refine HI.out.b.app1 z (by have := HL.out; have := HLT.out; omega) rfl (.tmp 15) (.tmp 20) rfl rfl rfl ?_; intro b5 c5 w5 S5 A5; have HI5 := hide (HI.out.app S5 A5); clear S5 A5)
      go_roundw
      case rel => exact ⟨k + 1, b5, c5, HLT.out, rfl, by first | rw [HK1.out] | simp, by show NI2 _ _ _ _ _ _ _ _ _ _ _; rw [HS.out, ← List.append_assoc]; exact HI5.out⟩
      case measure => (try rw [HK1.out]); have := HLT.out; simp [intOf]; omega
    · obtain rfl : k = m := by omega
      have HE : Hid (BR wr bo (n + k) cc (Z ++ numB x) ∧ Ap w wr ao bo) := by
        have h1 := HI.out.b
        rw [List.take_of_length_le (by rw [HMm.out]; exact Nat.le_refl _)] at h1
        exact ⟨h1, HI.out.ap⟩
      go_wp2_with fail
      go_ret
      exact ⟨bo, cc, by rw [HMm.out]; rfl, by rw [HMm.out]; exact HE.out.1, HE.out.2⟩
set_option maxRecDepth 100000 in
theorem rput_bad (a b c d e : Int) (po : Option Addr) (pn pc : Nat) (X : List Pt) (w : World) (S : PSrc w po pn pc X) (hck : ckE ⟨a, b, c, d, e, po, pn, pc⟩ X = 1) : Calls Try.prog 10 #[MV ⟨a, b, c, d, e, po, pn, pc⟩] w fun r w' => r = .returned (.tuple #[.slice none 0 0, .int .i64 1]) ∧ Below w.heap.size w w' := by
  obtain ⟨w1, hw1⟩ : ∃ w1, w.alloc (.cells (MC ⟨a, b, c, d, e, po, pn, pc⟩) 24) = w1 := ⟨_, rfl⟩
  obtain ⟨g, hg⟩ : ∃ g, w.heap.size = g := ⟨_, rfl⟩
  have HX := hide (bx_new w ⟨a, b, c, d, e, po, pn, pc⟩ hw1 hg)
  have hl := run_ldM HX.out.box
  have hC := rcheck_any a b c d e po pn pc X w1 (S.below HX.out.bel)
  rw [hck] at hC
  have HC := hide hC
  have HB : Hid (Below w.heap.size w w1) := HX.out.bel
  clear S hck hC
  go_enter Try.func10, Try.ntmps10
  go_wp2_with fail
  refine HC.out.mono ?_
  rintro r w3 ⟨rfl, b3⟩
  have HB3 := hide (HB.out.trans (b3.mono HB.out.size))
  clear b3 hl HC
  go_wp2_with fail
  go_ret2
  exact ⟨rfl, HB3.out⟩
set_option maxRecDepth 100000 in
set_option maxHeartbeats 8000000 in
theorem rput_ok (a b c d e : Int) (po : Option Addr) (pn pc : Nat) (X : List Pt) (Y : List (List Int)) (w : World) (A : MA w a b c d e po pn pc X Y) (hck : ckE ⟨a, b, c, d, e, po, pn, pc⟩ X = 0) : Calls Try.prog 10 #[MV ⟨a, b, c, d, e, po, pn, pc⟩] w fun r w' => PuA w w' (pmOf a b c d e pn X Y) r := by
  have hb := in_bounds hck
  have h64 := (A.okN hck).2
  have hlen := A.len hck
  obtain ⟨w1, hw1⟩ : ∃ w1, w.alloc (.cells (MC ⟨a, b, c, d, e, po, pn, pc⟩) 24) = w1 := ⟨_, rfl⟩
  obtain ⟨g, hg⟩ : ∃ g, w.heap.size = g := ⟨_, rfl⟩
  have HX := hide (bx_new w ⟨a, b, c, d, e, po, pn, pc⟩ hw1 hg)
  have hl := run_ldM HX.out.box
  have hC := rcheck_any a b c d e po pn pc X w1 (A.s.below HX.out.bel)
  rw [hck] at hC
  have HC := hide hC
  have HA := hide A
  have HB : Hid (Below w.heap.size w w1) := HX.out.bel
  have HF : Hid (0 ≤ a ∧ a ≤ 6 ∧ 0 ≤ b ∧ b ≤ 15 ∧ 0 ≤ c ∧ c ≤ 15 ∧ 0 ≤ d ∧ d ≤ e ∧ e ≤ 4611686018427387904 ∧ pn ≤ 64) := ⟨hb.1, hb.2.1, hb.2.2.1, hb.2.2.2.1, hb.2.2.2.2.1, hb.2.2.2.2.2.1, hb.2.2.2.2.2.2.1, hb.2.2.2.2.2.2.2.1, hb.2.2.2.2.2.2.2.2.1, h64⟩
  have HRi : Hid (∀ k, k < pn → 0 ≤ (X.getD k pt0).cart ∧ (X.getD k pt0).cart < 64) := fun k hk => by have := rise_at X (-1) k hb.2.2.2.2.2.2.2.2.2 (by rw [A.s.len]; exact hk); omega
  have HT : Hid ((∀ k, k < 6 → (hB [a.toNat, b.toNat, c.toNat, d.toNat, e.toNat, pn] k).length ≤ 70000000) ∧ ∀ k, k ≤ pn → (hB [a.toNat, b.toNat, c.toNat, d.toNat, e.toNat, pn] 6).length + (partsB (ptsOf X Y k)).length ≤ 70000000) := by
    rw [mailB_eq, List.length_append] at hlen
    refine ⟨fun k hk => ?_, fun k hk => ?_⟩
    · have := hB_le [a.toNat, b.toNat, c.toNat, d.toNat, e.toNat, pn] k (by omega)
      omega
    · have := partsB_le X Y pn k hk
      omega
  clear A hck hC hb h64 hlen
  go_enter Try.func10, Try.ntmps10
  go_wp2_with fail
  refine HC.out.mono ?_
  rintro r w3 ⟨rfl, b3⟩
  have HM := hide (HX.out.box.below b3)
  have HB3 := hide (HB.out.trans (b3.mono HB.out.size))
  have HI0 : Hid (BR w3 none 0 0 (hB [a.toNat, b.toNat, c.toNat, d.toNat, e.toNat, pn] 0) ∧ Ap w3 w3 none none) := ⟨BR.nil _, Ap.refl _ _⟩
  clear b3 hl HC HB
  have y := (HM.out.below (NewB.of_ap HI0.out.2).1).c0
  simp only at y
  have HC := hide (rnum_any none 0 0 _ a.toNat w3 HI0.out.1 (by have := HF.out; omega) (by have := HI0.out.1.len; have := HT.out.1 0 (by decide); omega))
  rw [show ((a.toNat : Nat) : Int) = a by have := HF.out; omega] at HC
  go_wp2_with fail
  refine HC.out.mono ?_
  rintro r wc1 ⟨bo1, cc1, rfl, B, Ax⟩
  obtain ⟨n1, hn⟩ : ∃ n1, 0 + (numB a.toNat).length = n1 := ⟨_, rfl⟩
  rw [hn] at B
  rw [hn]
  have HI1 : Hid (BR wc1 bo1 n1 cc1 (hB [a.toNat, b.toNat, c.toNat, d.toNat, e.toNat, pn] 1) ∧ Ap w3 wc1 none bo1) := ⟨by rw [hB_succ _ 0 (by simp)]; exact B, HI0.out.2.trans Ax⟩
  clear B Ax HC y hn HI0
  have y := (HM.out.below (NewB.of_ap HI1.out.2).1).c1
  simp only at y
  have HC := hide (rnum_any bo1 n1 cc1 _ b.toNat wc1 HI1.out.1 (by have := HF.out; omega) (by have := HI1.out.1.len; have := HT.out.1 1 (by decide); omega))
  rw [show ((b.toNat : Nat) : Int) = b by have := HF.out; omega] at HC
  go_wp2_with fail
  refine HC.out.mono ?_
  rintro r wc2 ⟨bo2, cc2, rfl, B, Ax⟩
  obtain ⟨n2, hn⟩ : ∃ n2, n1 + (numB b.toNat).length = n2 := ⟨_, rfl⟩
  rw [hn] at B
  rw [hn]
  have HI2 : Hid (BR wc2 bo2 n2 cc2 (hB [a.toNat, b.toNat, c.toNat, d.toNat, e.toNat, pn] 2) ∧ Ap w3 wc2 none bo2) := ⟨by rw [hB_succ _ 1 (by simp)]; exact B, HI1.out.2.trans Ax⟩
  clear B Ax HC y hn HI1
  have y := (HM.out.below (NewB.of_ap HI2.out.2).1).c2
  simp only at y
  have HC := hide (rnum_any bo2 n2 cc2 _ c.toNat wc2 HI2.out.1 (by have := HF.out; omega) (by have := HI2.out.1.len; have := HT.out.1 2 (by decide); omega))
  rw [show ((c.toNat : Nat) : Int) = c by have := HF.out; omega] at HC
  go_wp2_with fail
  refine HC.out.mono ?_
  rintro r wc3 ⟨bo3, cc3, rfl, B, Ax⟩
  obtain ⟨n3, hn⟩ : ∃ n3, n2 + (numB c.toNat).length = n3 := ⟨_, rfl⟩
  rw [hn] at B
  rw [hn]
  have HI3 : Hid (BR wc3 bo3 n3 cc3 (hB [a.toNat, b.toNat, c.toNat, d.toNat, e.toNat, pn] 3) ∧ Ap w3 wc3 none bo3) := ⟨by rw [hB_succ _ 2 (by simp)]; exact B, HI2.out.2.trans Ax⟩
  clear B Ax HC y hn HI2
  have y := (HM.out.below (NewB.of_ap HI3.out.2).1).c3
  simp only at y
  have HC := hide (rnum_any bo3 n3 cc3 _ d.toNat wc3 HI3.out.1 (by have := HF.out; omega) (by have := HI3.out.1.len; have := HT.out.1 3 (by decide); omega))
  rw [show ((d.toNat : Nat) : Int) = d by have := HF.out; omega] at HC
  go_wp2_with fail
  refine HC.out.mono ?_
  rintro r wc4 ⟨bo4, cc4, rfl, B, Ax⟩
  obtain ⟨n4, hn⟩ : ∃ n4, n3 + (numB d.toNat).length = n4 := ⟨_, rfl⟩
  rw [hn] at B
  rw [hn]
  have HI4 : Hid (BR wc4 bo4 n4 cc4 (hB [a.toNat, b.toNat, c.toNat, d.toNat, e.toNat, pn] 4) ∧ Ap w3 wc4 none bo4) := ⟨by rw [hB_succ _ 3 (by simp)]; exact B, HI3.out.2.trans Ax⟩
  clear B Ax HC y hn HI3
  have y := (HM.out.below (NewB.of_ap HI4.out.2).1).c4
  simp only at y
  have HC := hide (rnum_any bo4 n4 cc4 _ e.toNat wc4 HI4.out.1 (by have := HF.out; omega) (by have := HI4.out.1.len; have := HT.out.1 4 (by decide); omega))
  rw [show ((e.toNat : Nat) : Int) = e by have := HF.out; omega] at HC
  go_wp2_with fail
  refine HC.out.mono ?_
  rintro r wc5 ⟨bo5, cc5, rfl, B, Ax⟩
  obtain ⟨n5, hn⟩ : ∃ n5, n4 + (numB e.toNat).length = n5 := ⟨_, rfl⟩
  rw [hn] at B
  rw [hn]
  have HI5 : Hid (BR wc5 bo5 n5 cc5 (hB [a.toNat, b.toNat, c.toNat, d.toNat, e.toNat, pn] 5) ∧ Ap w3 wc5 none bo5) := ⟨by rw [hB_succ _ 4 (by simp)]; exact B, HI4.out.2.trans Ax⟩
  clear B Ax HC y hn HI4
  have y := (HM.out.below (NewB.of_ap HI5.out.2).1).c5
  simp only at y
  have HC := hide (rnum_any bo5 n5 cc5 _ pn wc5 HI5.out.1 (by have := HF.out; omega) (by have := HI5.out.1.len; have := HT.out.1 5 (by decide); omega))
  rw [show ((pn : Nat) : Int) = (pn : Int) by have := HF.out; omega] at HC
  go_wp2_with fail
  refine HC.out.mono ?_
  rintro r wc6 ⟨bo6, cc6, rfl, B, Ax⟩
  obtain ⟨n6, hn⟩ : ∃ n6, n5 + (numB pn).length = n6 := ⟨_, rfl⟩
  rw [hn] at B
  rw [hn]
  have HI6 : Hid (BR wc6 bo6 n6 cc6 (hB [a.toNat, b.toNat, c.toNat, d.toNat, e.toNat, pn] 6) ∧ Ap w3 wc6 none bo6) := ⟨by rw [hB_succ _ 5 (by simp)]; exact B, HI5.out.2.trans Ax⟩
  clear B Ax HC y hn HI5
  go_wp2_with fail
  go_loopw [4, 5] (fun v i wr => ∃ (k : Nat) (bo : Option Addr) (n cc : Nat), k ≤ pn ∧ v = .slice bo n cc ∧ i = .int .i64 k ∧ Hid (BR wr bo n cc (hB [a.toNat, b.toNat, c.toNat, d.toNat, e.toNat, pn] 6 ++ partsB (ptsOf X Y k)) ∧ Ap w3 wr none bo)) (fun _ i _ => pn - (intOf i).toNat)
  case atStart => exact ⟨0, bo6, n6, cc6, Nat.zero_le _, rfl, rfl, by show BR _ _ _ _ (_ ++ []) ∧ _; rw [List.append_nil]; exact HI6.out⟩
  case round =>
    clear HI6
    obtain ⟨k, bo, n, cc, hk, rfl, rfl, HI⟩ := hrel
    have x5 := (HM.out.below (NewB.of_ap HI.out.2).1).c5
    simp only at x5
    by_cases hlt : k < pn
    · have HLT := hide hlt
      have HK1 : Hid (wrap64 ((k : Int) + 1) = ((k + 1 : Nat) : Int)) := by show _ = _; have := HF.out; rw [w64 (by omega) (by omega)]; rfl
      have hR := HRi.out k hlt
      have hY0 := HA.out.p k hlt
      have hT := HT.out.2 (k + 1) hlt
      have hP := ptsOf_succ X Y k
      obtain ⟨⟨ct, vo, vn, vc⟩, hp⟩ : ∃ p, X.getD k pt0 = p := ⟨_, rfl⟩
      obtain ⟨Zb, hZ⟩ : ∃ Zb, Y.getD k [] = Zb := ⟨_, rfl⟩
      rw [hp] at hY0 hR hP
      simp only at hY0 hR hP
      rw [hZ] at hY0 hP
      have hvn : Zb.length = vn := hY0.1
      have hB2 : partsB (ptsOf X Y (k + 1)) = partsB (ptsOf X Y k) ++ (numB ct.toNat ++ (numB vn ++ Zb)) := by
        rw [hP, partsB_snoc]
        unfold partB frm
        simp only [hvn]
      have hTl := congrArg List.length hB2
      simp only [List.length_append, hvn] at hTl
      have hnl := HI.out.1.len
      rw [List.length_append] at hnl
      obtain ⟨bb, oo, e1, A0⟩ := HA.out.s.at k hlt
      rw [hp] at A0
      subst e1
      have HPA : Hid (∀ wq : World, Below w3.heap.size w3 wq → wq.cell? ⟨g, 5, none⟩ = some (.slice (some ⟨bb, oo, none⟩) pn pc) ∧ wq.cell? ⟨bb, oo + k * 2, none⟩ = some (.int .i64 ct) ∧ wq.cell? ⟨bb, oo + k * 2 + 1, none⟩ = some (.slice vo vn vc) ∧ Src wq vo vn vc Zb) := fun wq hq => by
        have hb := HB3.out.trans (hq.mono HB3.out.size)
        have a1 := (A0.on hb).c1
        rw [Addr.add_lit] at a1
        exact ⟨(HM.out.below hq).c5, (A0.on hb).c0, a1, hY0.below hb⟩
      have HN2 : Hid (n + (numB ct.toNat).length + (numB vn).length + vn ≤ 70000000 ∧ vn ≤ 70000000) := ⟨by omega, by omega⟩
      have HB2 := hide hB2
      obtain ⟨h5, h0, -, -⟩ := HPA.out wr (NewB.of_ap HI.out.2).1
      have HC1 := hide (rnum_any bo n cc _ ct.toNat wr HI.out.1 (by omega) (by have := HN2.out; omega))
      rw [show ((ct.toNat : Nat) : Int) = ct by omega] at HC1
      clear hR hY0 hT hP hp hZ hvn hB2 hTl hnl A0 x5 h5
      have x5 := (HPA.out wr (NewB.of_ap HI.out.2).1).1
      go_wp2_with fail
      refine HC1.out.mono ?_
      rintro r wd ⟨bo1, cc1, rfl, B1', A1⟩
      obtain ⟨n1, hn1⟩ : ∃ n1, n + (numB ct.toNat).length = n1 := ⟨_, rfl⟩
      rw [hn1] at B1' HN2
      rw [hn1]
      have HI1 := hide (And.intro B1' (HI.out.2.trans A1))
      obtain ⟨z5, -, z1, -⟩ := HPA.out wd (NewB.of_ap HI1.out.2).1
      have HC2 := hide (rnum_any bo1 n1 cc1 _ vn wd HI1.out.1 (by have := HN2.out; omega) (by have := HN2.out; omega))
      clear B1' A1 HC1 hn1 x5 h0 HI
      go_wp2_with fail
      refine HC2.out.mono ?_
      rintro r we ⟨bo2, cc2, rfl, B2', A2⟩
      obtain ⟨n2, hn2⟩ : ∃ n2, n1 + (numB vn).length = n2 := ⟨_, rfl⟩
      rw [hn2] at B2' HN2
      rw [hn2]
      have HI2 := hide (And.intro B2' (HI1.out.2.trans A2))
      clear B2' A2 HC2 hn2 z5 z1 HI1
      go_wp2_with fail
      go_loopw [4, 6] (fun v i wq => ∃ (j : Nat) (bo : Option Addr) (cc : Nat), j ≤ vn ∧ v = .slice bo (n2 + j) cc ∧ i = .int .i64 j ∧ Hid (BR wq bo (n2 + j) cc (hB [a.toNat, b.toNat, c.toNat, d.toNat, e.toNat, pn] 6 ++ partsB (ptsOf X Y k) ++ numB ct.toNat ++ numB vn ++ Zb.take j) ∧ Ap w3 wq none bo)) (fun _ i _ => vn - (intOf i).toNat)
      case atStart => exact ⟨0, bo2, cc2, Nat.zero_le _, rfl, rfl, by show BR _ _ _ _ (_ ++ []) ∧ _; rw [List.append_nil]; exact HI2.out⟩
      case round =>
        clear HI2
        obtain ⟨j, bj, cj, hj, rfl, rfl, HJ⟩ := hrel
        obtain ⟨z5, -, z1, hSz⟩ := HPA.out wr (NewB.of_ap HJ.out.2).1
        by_cases hjl : j < vn
        · have HJL := hide hjl
          have HJ1 : Hid (wrap64 ((j : Int) + 1) = ((j + 1 : Nat) : Int)) := by show _ = _; have := HN2.out; rw [w64 (by omega) (by omega)]; rfl
          obtain ⟨ad, rfl, c1⟩ := cell_at hSz j hjl
          have hZl := hSz.1
          have hS := take_snoc Zb j (by rw [hZl]; exact hjl)
          obtain ⟨z, hz⟩ : ∃ z, Zb.getD j 0 = z := ⟨_, rfl⟩
          rw [hz] at c1 hS
          have HS := hide hS
          clear hz hSz hZl hS
          go_wp2_with (at_builtin; refine HJ.out.1.app1 z (by have := HN2.out; have := HJL.out; omega) rfl (.tmp 70) (.tmp 80) rfl rfl rfl ?_; intro b5 c5 w5 S5 A5; have HJ5 := hide (And.intro S5 (HJ.out.2.trans A5)); clear S5 A5)
          go_roundw
          case rel => exact ⟨j + 1, b5, c5, HJL.out, rfl, by first | rw [HJ1.out] | simp, by show _ ∧ _; rw [HS.out, ← List.append_assoc]; exact HJ5.out⟩
          case measure => (try rw [HJ1.out]); have := HJL.out; simp [intOf]; omega
        · obtain rfl : j = vn := by omega
          have HI' : Hid (BR wr bj (n2 + j) cj (hB [a.toNat, b.toNat, c.toNat, d.toNat, e.toNat, pn] 6 ++ partsB (ptsOf X Y (k + 1))) ∧ Ap w3 wr none bj) := by
            have h1 := HJ.out.1
            rw [List.take_of_length_le (by rw [hSz.1]; exact Nat.le_refl _)] at h1
            refine ⟨?_, HJ.out.2⟩
            rw [HB2.out]
            simpa only [List.append_assoc] using h1
          clear HJ hSz
          go_wp2_with fail
          go_roundw
          case rel => exact ⟨k + 1, bj, n2 + j, cj, HLT.out, rfl, by first | rw [HK1.out] | simp, HI'⟩
          case measure => (try rw [HK1.out]); have := HLT.out; simp [intOf]; omega
    · obtain rfl : k = pn := by omega
      have HPm : Hid (mailB (pmOf a b c d e k X Y) = hB [a.toNat, b.toNat, c.toNat, d.toNat, e.toNat, k] 6 ++ partsB (ptsOf X Y k)) := mailB_eq a b c d e k X Y
      have HE : Hid (PuA w wr (pmOf a b c d e k X Y) (.returned (.tuple #[.slice bo n cc, .int .i64 0]))) := ⟨bo, n, cc, rfl, by rw [HPm.out]; exact HI.out.1, (NewB.of_ap HI.out.2).pre HB3.out⟩
      go_wp2_with fail
      go_ret2
      exact HE.out
end Go.Proofs.Ytcpaaegbjcbnaaa
