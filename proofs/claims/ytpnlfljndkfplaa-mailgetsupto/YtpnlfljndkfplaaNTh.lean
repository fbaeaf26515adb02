/- MailThere: the law. -/
import Derived.Test.YtpnlfljndkfplaaNSz
namespace Go.Proofs.Ytpnlfljndkfplaa
open Go.RowKit
attribute [local go_sem ↓] ldP_eq stP_eq ldM_eq stM_eq mkP_eq
attribute [local go_sem] to_MC MC_s0 MC_s1 MC_s2 MC_s3 MC_s4 MC_s5
variable {w w' w2 : World} {g : Nat}

theorem body_len : ∀ (P : List Prt) (q : Prt), q ∈ P → q.2.length ≤ (partsB P).length
  | p :: P, q, h => by
    have e : partsB (p :: P) = partB p ++ partsB P := rfl
    rw [e, List.length_append]
    rcases List.mem_cons.1 h with rfl | h
    · unfold partB frm
      rw [List.length_append, List.length_append]
      omega
    · have := body_len P q h
      omega
theorem okN_of {Z R : List Int} {q : Pm} (hO : Oc Z) (hl : Z.length ≤ 9223372036854775807) (h : pMail Z = some (q, R)) : q.okN := by
  obtain ⟨e, h1, h2, h3, h4, h5, h6, h7⟩ := pMail_of hO h
  refine ⟨h1, h2, h3, h4, h5, h6, fun p hp => ⟨(h7 p hp).1, ?_⟩⟩
  have hb := body_len q.parts p hp
  have e2 := congrArg List.length e
  unfold mailB at e2
  simp only [List.length_append] at e2
  omega
theorem pMail_short {p : Pm} (hp : p.okN) (hO : Oc (mailB p)) (hl : (mailB p).length ≤ 9223372036854775807) (k : Nat) (hk : k < (mailB p).length) (q : Pm) : pMail ((mailB p).take k) ≠ some (q, []) := fun h => by
  have hq := okN_of (hO.take k) (by rw [List.length_take]; omega) h
  have e := (pMail_of (hO.take k) h).1
  rw [List.append_nil] at e
  have h1 := pMail_to p [] hp
  have h2 := pMail_to q ((mailB p).drop k) hq
  rw [← e, List.take_append_drop] at h2
  rw [List.append_nil, h2] at h1
  simp only [Option.some.injEq, Prod.mk.injEq] at h1
  have := congrArg List.length h1.2
  rw [List.length_drop] at this
  simp at this
  omega
theorem pMail_long {p : Pm} (hp : p.okN) (M : List Int) (hM : M ≠ []) (q : Pm) : pMail (mailB p ++ M) ≠ some (q, []) := fun h => by
  rw [pMail_to p M hp] at h
  simp only [Option.some.injEq, Prod.mk.injEq] at h
  exact hM h.2
theorem GtA.bad {Z : List Int} {r : Ending} (h : GtA w w' Z r) (hb : ∀ q, pMail Z ≠ some (q, [])) : r = .returned (.tuple #[MV ⟨0, 0, 0, 0, 0, none, 0, 0⟩, .int .i64 8]) ∧ Below w.heap.size w w' := by
  rcases h.2 with ⟨p, _, _, _, hp, _⟩ | ⟨_, hr⟩
  · exact absurd hp (hb p)
  · exact ⟨hr, h.1⟩
theorem two_ap {o : Obj} {wa wb : World} {ba bb : Option Addr} (h : Ap (w.alloc o) wa (some ⟨w.heap.size, 0, none⟩) ba) (k : Ap wa wb ba bb) : Below w.heap.size w wb := by
  have N := h.fresh
  have hs := N.1.size
  exact ⟨k.grown.os.trans N.1.os, k.grown.tape.trans N.1.tape, k.grown.output.trans N.1.output, Nat.le_trans hs k.grown.size, fun i hi => (k.grown.block i (by omega) (fun e => by have := N.2 i e.symm; omega)).trans (N.1.block i hi)⟩
variable {a b c d e a' b' c' d' e' : Int} {po qo : Option Addr} {pn pc qn qc : Nat} {X X' : List Pt} {Y Y' : List (List Int)}
/-- a mail that was read back is the mail -/
theorem MlIs.sm {n0 : Nat} (h : MlIs n0 w (pmOf a b c d e pn X Y) ⟨a', b', c', d', e', qo, qn, qc⟩ X' Y') (A : MA w a b c d e po pn pc X Y) (hck : ckE ⟨a, b, c, d, e, po, pn, pc⟩ X = 0) :
    a' = a ∧ b' = b ∧ c' = c ∧ d' = d ∧ e' = e ∧ qn = pn ∧ Sm w pn qo qc X' po pc X Y := by
  have hb := in_bounds hck
  obtain ⟨h1, h2, h3, h4, h5, h6⟩ := h.nums
  have h7 := h.pts
  simp only [pmOf, ptsOf_len] at h1 h2 h3 h4 h5 h6 h7
  subst h6
  have key : ∀ k, k < qn → (X'.getD k pt0).cart = (X.getD k pt0).cart ∧ Y'.getD k [] = Y.getD k [] := fun k hk => by
    have e1 : (ptsOf X Y qn)[k]? = some ((X.getD k pt0).cart.toNat, Y.getD k []) := by unfold ptsOf; rw [List.getElem?_map, List.getElem?_range hk]; rfl
    have e2 : (ptsOf X' Y' qn)[k]? = some ((X'.getD k pt0).cart.toNat, Y'.getD k []) := by unfold ptsOf; rw [List.getElem?_map, List.getElem?_range hk]; rfl
    rw [h7, e1] at e2
    simp only [Option.some.injEq, Prod.mk.injEq] at e2
    have r1 := rise_at X (-1) k hb.2.2.2.2.2.2.2.2.2 (by rw [A.s.len]; exact hk)
    have r2 := h.carts k hk
    exact ⟨by omega, e2.2.symm⟩
  refine ⟨by omega, by omega, by omega, by omega, by omega, rfl, h.src, A.s, fun k hk => ?_, A.p, fun k hk => (key k hk).1⟩
  rw [← (key k hk).2]
  exact h.ps k hk
set_option maxRecDepth 100000 in
set_option maxHeartbeats 8000000 in
theorem mailThere_any (a b c d e : Int) (po : Option Addr) (pn pc : Nat) (X : List Pt) (Y : List (List Int)) (mo : Option Addr) (mn mc : Nat) (M : List Int) (w : World) (A : MA w a b c d e po pn pc X Y) (SM : Src w mo mn mc M) (hmn : mn ≤ 1048576) :
    Calls Try.prog 5 #[MV ⟨a, b, c, d, e, po, pn, pc⟩, .slice mo mn mc] w fun r w' => r = .returned (.bool true) ∧ Below w.heap.size w w' := by
  obtain ⟨w1, hw1⟩ : ∃ w1, w.alloc (.cells (MC ⟨a, b, c, d, e, po, pn, pc⟩) 24) = w1 := ⟨_, rfl⟩
  obtain ⟨g2, hg2⟩ : ∃ g2, w.heap.size = g2 := ⟨_, rfl⟩
  have X2 := bx_new w ⟨a, b, c, d, e, po, pn, pc⟩ hw1 hg2
  have HB : Hid (Below w.heap.size w w1) := X2.bel
  have HM := hide X2.box
  have HA := hide (A.below X2.bel)
  have HSM := hide (SM.below X2.bel)
  have HMn := hide hmn
  have HC := hide (awake_any w1)
  clear X2 A SM hmn
  go_enter Try.func5, Try.ntmps5
  go_wp2_with fail
  refine HC.out.mono ?_
  rintro r w2 ⟨rfl, b2⟩
  have HB2 := hide b2
  have hl2 := run_ldM (HM.out.below b2)
  have HK := rcheck_any a b c d e po pn pc X w2 (HA.out.below b2).s
  clear b2 HC
  rcases (show ckE ⟨a, b, c, d, e, po, pn, pc⟩ X = 0 ∨ ckE ⟨a, b, c, d, e, po, pn, pc⟩ X = 1 by unfold ckE; split <;> simp) with hc | hc
  case inr =>
    rw [hc] at HK
    have HK := hide HK
    have HCa := hide hc
    clear hc
    go_wp2_with fail
    refine HK.out.mono ?_
    rintro r w3 ⟨rfl, b3⟩
    have HB3 := hide (HB2.out.trans (b3.mono HB2.out.size))
    have hl3 := run_ldM (HM.out.below HB3.out)
    have HP := hide (put_bad a b c d e po pn pc X w3 (HA.out.below HB3.out).s HA.out.hi HCa.out)
    clear b3 HK hl2
    go_wp2_with fail
    refine HP.out.mono ?_
    rintro r w4 ⟨rfl, b4⟩
    have HE := hide (HB.out.trans ((HB3.out.trans (b4.mono HB3.out.size)).mono HB.out.size))
    clear b4 HP hl3
    go_wp2_with fail
    go_ret
    exact ⟨rfl, HE.out⟩
  rw [hc] at HK
  have HK := hide HK
  have HCa := hide hc
  clear hc
  go_wp2_with fail
  refine HK.out.mono ?_
  rintro r w3 ⟨rfl, b3⟩
  have HB3 := hide (HB2.out.trans (b3.mono HB2.out.size))
  have hl3 := run_ldM (HM.out.below HB3.out)
  have HP := hide ((HA.out.below HB3.out).put HCa.out)
  clear b3 HK hl2 HB2
  go_wp2_with fail
  refine HP.out.mono ?_
  rintro r w4 ⟨bo, n, bc, rfl, B4, N4⟩
  have HB4 := hide (HB3.out.trans (N4.1.mono HB3.out.size))
  have hl4 := run_ldM (HM.out.below HB4.out)
  have hzl := B4.len
  have hSz := msize_ok a b c d e po pn pc X Y w4 (HA.out.below HB4.out) HCa.out
  rw [hzl] at hSz
  have HSz := hide hSz
  have HOk := hide (HA.out.okN HCa.out).1
  have HZO : Hid (Oc (mailB (pmOf a b c d e pn X Y))) := HA.out.oc
  have HZl : Hid (n ≤ 70000000 ∧ n ≤ bc ∧ 0 < n) := ⟨by have := HA.out.len HCa.out; omega, B4.cap, by
    rw [← hzl]
    unfold mailB
    rw [List.length_append]
    have : 0 < (numB (pmOf a b c d e pn X Y).kind).length := by
      by_cases h : (pmOf a b c d e pn X Y).kind < 128
      · rw [numB_lt h]; simp
      · rw [numB_ge h]; simp
    omega⟩
  have hpm : pMail (mailB (pmOf a b c d e pn X Y)) = some (pmOf a b c d e pn X Y, []) := by have := pMail_to _ [] HOk.out; rwa [List.append_nil] at this
  have HPm := hide hpm
  obtain ⟨p, hp⟩ : ∃ p, pmOf a b c d e pn X Y = p := ⟨_, rfl⟩
  rw [hp] at HOk HZO HPm B4 hzl
  have HZs := hide (B4.srcO HZO.out)
  have HPp := hide hp
  have HLen : Hid ((mailB p).length = n) := hzl
  clear hpm N4 B4 hSz HP hl3 HB3 hp hzl
  go_wp2_with fail
  refine HSz.out.mono ?_
  rintro r w5 ⟨rfl, b5⟩
  have HB5 := hide (HB4.out.trans (b5.mono HB4.out.size))
  have HZ5 := hide (HZs.out.below b5)
  have HG := hide (get_any bo n bc (mailB p) w5 HZ5.out HZl.out.2.1 (by have := HZl.out; omega))
  clear b5 HSz hl4 HB4 HZs
  go_wp2_with fail
  refine HG.out.mono ?_
  rintro r w6 ⟨b6, h6⟩
  obtain ⟨⟨a1, a2, a3, a4, a5, qo, qn, qc⟩, X', Y', rfl, hM⟩ : ∃ a X Y, r = .returned (.tuple #[MV a, .int .i64 0]) ∧ MlIs w5.heap.size w6 p a X Y := by
    rcases h6 with ⟨p', a, X, Y, hp', _, hr, hM⟩ | ⟨h, _⟩
    · rw [HPm.out] at hp'
      obtain rfl : p = p' := (by simpa using hp')
      exact ⟨a, X, Y, hr, hM⟩
    · refine absurd ?_ (h p HPm.out)
      rw [← HPp.out]
      have e1 : ckE ⟨a, b, c, d, e, po, pn, pc⟩ X = ckP (pmOf a b c d e pn X Y) := by
        have hb := in_bounds HCa.out
        have hr : rise (-1) X = rise (-1) ((ptsOf X Y pn).map fun q => ⟨(q.1 : Int), none, 0, 0⟩) := rise_map _ _ _ (carts_of HA.out.s.len (fun k hk => by have := rise_at X (-1) k hb.2.2.2.2.2.2.2.2.2 (by rw [HA.out.s.len]; exact hk); omega))
        unfold ckP ckE inForm ofKind kindB pmOf
        simp only [ptsOf_len]
        rw [hr, show ((a.toNat : Nat) : Int) = a by omega, show ((b.toNat : Nat) : Int) = b by omega, show ((c.toNat : Nat) : Int) = c by omega, show ((d.toNat : Nat) : Int) = d by omega, show ((e.toNat : Nat) : Int) = e by omega]
      rw [← e1]
      exact HCa.out
  have hB6 := HB5.out.trans (b6.mono HB5.out.size)
  have hM' : MlIs w5.heap.size w6 (pmOf a b c d e pn X Y) ⟨a1, a2, a3, a4, a5, qo, qn, qc⟩ X' Y' := by rw [HPp.out]; exact hM
  obtain ⟨e1, e2, e3, e4, e5, e6, hSm⟩ := hM'.sm (HA.out.below hB6) HCa.out
  subst e1 e2 e3 e4 e5 e6
  obtain ⟨g6, hg6⟩ : ∃ g6, w6.heap.size = g6 := ⟨_, rfl⟩
  obtain ⟨w7, hst, M7, b7, -⟩ := madeM w6 ⟨a1, a2, a3, a4, a5, qo, qn, qc⟩ g6 hg6
  have hl7 := run_ldM M7
  have hB7 := hB6.trans (b7.mono hB6.size)
  have hl7' := run_ldM (HM.out.below hB7)
  have HEq := hide (equal_true a1 a2 a3 a4 a5 qo po qn qc pc X' X Y w7 (hSm.below b7) (fun k hk => by have := HA.out.lens k hk; omega))
  have HB7 := hide hB7
  have HZ7 := hide (HZ5.out.below (b6.trans (b7.mono b6.size)))
  clear h6 hM hM' hSm M7 b7 b6 hB6 hB7 HG HB5 HZ5
  go_wp2_with fail
  refine HEq.out.mono ?_
  rintro r w8 ⟨rfl, b8⟩
  have HB8 := hide (HB7.out.trans (b8.mono HB7.out.size))
  have HZ8 := hide (HZ7.out.below b8)
  clear b8 HEq hl7 hl7' HB7 HZ7
  go_wp2_with fail
  go_loopw [12] (fun i wr => ∃ k : Nat, k ≤ n ∧ k ≤ 400 ∧ i = .int .i64 k ∧ Hid (Below w8.heap.size w8 wr)) (fun i _ => 400 - (intOf i).toNat)
  case atStart => exact ⟨0, Nat.zero_le _, Nat.zero_le _, rfl, Below.refl _ _⟩
  case round =>
    obtain ⟨k, hk, hk4, rfl, HW⟩ := hrel
    by_cases hlt : k < n
    · by_cases h4 : k < 400
      · have HK1 : Hid (wrap64 ((k : Int) + 1) = ((k + 1 : Nat) : Int)) := by show _ = _; rw [w64 (by omega) (by omega)]; rfl
        have HLT : Hid (k < n ∧ k < 400) := ⟨hlt, h4⟩
        have hZw := HZ8.out.below HW.out
        cases bo with
        | none => have := (hZw.2.1 rfl).1; omega
        | some ad =>
          have h1 : (k : Int) ≤ (bc : Int) := by have := HZl.out; omega
          have h2 : (k : Int) ≤ (n : Int) := by omega
          have hT := hZw.take k (by omega)
          have HG2 := hide (get_any (some ad) k bc ((mailB p).take k) wr hT (by have := HZl.out; omega) (by have := HZl.out; omega))
          clear hZw hT hk hk4
          go_wp2_with fail
          refine HG2.out.mono ?_
          intro r w10 h10
          obtain ⟨rfl, b10⟩ := h10.bad (pMail_short HOk.out HZO.out (by have := HZl.out; have := HLen.out; omega) k (by rw [HLen.out]; exact HLT.out.1))
          obtain ⟨g7, hg7⟩ : ∃ g7, w10.heap.size = g7 := ⟨_, rfl⟩
          obtain ⟨w11, hst2, M11, b11, -⟩ := madeM w10 ⟨0, 0, 0, 0, 0, none, 0, 0⟩ g7 hg7
          have hl11 := run_ldM M11
          have hB11 := HW.out.trans ((b10.trans (b11.mono b10.size)).mono HW.out.size)
          have HE2 := hide (equal_zero w11)
          have HB11 := hide hB11
          clear h10 b10 M11 b11 hB11 HG2 HW
          go_wp2_with fail
          refine HE2.out.mono ?_
          rintro r w12 ⟨rfl, b12⟩
          have HW2 := hide (HB11.out.trans (b12.mono HB11.out.size))
          clear b12 HE2 hl11
          go_wp2_with fail
          go_roundw
          case rel => exact ⟨k + 1, HLT.out.1, HLT.out.2, by first | rw [HK1.out] | simp, HW2⟩
          case measure => (try rw [HK1.out]); have := HLT.out; simp [intOf]; omega
      · have hnl : ¬ (k : Int) < 400 := by omega
        have hyl : (k : Int) < (n : Int) := by omega
        clear hk hk4 hlt h4
        by_cases h0 : mn = 0
        · have hm : ((mn : Int) == 0) = true := by simp [h0]
          have HE := hide (HB.out.trans ((HB8.out.trans (HW.out.mono HB8.out.size)).mono HB.out.size))
          clear h0
          go_wp2_with fail
          go_ret
          exact ⟨rfl, by first | exact HE.out | (have := HE.out; rw [hg2] at this; exact this)⟩
        · have hm : ((mn : Int) == 0) = false := by simpa using h0
          have hML := HSM.out.1
          have HNe : Hid (M ≠ []) := fun h => h0 (by rw [← hML, h]; rfl)
          have HL := hide (BR.lit wr)
          have HSb := hide (((HZ8.out.below HW.out).below (below_new wr (.cells #[] 5))).bs)
          have HNn : Hid (0 + n ≤ 140737488355328 ∧ n + mn ≤ 140737488355328) := ⟨by have := HZl.out; omega, by have := HZl.out; have := HMn.out; omega⟩
          clear h0 hML
          go_wp2_with (at_builtin; first | (refine HSa.out.appB HSMa.out HNn.out.2 rfl (.tmp 99) (.tmp 100) rfl rfl rfl ?_; intro ob cb wb Sb bb; have HSc := hide Sb; have HBb := hide (two_ap HBa.out bb); clear Sb bb) | (refine HL.out.appB HSb.out HNn.out.1 rfl (.tmp 97) (.tmp 98) rfl rfl rfl ?_; intro oa ca wa Sa ba; rw [Nat.zero_add] at Sa ⊢; have HSa := hide Sa; have HBa := hide ba; have HSMa := hide (((HSM.out.below (HB8.out.trans (HW.out.mono HB8.out.size))).below ba.fresh.1).bs); clear Sa ba))
          have hO2 : Oc (mailB p ++ M) := HZO.out.append HSM.out.2.2.2
          have HG2 := hide (get_any ob (n + mn) cb (mailB p ++ M) wb (HSc.out.srcO hO2) HSc.out.cap (by have := HNn.out; omega))
          have HB9 := hide (HB8.out.trans ((HW.out.trans (HBb.out.mono HW.out.size)).mono HB8.out.size))
          clear hO2
          refine HG2.out.mono ?_
          intro r w10 h10
          obtain ⟨rfl, b10⟩ := h10.bad (pMail_long HOk.out M HNe.out)
          obtain ⟨g7, hg7⟩ : ∃ g7, w10.heap.size = g7 := ⟨_, rfl⟩
          obtain ⟨w11, hst2, M11, b11, -⟩ := madeM w10 ⟨0, 0, 0, 0, 0, none, 0, 0⟩ g7 hg7
          have hl11 := run_ldM M11
          have hB11 := HB9.out.trans ((b10.trans (b11.mono b10.size)).mono HB9.out.size)
          have HE2 := hide (equal_zero w11)
          have HB11 := hide hB11
          clear h10 b10 M11 b11 hB11 HG2
          go_wp2_with fail
          refine HE2.out.mono ?_
          rintro r w12 ⟨rfl, b12⟩
          have HE := hide (HB.out.trans ((HB11.out.trans (b12.mono HB11.out.size)).mono HB.out.size))
          clear b12 HE2 hl11
          go_wp2_with fail
          go_ret
          exact ⟨rfl, by first | exact HE.out | (have := HE.out; rw [hg2] at this; exact this)⟩
    · have hnl : ¬ (k : Int) < (n : Int) := by omega
      clear hk hk4 hlt
      by_cases h0 : mn = 0
      · have hm : ((mn : Int) == 0) = true := by simp [h0]
        have HE := hide (HB.out.trans ((HB8.out.trans (HW.out.mono HB8.out.size)).mono HB.out.size))
        clear h0
        go_wp2_with fail
        go_ret
        exact ⟨rfl, by first | exact HE.out | (have := HE.out; rw [hg2] at this; exact this)⟩
      · have hm : ((mn : Int) == 0) = false := by simpa using h0
        have hML := HSM.out.1
        have HNe : Hid (M ≠ []) := fun h => h0 (by rw [← hML, h]; rfl)
        have HL := hide (BR.lit wr)
        have HSb := hide (((HZ8.out.below HW.out).below (below_new wr (.cells #[] 5))).bs)
        have HNn : Hid (0 + n ≤ 140737488355328 ∧ n + mn ≤ 140737488355328) := ⟨by have := HZl.out; omega, by have := HZl.out; have := HMn.out; omega⟩
        clear h0 hML
        go_wp2_with (at_builtin; first | (refine HSa.out.appB HSMa.out HNn.out.2 rfl (.tmp 99) (.tmp 100) rfl rfl rfl ?_; intro ob cb wb Sb bb; have HSc := hide Sb; have HBb := hide (two_ap HBa.out bb); clear Sb bb) | (refine HL.out.appB HSb.out HNn.out.1 rfl (.tmp 97) (.tmp 98) rfl rfl rfl ?_; intro oa ca wa Sa ba; rw [Nat.zero_add] at Sa ⊢; have HSa := hide Sa; have HBa := hide ba; have HSMa := hide (((HSM.out.below (HB8.out.trans (HW.out.mono HB8.out.size))).below ba.fresh.1).bs); clear Sa ba))
        have hO2 : Oc (mailB p ++ M) := HZO.out.append HSM.out.2.2.2
        have HG2 := hide (get_any ob (n + mn) cb (mailB p ++ M) wb (HSc.out.srcO hO2) HSc.out.cap (by have := HNn.out; omega))
        have HB9 := hide (HB8.out.trans ((HW.out.trans (HBb.out.mono HW.out.size)).mono HB8.out.size))
        clear hO2
        refine HG2.out.mono ?_
        intro r w10 h10
        obtain ⟨rfl, b10⟩ := h10.bad (pMail_long HOk.out M HNe.out)
        obtain ⟨g7, hg7⟩ : ∃ g7, w10.heap.size = g7 := ⟨_, rfl⟩
        obtain ⟨w11, hst2, M11, b11, -⟩ := madeM w10 ⟨0, 0, 0, 0, 0, none, 0, 0⟩ g7 hg7
        have hl11 := run_ldM M11
        have hB11 := HB9.out.trans ((b10.trans (b11.mono b10.size)).mono HB9.out.size)
        have HE2 := hide (equal_zero w11)
        have HB11 := hide hB11
        clear h10 b10 M11 b11 hB11 HG2
        go_wp2_with fail
        refine HE2.out.mono ?_
        rintro r w12 ⟨rfl, b12⟩
        have HE := hide (HB.out.trans ((HB11.out.trans (b12.mono HB11.out.size)).mono HB.out.size))
        clear b12 HE2 hl11
        go_wp2_with fail
        go_ret
        exact ⟨rfl, by first | exact HE.out | (have := HE.out; rw [hg2] at this; exact this)⟩
end Go.Proofs.Ytpnlfljndkfplaa
