/- MailGets: the law. -/
import Derived.Test.YtpnlfljndkfplaaNQg
import Derived.Test.YtpnlfljndkfplaaNVm
namespace Go.Proofs.Ytpnlfljndkfplaa
open Go.RowKit
attribute [local go_sem ↓] ldP_eq stP_eq ldM_eq stM_eq mkP_eq
attribute [local go_sem] to_MC MC_s0 MC_s1 MC_s2 MC_s3 MC_s4 MC_s5
variable {w w' w2 : World} {g : Nat} {a b c d e a' b' c' d' e' : Int} {po qo : Option Addr} {pn pc qn qc : Nat} {X X' : List Pt} {Y Y' : List (List Int)}

/-- two mails that were read as the same -/
theorem MlIs.two {n0 n1 : Nat} {p : Pm} (h : MlIs n0 w p ⟨a, b, c, d, e, po, pn, pc⟩ X Y) (k : MlIs n1 w p ⟨a', b', c', d', e', qo, qn, qc⟩ X' Y') :
    a' = a ∧ b' = b ∧ c' = c ∧ d' = d ∧ e' = e ∧ qn = pn ∧ Sm w pn po pc X qo qc X' Y := by
  obtain ⟨h1, h2, h3, h4, h5, h6⟩ := h.nums
  obtain ⟨k1, k2, k3, k4, k5, k6⟩ := k.nums
  have h7 := h.pts
  have k7 := k.pts
  simp only at h1 h2 h3 h4 h5 h6 h7 k1 k2 k3 k4 k5 k6 k7
  obtain rfl : qn = pn := by omega
  have key : ∀ j, j < qn → (X'.getD j pt0).cart = (X.getD j pt0).cart ∧ Y'.getD j [] = Y.getD j [] := fun j hj => by
    have e1 : (ptsOf X Y qn)[j]? = some ((X.getD j pt0).cart.toNat, Y.getD j []) := by unfold ptsOf; rw [List.getElem?_map, List.getElem?_range hj]; rfl
    have e2 : (ptsOf X' Y' qn)[j]? = some ((X'.getD j pt0).cart.toNat, Y'.getD j []) := by unfold ptsOf; rw [List.getElem?_map, List.getElem?_range hj]; rfl
    rw [k7, ← h7, e1] at e2
    simp only [Option.some.injEq, Prod.mk.injEq] at e2
    have r1 := h.carts j hj
    have r2 := k.carts j hj
    exact ⟨by omega, e2.2.symm⟩
  refine ⟨by omega, by omega, by omega, by omega, by omega, rfl, h.src, k.src, h.ps, fun j hj => ?_, fun j hj => (key j hj).1.symm⟩
  rw [← (key j hj).2]
  exact k.ps j hj
theorem Sm.flip {X2 : List Pt} (h : Sm w pn po pc X qo qc X2 Y) : Sm w pn qo qc X2 po pc X Y := ⟨h.t, h.s, h.q, h.p, fun k hk => (h.c k hk).symm⟩
theorem bodyG_len : ∀ (P : List Prt) (q : Prt), q ∈ P → q.2.length ≤ (partsB P).length
  | p :: P, q, h => by
    unfold partsB
    rw [List.flatMap_cons, List.length_append]
    rcases List.mem_cons.1 h with rfl | h
    · have : q.2.length ≤ (partB q).length := by unfold partB frm; simp only [List.length_append]; omega
      omega
    · have := bodyG_len P q h
      unfold partsB at this
      omega
set_option maxRecDepth 100000 in
set_option maxHeartbeats 4000000 in
theorem mailGets_any (ao : Option Addr) (n cp : Nat) (Z : List Int) (w : World) (S : B1 w ao n cp Z) : Calls Try.prog 4 #[.slice ao n cp] w fun r w' => r = .returned (.bool true) ∧ Below w.heap.size w w' := by
  have HS := hide S.s
  have HN : Hid (n ≤ cp ∧ n ≤ 1048576) := ⟨S.cap, S.big⟩
  have HO : Hid (Oc Z) := S.s.2.2.2
  have HC := hide (awake_any w)
  clear S
  go_enter Try.func4, Try.ntmps4
  go_wp2_with fail
  refine HC.out.mono ?_
  rintro r w1 ⟨rfl, b1⟩
  have HB1 := hide b1
  have HG := hide (rget_any ao n cp Z w1 (HS.out.below b1) HN.out.1 HN.out.2)
  clear HC b1
  go_wp2_with fail
  refine HG.out.mono ?_
  rintro r w5 ⟨b5, h5⟩
  have HB5 := hide (HB1.out.trans (b5.mono HB1.out.size))
  obtain ⟨g6, hg6⟩ : ∃ g6, w5.heap.size = g6 := ⟨_, rfl⟩
  rcases h5 with ⟨p, a, X, Y, hp, hc, rfl, hM⟩ | ⟨h, rfl⟩
  · obtain ⟨a1, a2, a3, a4, a5, po, pn, pc⟩ := a
    obtain ⟨w6, hst, M6, b6, -⟩ := madeM w5 ⟨a1, a2, a3, a4, a5, po, pn, pc⟩ g6 hg6
    have HM6 := hide M6
    have HB6 := hide (HB5.out.trans (b6.mono HB5.out.size))
    have HMl := hide (hM.below b6)
    have HQ : Hid (pMail Z = some (p, [])) := (takes_iff HO.out (by have := HS.out.1; have := HN.out.2; omega) hc).1 hp
    have HCk := hide hc
    have HG2 := hide (get_any ao n cp Z w6 (HS.out.below HB6.out) HN.out.1 (by have := HN.out.2; omega))
    clear hp hc hM M6 b6 HG b5 HB5
    go_wp2_with fail
    refine HG2.out.mono ?_
    rintro r w7 ⟨b7, h7⟩
    obtain ⟨g8, hg8⟩ : ∃ g8, w7.heap.size = g8 := ⟨_, rfl⟩
    rcases h7 with ⟨p2, a, X2, Y2, hp2, hc2, rfl, hM2⟩ | ⟨h, rfl⟩
    · obtain rfl : p = p2 := by rw [HQ.out] at hp2; exact congrArg Prod.fst (Option.some.inj hp2)
      obtain ⟨c1, c2, c3, c4, c5, qo, qn, qc⟩ := a
      obtain ⟨w8, hst2, M8, b8, -⟩ := madeM w7 ⟨c1, c2, c3, c4, c5, qo, qn, qc⟩ g8 hg8
      have hl8 := run_ldM M8
      have hl6 := run_ldM ((HM6.out.below b7).below b8)
      have hA := hM2.below b8
      have hBm := (HMl.out.below b7).below b8
      obtain ⟨rfl, rfl, rfl, rfl, rfl, rfl, hSm⟩ := hA.two hBm
      have hlen : ∀ k, k < pn → (Y2.getD k []).length ≤ 4611686018427387904 := fun k hk => by
        have hz := (pMail_of HO.out HQ.out).1
        have hl := congrArg List.length hz
        rw [List.append_nil, HS.out.1] at hl
        have e1 : (ptsOf X2 Y2 pn)[k]? = some ((X2.getD k pt0).cart.toNat, Y2.getD k []) := by unfold ptsOf; rw [List.getElem?_map, List.getElem?_range hk]; rfl
        have h3 := hA.pts
        simp only at h3
        rw [h3] at e1
        have h4 := bodyG_len _ _ (List.mem_of_getElem? e1)
        simp only at h4
        have h5 : (partsB p.parts).length ≤ (mailB p).length := by unfold mailB; simp only [List.length_append]; omega
        have := HN.out.2
        omega
      have HE := hide (equal_true a1 a2 a3 a4 a5 qo po pn qc pc X2 X Y2 w8 hSm hlen)
      have HB8 := hide (HB6.out.trans ((b7.trans (b8.mono b7.size)).mono HB6.out.size))
      clear hM2 hp2 hc2 M8 b8 b7 hA hBm hSm hlen HG2
      go_wp2_with fail
      refine HE.out.mono ?_
      rintro r w9 ⟨rfl, b9⟩
      have HB9 := hide (HB8.out.trans (b9.mono HB8.out.size))
      clear b9 HE
      go_wp2_with fail
      go_ret
      exact ⟨rfl, HB9.out⟩
    · exact absurd HCk.out (h p HQ.out)
  · obtain ⟨w6, hst, M6, b6, -⟩ := madeM w5 ⟨0, 0, 0, 0, 0, none, 0, 0⟩ g6 hg6
    have HM6 := hide M6
    have HB6 := hide (HB5.out.trans (b6.mono HB5.out.size))
    have HNo := hide h
    have HG2 := hide (get_any ao n cp Z w6 (HS.out.below HB6.out) HN.out.1 (by have := HN.out.2; omega))
    clear h M6 b6 HG b5 HB5
    go_wp2_with fail
    refine HG2.out.mono ?_
    rintro r w7 ⟨b7, h7⟩
    obtain ⟨g8, hg8⟩ : ∃ g8, w7.heap.size = g8 := ⟨_, rfl⟩
    rcases h7 with ⟨p2, a, X2, Y2, hp2, hc2, rfl, hM2⟩ | ⟨h, rfl⟩
    · exact absurd hc2 (HNo.out p2 ((takes_iff HO.out (by have := HS.out.1; have := HN.out.2; omega) hc2).2 hp2))
    · obtain ⟨w8, hst2, M8, b8, -⟩ := madeM w7 ⟨0, 0, 0, 0, 0, none, 0, 0⟩ g8 hg8
      have hl8 := run_ldM M8
      have hl6 := run_ldM ((HM6.out.below b7).below b8)
      have HE := hide (equal_zero w8)
      have HB8 := hide (HB6.out.trans ((b7.trans (b8.mono b7.size)).mono HB6.out.size))
      clear h M8 b8 b7 HG2
      go_wp2_with fail
      refine HE.out.mono ?_
      rintro r w9 ⟨rfl, b9⟩
      have HB9 := hide (HB8.out.trans (b9.mono HB8.out.size))
      clear b9 HE
      go_wp2_with fail
      go_ret
      exact ⟨rfl, HB9.out⟩
end Go.Proofs.Ytpnlfljndkfplaa
