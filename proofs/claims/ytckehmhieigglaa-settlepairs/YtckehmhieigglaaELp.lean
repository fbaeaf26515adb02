/- SettlePairs: the law. -/
import Derived.Test.YtckehmhieigglaaESe
namespace Go.Proofs.Ytckehmhieigglaa
open Go.RowKit
attribute [local go_sem ↓] ldP_eq stP_eq
variable {w w' wq w2 : World} {g : Nat} {ao bo : Option Addr} {m c m' c' : Nat} {L : List Pr} {M : List Qr}

/-- the program's pairs and the reference's, apart -/
structure SP (w wq : World) (ao : Option Addr) (m c : Nat) (L : List Pr) (bo : Option Addr) (m' c' : Nat) (M : List Qr) : Prop where
  r : PR wq ao m c L
  ra : NewB w wq ao
  q : QR wq bo m' c' M
  qa : NewB w wq bo
  ne : ∀ k, blk ao = some k → blk bo ≠ some k
theorem SP.begin {w1 : World} (r : PR w1 ao m c L) (ra : NewB w w1 ao) (q : QR w2 bo m' c' M) (qa : NewB w1 w2 bo) : SP w w2 ao m c L bo m' c' M :=
  ⟨r.below qa.1, ra.below qa.1, q, NewB.pre ra.1 qa, fun k hk e => by have := r.lt k hk; have := qa.2 k e; omega⟩
theorem SP.below (h : SP w wq ao m c L bo m' c' M) (hb : Below wq.heap.size wq w2) : SP w w2 ao m c L bo m' c' M :=
  ⟨h.r.below hb, h.ra.below hb, h.q.below hb, h.qa.below hb, h.ne⟩
theorem SP.ap {a2 : Option Addr} {m2 c2 : Nat} {L2 : List Pr} (h : SP w wq ao m c L bo m' c' M) (r : PR w2 a2 m2 c2 L2) (a : Ap wq w2 ao a2) : SP w w2 a2 m2 c2 L2 bo m' c' M := by
  refine ⟨r, h.ra.ap a, h.q.keep fun k hk => a.grown.block k (h.q.lt k hk) (fun e => h.ne k e.symm hk), ⟨(h.ra.ap a).1, h.qa.2⟩, fun k hk e => ?_⟩
  rcases a.lies with e2 | ⟨j, e2, hj⟩
  · exact h.ne k (by rw [← e2]; exact hk) e
  · rw [e2] at hk
    have := Option.some.inj hk
    have := h.q.lt k e
    omega
theorem two_len {x y z : Nat} {ao : Option Addr} (h : PR w ao x y (pairsP (clN z) (clN z))) (hz : z = 2) : x = 2 := by
  subst hz
  have := h.len
  rw [← this]
  decide
set_option maxRecDepth 100000 in
theorem settlePairs_any (r : Int) (w : World) : Calls Try.prog 3 #[.int .i64 r] w fun e w' => e = .returned (.bool true) ∧ Below w.heap.size w w' := by
  have HP := hide pairs_any
  have HQ := hide (refPairs_any r)
  have HE := hide (pairs_eq (clN r) (clN_le r).2)
  have HN : Hid ((pairsP (clN r) (clN r)).length ≤ 256) := pairs_room _ _ (clN_le r).2 (Nat.le_refl _)
  obtain ⟨M, hM⟩ : ∃ M, refP (clN r) 256 = M := ⟨_, rfl⟩
  rw [hM] at HQ HE
  clear hM
  obtain ⟨P, hP⟩ : ∃ P, pairsP (clN r) (clN r) = P := ⟨_, rfl⟩
  have HPr : Hid (∀ w, Calls Try.prog 9 #[.int .i64 r] w fun e w' => ∃ bo m c, e = .returned (.slice bo m c) ∧ PR w' bo m c P ∧ NewB w w' bo) := fun w => by have := HP.out r w; rw [hP] at this; exact this
  rw [hP] at HE HN
  clear hP
  go_enter Try.func3, Try.ntmps3
  go_wp2_with (first
    | (go_at_call 11; refine (samePairs_true _ _ _ _ _ _ _ _ _ HSP.out.r.src HSP.out.q.src HE.out (by have := HSP.out.r.len; have := HN.out; omega)).mono ?_; rintro e w4 ⟨rfl, b4⟩; have HS4 := hide (HSP.out.below b4); clear b4)
    | (have hhs := HS.out; clear hhs; go_at_call 9; refine (HP.out 2 _).mono ?_; rintro e w3 ⟨b3, m3, c3, rfl, R3, N3⟩; obtain rfl := two_len (z := 2) R3 rfl; have HSP := hide (HS.out.below N3.1); clear R3 N3)
    | (go_at_call 10; refine (HQ.out _).mono ?_; rintro e w2 ⟨bo, m', c', rfl, Q2, N2⟩; have HS := hide (SP.begin HR1.out HN1.out Q2 N2); clear Q2 N2)
    | (go_at_call 9; refine (HPr.out _).mono ?_; rintro e w1 ⟨ao, m, c, rfl, R1, N1⟩; have HR1 := hide R1; have HN1 := hide N1; clear R1 N1))
  have hm : m ≤ 256 := by have := HS4.out.r.len; have := HN.out; omega
  clear HS HSP HR1 HN1
  go_loopw [21] (fun i wr => ∃ (k : Nat) (L : List Pr), k ≤ m ∧ i = .int .i64 k ∧ Hid (SP w wr ao m c L bo m' c' M)) (fun i _ => m - (intOf i).toNat)
  case atStart => exact ⟨0, P, Nat.zero_le _, rfl, HS4⟩
  case round =>
    clear HS4
    obtain ⟨k, L, hk, rfl, HS⟩ := hrel
    by_cases hlt : k < m
    · obtain ⟨b, w5, rfl, hst, R5, A5⟩ := HS.out.r.put k hlt (-1) (-2)
      have HS5 := hide (HS.out.ap R5 A5)
      clear R5 A5 HS
      go_wp2_with fail
      go_roundw
      case rel => exact ⟨k + 1, _, by omega, by go_num, HS5⟩
      case measure => simp [intOf]; omega
    · have HM : Hid (m + 1 ≤ 8796093022108) := by show _ ≤ _; omega
      have HR := hide HS.out.r
      go_wp2_with (first
        | (go_at_call 11; refine (samePairs_true _ _ _ _ _ _ _ _ _ HR7.out.src HS7.out.q.src HE.out (by have := HR7.out.len; have := HN.out; omega)).mono ?_; rintro e w8 ⟨rfl, b8⟩; have HS8 := hide (HS7.out.below b8); clear b8)
        | (have hh := HS6.out; clear hh; go_at_call 9; refine (HPr.out _).mono ?_; rintro e w7 ⟨b7, m7, c7, rfl, R7, N7⟩; have HR7 := hide R7; have HS7 := hide (HS6.out.below N7.1); clear R7 N7)
        | (at_builtin; refine HR.out.app (L := [⟨-3, -4⟩]) (m := 1) rfl (pcs_lit _ _) HM.out rfl (.tmp 29) (.tmp 31) rfl rfl rfl ?_; intro b6 c6 w6 R6 A6; have HS6 := hide (HS.out.ap R6 A6); clear R6 A6))
      go_ret
      exact ⟨rfl, HS8.out.ra.1⟩
end Go.Proofs.Ytckehmhieigglaa
