/- MailBack: the law. -/
import Derived.Test.YtpnlfljndkfplaaNAw
namespace Go.Proofs.Ytpnlfljndkfplaa
open Go.RowKit
attribute [local go_sem ↓] ldP_eq stP_eq ldM_eq stM_eq mkP_eq
attribute [local go_sem] to_MC MC_s0 MC_s1 MC_s2 MC_s3 MC_s4 MC_s5
variable {w w' w2 : World} {g : Nat}

theorem sm_nil (w : World) : Sm w 0 none 0 [] none 0 [] [] := ⟨PSrc.empty w, PSrc.empty w, fun k hk => absurd hk (Nat.not_lt_zero k), fun k hk => absurd hk (Nat.not_lt_zero k), fun k hk => absurd hk (Nat.not_lt_zero k)⟩
theorem equal_zero (w : World) : Calls Try.prog 16 #[MV ⟨0, 0, 0, 0, 0, none, 0, 0⟩, MV ⟨0, 0, 0, 0, 0, none, 0, 0⟩] w fun r w' => r = .returned (.bool true) ∧ Below w.heap.size w w' :=
  equal_true 0 0 0 0 0 none none 0 0 0 [] [] [] w (sm_nil w) (fun k hk => absurd hk (Nat.not_lt_zero k))
theorem MlIs.pm {n0 : Nat} {p : Pm} {a b c d e : Int} {po : Option Addr} {pn pc : Nat} {X : List Pt} {Y : List (List Int)} (h : MlIs n0 w p ⟨a, b, c, d, e, po, pn, pc⟩ X Y) : pmOf a b c d e pn X Y = p := by
  obtain ⟨h1, h2, h3, h4, h5, h6⟩ := h.nums
  have h7 := h.pts
  simp only at h1 h2 h3 h4 h5 h6 h7
  obtain ⟨k, f, t, l, hi, P⟩ := p
  simp only at h1 h2 h3 h4 h5 h7
  unfold pmOf
  rw [h1, h2, h3, h4, h5, h7]
  simp
set_option maxRecDepth 100000 in
set_option maxHeartbeats 4000000 in
theorem mailBack_any (ao : Option Addr) (n cp : Nat) (Z : List Int) (w : World) (S : Src w ao n cp Z) (hcap : n ≤ cp) (hn : n ≤ 140737488351232) : Calls Try.prog 6 #[.slice ao n cp] w fun r w' => r = .returned (.bool true) ∧ Below w.heap.size w w' := by
  have HS := hide S
  have HN : Hid (n ≤ cp ∧ n ≤ 140737488351232) := ⟨hcap, hn⟩
  have HO : Hid (Oc Z) := S.2.2.2
  have HC := hide (awake_any w)
  clear S hcap hn
  go_enter Try.func6, Try.ntmps6
  go_wp2_with fail
  refine HC.out.mono ?_
  rintro r w1 ⟨rfl, b1⟩
  have HB1 := hide b1
  have HG := hide (get_any ao n cp Z w1 (HS.out.below b1) HN.out.1 (by have := HN.out.2; omega))
  clear HC b1
  go_wp2_with fail
  refine HG.out.mono ?_
  rintro r w5 ⟨b5, h5⟩
  have HB5 := hide (HB1.out.trans (b5.mono HB1.out.size))
  obtain ⟨g6, hg6⟩ : ∃ g6, w5.heap.size = g6 := ⟨_, rfl⟩
  rcases h5 with ⟨p, a, X, Y, hp, hc, rfl, hM⟩ | ⟨h, rfl⟩
  · have hZ := (pMail_of HO.out hp).1
    rw [List.append_nil] at hZ
    obtain ⟨a1, a2, a3, a4, a5, po, pn, pc⟩ := a
    have hck := hM.ck
    rw [hc] at hck
    have hpm := hM.pm
    have hhi : a5 ≤ 9223372036854775807 := by
      have h5 : a5 = (p.hi : Int) := hM.nums.2.2.2.2.1
      have := (pMail_of HO.out hp).2.2.2.2.2.1
      omega
    obtain ⟨w6, hst, M6, b6, -⟩ := madeM w5 ⟨a1, a2, a3, a4, a5, po, pn, pc⟩ g6 hg6
    have hl := run_ldM M6
    have hM6 := hM.below b6
    have hlen : (mailB (pmOf a1 a2 a3 a4 a5 pn X Y)).length ≤ 140737488354000 := by
      rw [hpm, ← hZ, HS.out.1]
      have := HN.out.2
      omega
    have hP := put_ok a1 a2 a3 a4 a5 po pn pc X Y w6 hM6.src hM6.ps hck hlen
    rw [hpm] at hP
    have HP := hide hP
    have HCk : Hid (∀ wx : World, Below w6.heap.size w6 wx → Calls Try.prog 18 #[MV ⟨a1, a2, a3, a4, a5, po, pn, pc⟩] wx fun r w' => r = .returned (.int .i64 0) ∧ Below wx.heap.size wx w') := fun wx hb => by
      have := check_any a1 a2 a3 a4 a5 po pn pc X wx (hM6.src.below hb) hhi
      rw [hck] at this
      exact this
    have HM6 := hide M6
    have HB6 := hide (HB5.out.trans (b6.mono HB5.out.size))
    have HZ := hide hZ
    clear hp hc hM hZ hck hpm hhi M6 b6 hM6 hlen hP HG b5 HB5
    go_wp2_with fail
    refine HP.out.mono ?_
    rintro r w7 ⟨bo, m, cc, rfl, B7, N7⟩
    rw [← HZ.out] at B7
    have M7 := HM6.out.below N7.1
    have hl7 := run_ldM M7
    have HC7 := hide (HCk.out w7 N7.1)
    have HB7 := hide (HB6.out.trans (N7.1.mono HB6.out.size))
    have HS7 := hide (B7.srcO HO.out)
    clear hl B7 N7 M7 HP HCk HM6 HB6
    go_wp2_with fail
    refine HC7.out.mono ?_
    rintro r w8 ⟨rfl, b8⟩
    have hE := eqB_any ao bo n cp m cc Z Z w8 (HS.out.below (HB7.out.trans (b8.mono HB7.out.size))) (HS7.out.below b8) (by have := HN.out.2; omega)
    rw [decide_eq_true rfl] at hE
    have HE := hide hE
    have HB8 := hide (HB7.out.trans (b8.mono HB7.out.size))
    clear hE b8 HC7 HB7
    go_wp2_with fail
    refine HE.out.mono ?_
    rintro r w9 ⟨rfl, b9⟩
    have HB9 := hide (HB8.out.trans (b9.mono HB8.out.size))
    clear b9 HE
    go_wp2_with fail
    go_ret
    exact ⟨rfl, HB9.out⟩
  · obtain ⟨w6, hst, M6, b6, -⟩ := madeM w5 ⟨0, 0, 0, 0, 0, none, 0, 0⟩ g6 hg6
    have hl := run_ldM M6
    have HB6 := hide (HB5.out.trans (b6.mono HB5.out.size))
    have HE := hide (equal_zero w6)
    clear h M6 b6 HG b5
    go_wp2_with fail
    refine HE.out.mono ?_
    rintro r w7 ⟨rfl, b7⟩
    have HB7 := hide (HB6.out.trans (b7.mono HB6.out.size))
    clear b7 HE
    go_wp2_with fail
    go_ret
    exact ⟨rfl, HB7.out⟩
end Go.Proofs.Ytpnlfljndkfplaa
