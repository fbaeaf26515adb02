/- MailPuts: the law. -/
import Derived.Test.YtcpaaegbjcbnaaaNSz
import Derived.Test.YtcpaaegbjcbnaaaNRp
namespace Go.Proofs.Ytcpaaegbjcbnaaa
open Go.RowKit
attribute [local go_sem ↓] ldP_eq stP_eq ldM_eq stM_eq mkP_eq
attribute [local go_sem] to_MC MC_s0 MC_s1 MC_s2 MC_s3 MC_s4 MC_s5

theorem srcNil (w : World) : Src w none 0 0 [] := ⟨rfl, fun _ => ⟨rfl, rfl⟩, fun ad h => (by cases h), fun t => by simp⟩
set_option maxRecDepth 100000 in
set_option maxHeartbeats 8000000 in
theorem mailPuts_any (a b c d e : Int) (po : Option Addr) (pn pc : Nat) (X : List Pt) (Y : List (List Int)) (w : World) (A : MA w a b c d e po pn pc X Y) :
    Calls Try.prog 3 #[MV ⟨a, b, c, d, e, po, pn, pc⟩] w fun r w' => r = .returned (.bool true) ∧ Below w.heap.size w w' := by
  obtain ⟨w1, hw1⟩ : ∃ w1, w.alloc (.cells (MC ⟨a, b, c, d, e, po, pn, pc⟩) 24) = w1 := ⟨_, rfl⟩
  obtain ⟨g2, hg2⟩ : ∃ g2, w.heap.size = g2 := ⟨_, rfl⟩
  have X2 := bx_new w ⟨a, b, c, d, e, po, pn, pc⟩ hw1 hg2
  have HB : Hid (Below w.heap.size w w1) := X2.bel
  have HM := hide X2.box
  have HA := hide (A.below X2.bel)
  have HC := hide (awake_any w1)
  clear X2 A
  go_enter Try.func3, Try.ntmps3
  go_wp2_with fail
  refine HC.out.mono ?_
  rintro r w3 ⟨rfl, b3⟩
  have HB3 := hide b3
  have hl3 := run_ldM (HM.out.below b3)
  clear b3 HC
  rcases (show ckE ⟨a, b, c, d, e, po, pn, pc⟩ X = 0 ∨ ckE ⟨a, b, c, d, e, po, pn, pc⟩ X = 1 by unfold ckE; split <;> simp) with hc | hc
  · have HP := hide (rput_ok a b c d e po pn pc X Y w3 (HA.out.below HB3.out) hc)
    have HCa := hide hc
    clear hc
    go_wp2_with fail
    refine HP.out.mono ?_
    rintro r w4 ⟨bo, n, bc, rfl, B4, N4⟩
    have HB4 := hide (HB3.out.trans (N4.1.mono HB3.out.size))
    have hl4 := run_ldM (HM.out.below HB4.out)
    have HS4 := hide (B4.srcO HA.out.oc)
    have HP4 := hide ((HA.out.below HB4.out).put HCa.out)
    clear B4 N4 HP hl3 HB3
    go_wp2_with fail
    refine HP4.out.mono ?_
    rintro r w5 ⟨bo5, n5, bc5, rfl, B5, N5⟩
    have HB5 := hide (HB4.out.trans (N5.1.mono HB4.out.size))
    have HS5 := hide (HS4.out.below N5.1)
    have hE := eqB_any bo5 bo n5 bc5 n bc _ _ w5 (B5.srcO HA.out.oc) HS5.out (by have h1 := HA.out.len HCa.out; have h2 := B5.len; omega)
    rw [decide_eq_true rfl] at hE
    have HE := hide hE
    clear hE B5 N5 HP4 hl4 HB4 HS4
    go_wp2_with fail
    refine HE.out.mono ?_
    rintro r w6 ⟨rfl, b6⟩
    have HB6 := hide (HB5.out.trans (b6.mono HB5.out.size))
    have hl6 := run_ldM (HM.out.below HB6.out)
    have hSz := msize_ok a b c d e po pn pc X Y w6 (HA.out.below HB6.out) HCa.out
    rw [HS5.out.1] at hSz
    have HSz := hide hSz
    clear hSz b6 HE HB5
    go_wp2_with fail
    refine HSz.out.mono ?_
    rintro r w7 ⟨rfl, b7⟩
    have HE7 := hide (HB.out.trans ((HB6.out.trans (b7.mono HB6.out.size)).mono HB.out.size))
    clear b7 HSz hl6
    go_wp2_with fail
    go_ret
    exact ⟨rfl, by first | exact HE7.out | (have := HE7.out; rw [hg2] at this; exact this)⟩
  · have HP := hide (rput_bad a b c d e po pn pc X w3 (HA.out.below HB3.out).s hc)
    have HCa := hide hc
    clear hc
    go_wp2_with fail
    refine HP.out.mono ?_
    rintro r w4 ⟨rfl, b4⟩
    have HB4 := hide (HB3.out.trans (b4.mono HB3.out.size))
    have hl4 := run_ldM (HM.out.below HB4.out)
    have HP4 := hide (put_bad a b c d e po pn pc X w4 (HA.out.below HB4.out).s HA.out.hi HCa.out)
    clear b4 HP hl3 HB3
    go_wp2_with fail
    refine HP4.out.mono ?_
    rintro r w5 ⟨rfl, b5⟩
    have HB5 := hide (HB4.out.trans (b5.mono HB4.out.size))
    have hE := eqB_any none none 0 0 0 0 [] [] w5 (srcNil w5) (srcNil w5) (Nat.zero_le _)
    rw [decide_eq_true rfl] at hE
    have HE := hide hE
    clear hE b5 HP4 hl4 HB4
    go_wp2_with fail
    refine HE.out.mono ?_
    rintro r w6 ⟨rfl, b6⟩
    have HB6 := hide (HB5.out.trans (b6.mono HB5.out.size))
    have hl6 := run_ldM (HM.out.below HB6.out)
    have HSz := hide (msize_bad a b c d e po pn pc X w6 (HA.out.below HB6.out).s HA.out.hi HCa.out)
    clear b6 HE HB5
    go_wp2_with fail
    refine HSz.out.mono ?_
    rintro r w7 ⟨rfl, b7⟩
    have HE7 := hide (HB.out.trans ((HB6.out.trans (b7.mono HB6.out.size)).mono HB.out.size))
    clear b7 HSz hl6
    go_wp2_with fail
    go_ret
    exact ⟨rfl, by first | exact HE7.out | (have := HE7.out; rw [hg2] at this; exact this)⟩
end Go.Proofs.Ytcpaaegbjcbnaaa
