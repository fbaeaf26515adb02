/- LinesReads: the law's walk. -/
import Derived.Test.YtmhdhedjeaaciaaLRl
import Derived.Test.YtmhdhedjeaaciaaLRn
namespace Go.Proofs.Ytmhdhedjeaaciaa
open Go.RowKit
attribute [local go_sem ↓] ldL_eq stL_eq run_eqL
attribute [local go_sem] zero_LC cells_LV LC_size

set_option maxRecDepth 100000 in
set_option maxHeartbeats 8000000 in
theorem reads_any (ao : Option Addr) (n cap : Nat) (L : List En) (s : ByteArray) (w : World) (hS : ESrc w ao n cap L) (hs : s.size ≤ maxLen) :
    Calls Try.prog 3 #[.slice ao n cap, .string s] w fun y w' => y = .returned (.bool true) ∧ Below w.heap.size w w' := by
  have HS := hide hS
  have HSS := hide hs
  clear hS hs
  go_enter Try.func3, Try.ntmps3
  go_wp2_with fail
  refine (awake_any _).mono ?_
  rintro y w1 ⟨rfl, b1⟩
  have B1 := hide b1
  clear b1
  go_wp2_with fail
  refine (refLines_any ao n cap L _ (HS.out.below B1.out)).mono ?_
  rintro y w2 ⟨a2, n2, c2, R, er, rfl, S2, b2, f2, t2⟩
  have HS2 := hide S2
  have HT2 := hide t2
  have B2 := hide (B1.out.trans (b2.mono B1.out.size))
  clear S2 b2 f2 t2 B1
  go_wp2_with fail
  refine (refLine_any ao n cap L s _ (HS.out.below B2.out) HSS.out).mono ?_
  rintro y w3 ⟨rfl, b3⟩
  obtain ⟨l, Hl⟩ : ∃ l, Hid (lnV L s = l) := ⟨_, rfl⟩
  obtain ⟨eo, Heo⟩ : ∃ eo, Hid (ofE L s = eo) := ⟨_, rfl⟩
  rw [Hl.out, Heo.out]
  obtain ⟨w4, hst4, X4, B4, Z4⟩ := madeL w3 l w3.heap.size rfl
  have HX4 := hide X4
  have HS4 := hide ((HS2.out.below b3).below B4)
  have BB4 := hide ((B2.out.trans (b3.mono B2.out.size)).trans (B4.mono (Nat.le_trans B2.out.size b3.size)))
  clear X4 B4 Z4 b3 HS2 B2
  go_wp2_with fail
  clear hst4
  refine (refTotal_any ao n cap L _ (HS.out.below BB4.out)).mono ?_
  rintro y w5 ⟨rfl, b5⟩
  obtain ⟨tv, Htv⟩ : ∃ tv, Hid (totV L = tv) := ⟨_, rfl⟩
  obtain ⟨ck, Hck⟩ : ∃ ck, Hid (chk L = ck) := ⟨_, rfl⟩
  rw [Htv.out, Hck.out]
  have HX5 := hide (HX4.out.below b5)
  have HS5 := hide (HS4.out.below b5)
  have BB5 := hide (BB4.out.trans (b5.mono BB4.out.size))
  clear b5 HX4 HS4 BB4
  go_wp2_with fail
  refine (lines_any ao n cap L _ (HS.out.below BB5.out)).mono ?_
  rintro y w6 ⟨a6, n6, c6, R6, er6, rfl, S6, b6, f6, t6⟩
  obtain ⟨hR, hE⟩ := t6.unique HT2.out
  subst hE
  have HRR := hide hR
  have HS6 := hide S6
  have HX6 := hide (HX5.out.below b6)
  have HS6' := hide (HS5.out.below b6)
  have BB6 := hide (BB5.out.trans (b6.mono BB5.out.size))
  have hee : (er6 != er6) = false := by simp
  clear S6 b6 f6 t6 hR HX5 HS5 BB5
  go_wp2_with fail
  refine (sameLines_any a6 a2 n6 c6 n2 c2 _ _ _ HS6.out HS6'.out HRR.out).mono ?_
  rintro y w7 ⟨rfl, b7⟩
  have HX7 := hide (HX6.out.below b7)
  have BB7 := hide (BB6.out.trans (b7.mono BB6.out.size))
  clear b7 HX6 HS6 HS6' BB6
  go_wp2_with fail
  refine (line_any ao n cap L s _ (HS.out.below BB7.out) HSS.out).mono ?_
  rintro y w8 ⟨rfl, b8⟩
  rw [Hl.out, Heo.out]
  obtain ⟨w9, hst9, X9, B9, Z9⟩ := madeL w8 l w8.heap.size rfl
  have l9 := run_ldL X9.at
  have l7 := run_ldL ((HX7.out.below b8).below B9).at
  have BB9 := hide ((BB7.out.trans (b8.mono BB7.out.size)).trans (B9.mono (Nat.le_trans BB7.out.size b8.size)))
  have hoo : (eo != eo) = false := by simp
  have hll := eqL_self l
  clear X9 B9 Z9 b8 HX7 BB7
  go_wp2_with fail
  refine (total_any ao n cap L _ (HS.out.below BB9.out)).mono ?_
  rintro y w10 ⟨rfl, b10⟩
  rw [Htv.out, Hck.out]
  have BB10 := hide (BB9.out.trans (b10.mono BB9.out.size))
  have hcc : (ck == ck) = true := by simp
  have htt : (tv == tv) = true := by simp
  clear b10 BB9 hst9 l9 l7
  go_wp2_with fail
  go_ret
  exact ⟨rfl, BB10.out⟩
end Go.Proofs.Ytmhdhedjeaaciaa
