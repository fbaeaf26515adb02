/- SpanChanges: the law's walk. -/
import Derived.Test.YtclmgkjmimondaaSRh
import Derived.Test.YtclmgkjmimondaaREq
namespace Go.Proofs.Ytclmgkjmimondaa
open Go.RowKit
attribute [local go_sem ↓] ldR_eq stR_eq
attribute [local go_sem] zero_RC cells_RV RC_size fold_RC build_RC

theorem givesP_in {w w' : World} {e : Ending} {x : Int} {P : List Rn → Prop} (h : GivesP w w' e x P) (hx : 1 ≤ x ∧ x ≤ 1000000000) : ∃ ao n c L, e = .returned (.tuple #[.slice ao n c, .int .i64 0]) ∧ RSrc w' ao n c L ∧ Below w.heap.size w w' ∧ P L := by
  rcases h with h | h
  · exact h.2
  · exact absurd hx h.1
theorem givesP_out {w w' : World} {e : Ending} {x : Int} {P : List Rn → Prop} (h : GivesP w w' e x P) (hx : ¬ (1 ≤ x ∧ x ≤ 1000000000)) : e = .returned (.tuple #[.slice none 0 0, .int .i64 2]) ∧ Below w.heap.size w w' := by
  rcases h with h | h
  · exact absurd h.1 hx
  · exact h.2
theorem givesQ_in {w w' : World} {e : Ending} {x : Int} {P : List Rn → Prop} (h : GivesQ w w' e x P) (hx : 1 ≤ x ∧ x ≤ 1000000000) : ∃ ao n c L, e = .returned (.tuple #[.slice ao n c, .int .i64 0]) ∧ RSrc w' ao n c L ∧ Below w.heap.size w w' ∧ P L := by
  unfold GivesQ at h; rwa [if_pos hx] at h
theorem givesQ_out {w w' : World} {e : Ending} {x : Int} {P : List Rn → Prop} (h : GivesQ w w' e x P) (hx : ¬ (1 ≤ x ∧ x ≤ 1000000000)) : e = .returned (.tuple #[.slice none 0 0, .int .i64 2]) ∧ Below w.heap.size w w' := by
  unfold GivesQ at h; rwa [if_neg hx] at h
theorem put7 : UnionOf [] [⟨7, 7⟩] [⟨7, 7⟩] := ⟨⟨by decide, by decide, by decide, trivial⟩, fun n => ⟨Or.inr, fun h => h.elim (fun h => absurd h (mem_nil n)) id⟩⟩
set_option maxRecDepth 100000 in
set_option maxHeartbeats 4000000 in
theorem changes_any (ao : Option Addr) (n cap : Nat) (A : List Rn) (x : Int) (w : World) (hS : RSrc w ao n cap A) (hn : n ≤ 1048576) :
    Calls Try.prog 7 #[.slice ao n cap, .int .i64 x] w fun e w' => e = .returned (.bool true) ∧ Below w.heap.size w w' := by
  have HS := hide hS
  clear hS
  go_enter Try.func7, Try.ntmps7
  have HB0 : Hid (Below w.heap.size w w) := Below.refl _ _
  by_cases hx : 1 ≤ x ∧ x ≤ 1000000000
  · go_wp2_with fail
    refine (put_any none 0 0 [] 7 _ (RSrc.empty _) (by omega)).mono ?_
    rintro e w1 h1
    obtain ⟨a1, n1, c1, X1, rfl, S1, b1, p1⟩ := givesP_in h1 (by omega)
    obtain rfl := p1.unique put7
    obtain rfl : n1 = 1 := S1.len.symm
    obtain ⟨ad, rfl, _⟩ := S1.at 0 (by omega)
    obtain ⟨b, o, rfl⟩ := S1.spot (by omega)
    obtain ⟨q0, q1⟩ := S1.nums 0 (by omega)
    have k0 : w1.cell? ⟨b, o, none⟩ = some (.int .i64 7) := by simpa using q0
    have k1 : w1.cell? ⟨b, o + 1, none⟩ = some (.int .i64 7) := by simpa using q1
    have HB1 := hide (HB0.out.trans (b1.mono HB0.out.size))
    clear S1 b1 p1 q0 q1 h1 HB0
    go_wp2_with fail
    refine (refPut_any ao n cap A x _ (HS.out.below HB1.out) hn).mono ?_
    rintro e w2 h2
    obtain ⟨a2, n2, c2, X2, rfl, S2, b2, p2⟩ := givesQ_in h2 hx
    have HB2 := hide (HB1.out.trans (b2.mono HB1.out.size))
    have HX2 := hide S2
    have HP2 := hide p2
    clear b2 HB1 S2 p2 h2 k0 k1
    go_wp2_with fail
    refine (refDrop_any ao n cap A x _ (HS.out.below HB2.out) hn).mono ?_
    rintro e w3 h3
    obtain ⟨a3, n3, c3, X3, rfl, S3, b3, p3⟩ := givesQ_in h3 hx
    replace HX2 := hide (HX2.out.below b3)
    have HB3 := hide (HB2.out.trans (b3.mono HB2.out.size))
    have HX3 := hide S3
    have HP3 := hide p3
    clear b3 HB2 S3 p3 h3
    go_wp2_with fail
    refine (put_any ao n cap A x _ (HS.out.below HB3.out) (by omega)).mono ?_
    rintro e w4 h4
    obtain ⟨a4, n4, c4, X4, rfl, S4, b4, p4⟩ := givesP_in h4 hx
    replace HX2 := hide (HX2.out.below b4)
    replace HX3 := hide (HX3.out.below b4)
    have HB4 := hide (HB3.out.trans (b4.mono HB3.out.size))
    have HX4 := hide S4
    have HP4 := hide p4
    clear b4 HB3 S4 p4 h4
    have HE4 : Hid (X4 = X2) := HP4.out.unique HP2.out
    go_wp2_with fail
    refine (equal_any a4 a2 n4 c4 n2 c2 X4 X2 _ HX4.out HX2.out).mono ?_
    rintro e w5 ⟨rfl, b5⟩
    replace HX2 := hide (HX2.out.below b5)
    replace HX3 := hide (HX3.out.below b5)
    replace HX4 := hide (HX4.out.below b5)
    have HB5 := hide (HB4.out.trans (b5.mono HB4.out.size))
    rw [decide_eq_true HE4.out]
    clear b5 HB4
    go_wp2_with fail
    refine (drop_any ao n cap A x _ (HS.out.below HB5.out)).mono ?_
    rintro e w6 h6
    obtain ⟨a6, n6, c6, X6, rfl, S6, b6, p6⟩ := givesP_in h6 hx
    replace HX2 := hide (HX2.out.below b6)
    replace HX3 := hide (HX3.out.below b6)
    replace HX4 := hide (HX4.out.below b6)
    have HB6 := hide (HB5.out.trans (b6.mono HB5.out.size))
    have HX6 := hide S6
    have HP6 := hide p6
    clear b6 HB5 S6 p6 h6
    have HE6 : Hid (X6 = X3) := HP6.out.unique HP3.out
    go_wp2_with fail
    refine (equal_any a6 a3 n6 c6 n3 c3 X6 X3 _ HX6.out HX3.out).mono ?_
    rintro e w7 ⟨rfl, b7⟩
    replace HX2 := hide (HX2.out.below b7)
    replace HX3 := hide (HX3.out.below b7)
    replace HX4 := hide (HX4.out.below b7)
    replace HX6 := hide (HX6.out.below b7)
    have HB7 := hide (HB6.out.trans (b7.mono HB6.out.size))
    rw [decide_eq_true HE6.out]
    clear b7 HB6
    go_wp2_with fail
    go_ret
    exact ⟨rfl, HB7.out⟩
  · go_wp2_with fail
    refine (put_any none 0 0 [] 7 _ (RSrc.empty _) (by omega)).mono ?_
    rintro e w1 h1
    obtain ⟨a1, n1, c1, X1, rfl, S1, b1, p1⟩ := givesP_in h1 (by omega)
    obtain rfl := p1.unique put7
    obtain rfl : n1 = 1 := S1.len.symm
    obtain ⟨ad, rfl, _⟩ := S1.at 0 (by omega)
    obtain ⟨b, o, rfl⟩ := S1.spot (by omega)
    obtain ⟨q0, q1⟩ := S1.nums 0 (by omega)
    have k0 : w1.cell? ⟨b, o, none⟩ = some (.int .i64 7) := by simpa using q0
    have k1 : w1.cell? ⟨b, o + 1, none⟩ = some (.int .i64 7) := by simpa using q1
    have HB1 := hide (HB0.out.trans (b1.mono HB0.out.size))
    clear S1 b1 p1 q0 q1 h1 HB0
    go_wp2_with fail
    refine (refPut_any ao n cap A x _ (HS.out.below HB1.out) hn).mono ?_
    rintro e w2 h2
    obtain ⟨rfl, b2⟩ := givesQ_out h2 hx
    have HB2 := hide (HB1.out.trans (b2.mono HB1.out.size))
    clear b2 HB1 h2 k0 k1
    go_wp2_with fail
    refine (refDrop_any ao n cap A x _ (HS.out.below HB2.out) hn).mono ?_
    rintro e w3 h3
    obtain ⟨rfl, b3⟩ := givesQ_out h3 hx
    have HB3 := hide (HB2.out.trans (b3.mono HB2.out.size))
    clear b3 HB2 h3
    go_wp2_with fail
    refine (put_any ao n cap A x _ (HS.out.below HB3.out) (by omega)).mono ?_
    rintro e w4 h4
    obtain ⟨rfl, b4⟩ := givesP_out h4 hx
    have HB4 := hide (HB3.out.trans (b4.mono HB3.out.size))
    clear b4 HB3 h4
    go_wp2_with fail
    refine (equal_any none none 0 0 0 0 [] [] _ (RSrc.empty _) (RSrc.empty _)).mono ?_
    rintro e w5 ⟨rfl, b5⟩
    have HB5 := hide (HB4.out.trans (b5.mono HB4.out.size))
    rw [decide_eq_true (rfl : ([] : List Rn) = [])]
    clear b5 HB4
    go_wp2_with fail
    refine (drop_any ao n cap A x _ (HS.out.below HB5.out)).mono ?_
    rintro e w6 h6
    obtain ⟨rfl, b6⟩ := givesP_out h6 hx
    have HB6 := hide (HB5.out.trans (b6.mono HB5.out.size))
    clear b6 HB5 h6
    go_wp2_with fail
    refine (equal_any none none 0 0 0 0 [] [] _ (RSrc.empty _) (RSrc.empty _)).mono ?_
    rintro e w7 ⟨rfl, b7⟩
    have HB7 := hide (HB6.out.trans (b7.mono HB6.out.size))
    rw [decide_eq_true (rfl : ([] : List Rn) = [])]
    clear b7 HB6
    go_wp2_with fail
    go_ret
    exact ⟨rfl, HB7.out⟩
end Go.Proofs.Ytclmgkjmimondaa
