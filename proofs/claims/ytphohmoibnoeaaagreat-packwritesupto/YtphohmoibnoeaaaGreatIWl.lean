/- PackWrites: the law. -/
import Derived.Test.YtphohmoibnoeaaaGreatIRr
import Derived.Test.YtphohmoibnoeaaaGreatPb40
namespace Go.Proofs.YtphohmoibnoeaaaGreat
open Go.RowKit
attribute [local go_sem ↓] ldP_eq stP_eq
attribute [local go_sem] zero_PC cells_PV PC_size cells_CsV CsC_size
variable {w w' w2 W W' : World} {g gv gr : Nat} {Z : List Int}

set_option maxRecDepth 100000 in
theorem packPutR_no (so : Option Addr) (sn sc : Nat) (L : List Rc) (w : World) (hS : RcS w so sn sc L) (hno : ¬ OkR L L.length) : Calls Tryz.prog 38 #[.slice so sn sc, .func (.func 39) #[] #[], .func (.func 40) #[] #[]] w fun e w' => e = .returned (.tuple #[.slice none 0 0, .int .i64 1]) ∧ Below w.heap.size w w' := by
 have HS := hide hS
 go_enter Tryz.func38, Tryz.ntmps38
 go_wp2_with fail
 refine (keepCheck_any so sn sc L _ HS.out).mono ?_
 rintro e w2 ⟨x, rfl, hx, b2⟩
 have HB2 := hide b2
 obtain rfl : x = 1 := by
  rw [hS.len] at hno
  rcases hx with ⟨-, h⟩ | ⟨e, -⟩
  ·exact absurd h hno
  ·exact e
 clear hx hno hS b2
 go_wp2_with fail
 go_ret2
 exact ⟨rfl, HB2.out⟩
theorem putRo_any (so : Option Addr) (sn sc : Nat) (L : List Rc) (w : World) (hS : RcS w so sn sc L) (hlen : OkR L L.length → (recB (plR L)).length ≤ 40000000000000) : Calls Tryz.prog 14 #[.slice so sn sc] w fun e w' => PutR w w' e L := by
 by_cases hok : OkR L L.length
 ·exact putR_any so sn sc L w hS (hlen hok)
 have HC := hide (packPutR_no so sn sc L w hS hok)
 have HN := hide hok
 clear hS hlen hok
 go_enter Tryz.func14, Tryz.ntmps14
 go_wp2_with fail
 refine HC.out.mono ?_
 rintro e w2 ⟨rfl, b2⟩
 have HB := hide b2
 clear b2
 go_wp2_with fail
 go_ret2
 exact .inl ⟨HN.out, rfl, HB.out⟩
structure WLc (w W : World) (G : Nat) (m : Cs) : Prop where
 box : CsBox W G m
 bel : Below w.heap.size w W
theorem WLc.below {G : Nat} {m : Cs} (h : WLc w W G m) (b : Below W.heap.size W W') : WLc w W' G m := ⟨h.box.below b, h.bel.trans (b.mono h.bel.size)⟩
def PutS (w w' : World) (e : Ending) (x : Int) (n : Nat) (Y : List Int) : Prop := ∃ bo cc, e = .returned (.tuple #[.slice bo n cc, .int .i64 x]) ∧ U.BS w' bo n cc Y ∧ Below w.heap.size w w'
theorem putA_s (P : Pst) : ∃ x n Y, ∀ w w' e, PutA w w' e P → PutS w w' e x n Y := by
 by_cases h : InForm P
 ·refine ⟨0, (pastB P).length, pastB P, fun w w' e hP => ?_⟩
  rcases hP with ⟨h1, -⟩ | ⟨-, bo, cc, rfl, h3, h4⟩
  ·exact absurd h h1
  ·exact ⟨bo, cc, rfl, h3.bs, h4.1⟩
 ·refine ⟨1, 0, [], fun w w' e hP => ?_⟩
  rcases hP with ⟨-, rfl, h3⟩ | ⟨h1, -⟩
  ·exact ⟨none, 0, rfl, U.BS.nil_ _, h3⟩
  ·exact absurd h1 h
theorem putE_s (L : List K.En) : ∃ x n Y, ∀ w w' e, PutE w w' e L → PutS w w' e x n Y := by
 by_cases h : K.okN L L.length = true
 ·refine ⟨0, (entsB L).length, entsB L, fun w w' e hP => ?_⟩
  rcases hP with ⟨h1, -⟩ | ⟨-, bo, cc, rfl, h3, h4⟩
  ·exact absurd h h1
  ·exact ⟨bo, cc, rfl, h3.bs, h4.1⟩
 ·refine ⟨1, 0, [], fun w w' e hP => ?_⟩
  rcases hP with ⟨-, rfl, h3⟩ | ⟨h1, -⟩
  ·exact ⟨none, 0, rfl, U.BS.nil_ _, h3⟩
  ·exact absurd h1 h
theorem putR_s (L : List Rc) : ∃ x n Y, ∀ w w' e, PutR w w' e L → PutS w w' e x n Y := by
 by_cases h : OkR L L.length
 ·refine ⟨0, (recsB (plR L)).length, recsB (plR L), fun w w' e hP => ?_⟩
  rcases hP with ⟨h1, -⟩ | ⟨-, bo, cc, rfl, h3, h4⟩
  ·exact absurd h h1
  ·exact ⟨bo, cc, rfl, h3.bs, h4.1⟩
 ·refine ⟨1, 0, [], fun w w' e hP => ?_⟩
  rcases hP with ⟨-, rfl, h3⟩ | ⟨h1, -⟩
  ·exact ⟨none, 0, rfl, U.BS.nil_ _, h3⟩
  ·exact absurd h1 h
set_option maxRecDepth 100000 in
set_option maxHeartbeats 8000000 in
theorem packWrites_any (m : Cs) (E F : List K.En) (R T : List Rc) (A B C : List Int) (w : World) (hS : CsS w m E F R T A B C) :
  Calls Tryz.prog 3 #[CsV m] w fun e w' => e = .returned (.bool true) ∧ Below w.heap.size w w' := by
 have HS := hide hS
 have HX := hide (CsBox_new w m)
 have HB := hide (below_new w (.cells (CsC m) 30))
 have HL : Hid (OkR R R.length → (recB (plR R)).length ≤ 40000000000000) := fun h => by have h1 := recsB_len (plR R); have h2 := hS.rl h; omega
 clear hS
 obtain ⟨xp, np, Yp, hPs⟩ := putA_s m.p.P
 obtain ⟨xe, ne, Ye, hEs⟩ := putE_s E
 obtain ⟨xr, nr, Yr, hRs⟩ := putR_s R
 have HPs := hide hPs
 have HEs := hide hEs
 have HRs := hide hRs
 clear hPs hEs hRs
 obtain ⟨wk, hwk⟩ : ∃ wk, w.alloc (.cells (CsC m) 30) = wk := ⟨_, rfl⟩
 obtain ⟨G, hG⟩ : ∃ G, w.heap.size = G := ⟨_, rfl⟩
 rw [hwk] at HX HB
 rw [hG] at HX
 go_enter Tryz.func3, Tryz.ntmps3
 go_wp2_with fail
 refine (fixed_any _).mono ?_
 rintro e w2 ⟨rfl, b2⟩
 have HK2 : Hid (WLc w w2 G m) := ⟨HX.out.below b2, HB.out.trans (b2.mono HB.out.size)⟩
 clear b2 HX HB hwk hG
 have l2 := run_ldP HK2.out.box.p
 go_wp2_with fail
 refine (putPast_any m.p w2 (HS.out.p.below HK2.out.bel)).mono ?_
 rintro e w3 h3
 obtain ⟨bo3, cc3, rfl, s3, b3⟩ := HPs.out _ _ _ h3
 have HK3 := hide (HK2.out.below b3)
 have HS3 := hide s3
 clear b3 s3 h3 HK2 l2
 have l3 := run_ldP HK3.out.box.p
 go_wp2_with fail
 refine (rputP9_any m.p w3 (HS.out.p.below HK3.out.bel)).mono ?_
 rintro e w4 h4
 obtain ⟨bo4, cc4, rfl, s4, b4⟩ := HPs.out _ _ _ h4
 have HK4 := hide (HK3.out.below b4)
 have HS3' := hide (HS3.out.below b4)
 have HS4 := hide s4
 clear b4 s4 h4 HK3 l3 HS3
 go_wp2_with fail
 refine (sameBytes_true bo3 bo4 np np cc3 cc4 Yp w4 HS3'.out HS4.out).mono ?_
 rintro e w5 ⟨rfl, rfl⟩
 rename World => w5
 have c5 := HK4.out.box.e
 clear HS3' HS4
 go_wp2_with fail
 refine (putE_any m.eo m.en m.ec E w5 (HS.out.e.below HK4.out.bel)).mono ?_
 rintro e w6 h6
 obtain ⟨bo6, cc6, rfl, s6, b6⟩ := HEs.out _ _ _ h6
 have HK6 := hide (HK4.out.below b6)
 have HS6 := hide s6
 clear b6 s6 h6 HK4 c5
 have c6 := HK6.out.box.e
 go_wp2_with fail
 refine (rputE9_any m.eo m.en m.ec E w6 (HS.out.e.below HK6.out.bel)).mono ?_
 rintro e w7 h7
 obtain ⟨bo7, cc7, rfl, s7, b7⟩ := HEs.out _ _ _ h7
 have HK7 := hide (HK6.out.below b7)
 have HS6' := hide (HS6.out.below b7)
 have HS7 := hide s7
 clear b7 s7 h7 HK6 c6 HS6
 go_wp2_with fail
 refine (sameBytes_true bo6 bo7 ne ne cc6 cc7 Ye w7 HS6'.out HS7.out).mono ?_
 rintro e w8 ⟨rfl, rfl⟩
 rename World => w8
 have c8 := HK7.out.box.r
 clear HS6' HS7
 go_wp2_with fail
 refine (putRo_any m.ro m.rn m.rc R w8 (HS.out.r.below HK7.out.bel) HL.out).mono ?_
 rintro e w9 h9
 obtain ⟨bo9, cc9, rfl, s9, b9⟩ := HRs.out _ _ _ h9
 have HK9 := hide (HK7.out.below b9)
 have HS9 := hide s9
 clear b9 s9 h9 HK7 c8
 have c9 := HK9.out.box.r
 go_wp2_with fail
 refine (rputR9_any m.ro m.rn m.rc R w9 (HS.out.r.below HK9.out.bel) HL.out).mono ?_
 rintro e wa ha
 obtain ⟨boa, cca, rfl, sa, ba⟩ := HRs.out _ _ _ ha
 have HKa := hide (HK9.out.below ba)
 have HS9' := hide (HS9.out.below ba)
 have HSa := hide sa
 clear ba sa ha HK9 c9 HS9
 go_wp2_with fail
 refine (sameBytes_true bo9 boa nr nr cc9 cca Yr wa HS9'.out HSa.out).mono ?_
 rintro e wb ⟨rfl, rfl⟩
 rename World => wb
 clear HS9' HSa
 go_wp2_with fail
 go_ret
 exact ⟨rfl, HKa.out.bel⟩
end Go.Proofs.YtphohmoibnoeaaaGreat
