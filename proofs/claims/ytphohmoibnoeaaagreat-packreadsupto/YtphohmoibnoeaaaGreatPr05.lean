/- IRl IVr -/
import Derived.Test.YtphohmoibnoeaaaGreatPr04
import Derived.Test.YtphohmoibnoeaaaGreatPb40
import Derived.Test.YtphohmoibnoeaaaGreatPb42
namespace Go.Proofs.YtphohmoibnoeaaaGreat
open Go.RowKit
attribute [local go_sem ↓] ldP_eq stP_eq
attribute [local go_sem] zero_PC cells_PV PC_size cells_CsV CsC_size
variable {w w' w2 W W' : World} {g gv gr : Nat} {Z : List Int}

theorem gpA_s (Z : List Int) : ∃ x P, ∀ w w' e, GpA w w' Z e → ∃ p, e = .returned (.tuple #[PV p, .int .i64 x]) ∧ PSrc w' p ∧ p.P = P ∧ Below w.heap.size w w' := by
 by_cases h : ∃ P, InForm P ∧ Z = pastB P
 ·obtain ⟨P, hP, hZ⟩ := h
  refine ⟨0, P, fun w w' e hg => ?_⟩
  rcases hg with ⟨b, ⟨p, h1, h2, rfl, h4⟩ | ⟨hno, -⟩⟩
  ·refine ⟨p, rfl, h4.src, ?_, b⟩
   have e1 := rdPast_to hP []
   have e2 := rdPast_to h1 []
   rw [← hZ, h2, e2] at e1
   exact congrArg Prod.fst (Option.some.inj e1)
  ·exact absurd hZ (hno P hP)
 ·refine ⟨8, pv0.P, fun w w' e hg => ?_⟩
  rcases hg with ⟨b, ⟨p, h1, h2, -⟩ | ⟨-, rfl⟩⟩
  ·exact absurd ⟨_, h1, h2⟩ h
  ·exact ⟨pv0, rfl, PSrc.zero _, rfl, b⟩
theorem gpE_s (Z : List Int) : ∃ x n L, ∀ w w' e, GpE w w' Z e → ∃ bo cc, e = .returned (.tuple #[.slice bo n cc, .int .i64 x]) ∧ K.ESrc w' bo n cc L ∧ Below w.heap.size w w' := by
 by_cases h : ∃ L, K.okN L L.length = true ∧ Z = entsB L
 ·obtain ⟨L, hL, hZ⟩ := h
  refine ⟨0, L.length, L, fun w w' e hg => ?_⟩
  rcases hg with ⟨b, ⟨L', bo, cc, h1, h2, rfl, h4⟩ | ⟨hno, -⟩⟩
  ·obtain rfl : L' = L := entsB_inj h1 hL (h2.symm.trans hZ)
   exact ⟨bo, cc, rfl, h4.src, b⟩
  ·exact absurd hZ (hno L hL)
 ·refine ⟨8, 0, [], fun w w' e hg => ?_⟩
  rcases hg with ⟨b, ⟨L', bo, cc, h1, h2, -⟩ | ⟨-, rfl⟩⟩
  ·exact absurd ⟨_, h1, h2⟩ h
  ·exact ⟨none, 0, rfl, esrc_nil _, b⟩
theorem rcs_nil (w : World) : RcS w none 0 0 [] := ⟨rfl, fun _ => rfl, (fun ad h => by cases h), (fun e h => by cases h), by decide⟩
theorem gpR_s (Z : List Int) : ∃ x n X, ∀ w w' e, GpR w w' Z e → ∃ L bo cc, e = .returned (.tuple #[.slice bo n cc, .int .i64 x]) ∧ RcS w' bo n cc L ∧ plR L = X ∧ Below w.heap.size w w' := by
 by_cases h : ∃ L : List Rc, (OkR L L.length ∧ L.length ≤ 9223372036854775807) ∧ Z = recsB (plR L)
 ·obtain ⟨L, hL, hZ⟩ := h
  refine ⟨0, L.length, plR L, fun w w' e hg => ?_⟩
  rcases hg with ⟨b, ⟨L', bo, cc, h1, h2, rfl, h4⟩ | ⟨hno, -⟩⟩
  ·have e := recsB_inj h1 hL.1 (by have := h4.big; omega) hL.2 (h2.symm.trans hZ)
   have el : L'.length = L.length := by rw [← plR_len L', e, plR_len]
   have hs := h4.src
   rw [el] at hs ⊢
   exact ⟨L', bo, cc, rfl, hs, e, b⟩
  ·exact absurd hZ (hno L hL)
 ·refine ⟨8, 0, [], fun w w' e hg => ?_⟩
  rcases hg with ⟨b, ⟨L', bo, cc, h1, h2, -, h4⟩ | ⟨-, rfl⟩⟩
  ·exact absurd ⟨_, ⟨h1, by have := h4.big; omega⟩, h2⟩ h
  ·exact ⟨[], none, 0, rfl, rcs_nil _, rfl, b⟩
set_option maxRecDepth 100000 in
set_option maxHeartbeats 8000000 in
theorem reads_any (ao : Option Addr) (n c : Nat) (Z : List Int) (w : World) (S : U.Src w ao n c Z) (hcap : n ≤ c) (hz : n ≤ 4000000000) : Calls Tryz.prog 16 #[.slice ao n c] w fun e w' => e = .returned (.bool true) ∧ Below w.heap.size w w' := by
 have HS := hide S
 have HC : Hid (n ≤ c ∧ n ≤ 4000000000) := ⟨hcap, hz⟩
 obtain ⟨xp, P, hPs⟩ := gpA_s Z
 obtain ⟨xe, ne, L, hEs⟩ := gpE_s Z
 obtain ⟨xr, nr, X, hRs⟩ := gpR_s Z
 have HPs := hide hPs
 have HEs := hide hEs
 have HRs := hide hRs
 clear hPs hEs hRs S hcap hz
 go_enter Tryz.func16, Tryz.ntmps16
 go_wp2_with fail
 refine (getPast_any ao n c Z w HS.out HC.out.1 (by have := HC.out; omega)).mono ?_
 rintro e w1 h1
 obtain ⟨p, rfl, sp, hp, b1⟩ := HPs.out _ _ _ h1
 obtain ⟨g1, hg1⟩ : ∃ g1, w1.heap.size = g1 := ⟨_, rfl⟩
 obtain ⟨w2, hst2, B2, b2, s2⟩ := madeP w1 p g1 hg1
 have HB2 := hide (b1.trans (b2.mono b1.size))
 have HX2 := hide B2
 have HSp := hide (sp.below b2)
 have HPe := hide hp
 clear h1 sp hp b1 B2 b2 s2
 go_wp2_with fail
 clear hst2 hg1
 refine (rgetP9_any ao n c Z w2 (HS.out.below HB2.out) HC.out.1 HC.out.2).mono ?_
 rintro e w3 h3
 obtain ⟨q, rfl, sq, hq, b3⟩ := HPs.out _ _ _ h3
 obtain ⟨g3, hg3⟩ : ∃ g3, w3.heap.size = g3 := ⟨_, rfl⟩
 obtain ⟨w4, hst4, B4, b4, s4⟩ := madeP w3 q g3 hg3
 have b34 := b3.trans (b4.mono b3.size)
 have HB4 := hide (HB2.out.trans (b34.mono HB2.out.size))
 have l4 := run_ldP (HX2.out.below b34).at
 have l5 := run_ldP B4.at
 have HSp4 := hide (HSp.out.below b34)
 have HSq4 := hide (sq.below b4)
 have HQe := hide hq
 clear h3 sq hq b3 B4 b4 s4 b34 HB2 HX2 HSp
 go_wp2_with fail
 clear hst4 hg3
 refine (samePast_any p q w4 HSp4.out HSq4.out).mono ?_
 rintro e w5 ⟨x, rfl, hx, b5⟩
 obtain rfl : x = true := hx.2 (HPe.out.trans HQe.out.symm)
 have HB5 := hide (HB4.out.trans (b5.mono HB4.out.size))
 clear hx b5 l4 l5 HSp4 HSq4 HB4
 go_wp2_with fail
 refine (getE_any ao n c Z w5 (HS.out.below HB5.out) HC.out.1 (by have := HC.out; omega)).mono ?_
 rintro e w6 h6
 obtain ⟨bo6, cc6, rfl, s6, b6⟩ := HEs.out _ _ _ h6
 have HB6 := hide (HB5.out.trans (b6.mono HB5.out.size))
 have HS6 := hide s6
 clear h6 s6 b6 HB5
 go_wp2_with fail
 refine (rgetE9_any ao n c Z w6 (HS.out.below HB6.out) HC.out.1 HC.out.2).mono ?_
 rintro e w7 h7
 obtain ⟨bo7, cc7, rfl, s7, b7⟩ := HEs.out _ _ _ h7
 have HB7 := hide (HB6.out.trans (b7.mono HB6.out.size))
 have HS67 := hide (HS6.out.below b7)
 have HS7 := hide s7
 clear h7 s7 b7 HB6 HS6
 go_wp2_with fail
 refine (sameEntries_any bo6 bo7 ne ne cc6 cc7 L L w7 HS67.out HS7.out).mono ?_
 rintro e w8 ⟨x, rfl, hx, b8⟩
 obtain rfl : x = true := hx.2 rfl
 have HB8 := hide (HB7.out.trans (b8.mono HB7.out.size))
 clear hx b8 HS67 HS7 HB7
 go_wp2_with fail
 refine (getR_any ao n c Z w8 (HS.out.below HB8.out) HC.out.1 (by have := HC.out; omega) (by have := HC.out; omega)).mono ?_
 rintro e w9 h9
 obtain ⟨L9, bo9, cc9, rfl, s9, e9, b9⟩ := HRs.out _ _ _ h9
 have HB9 := hide (HB8.out.trans (b9.mono HB8.out.size))
 have HS9 := hide s9
 have HE9 := hide e9
 clear h9 s9 b9 HB8 e9
 go_wp2_with fail
 refine (rgetR9_any ao n c Z w9 (HS.out.below HB9.out) HC.out.1 HC.out.2).mono ?_
 rintro e wa ha
 obtain ⟨La, boa, cca, rfl, sa, ea, ba⟩ := HRs.out _ _ _ ha
 have HBa := hide (HB9.out.trans (ba.mono HB9.out.size))
 have HS9a := hide (HS9.out.below ba)
 have HSa := hide sa
 have HEa := hide ea
 clear ha sa ba HB9 HS9 ea
 go_wp2_with fail
 refine (sameRecords_any bo9 boa nr nr cc9 cca L9 La wa HS9a.out HSa.out).mono ?_
 rintro e wb ⟨x, rfl, hx, bb⟩
 obtain rfl : x = true := hx.2 (HE9.out.trans HEa.out.symm)
 have HBb := hide (HBa.out.trans (bb.mono HBa.out.size))
 clear hx bb HS9a HSa HBa
 go_wp2_with fail
 go_ret
 exact ⟨rfl, HBb.out⟩
structure RDc (w W : World) (G : Nat) (m : Cs) : Prop where
 box : CsBox W G m
 bel : Below w.heap.size w W
theorem RDc.below {G : Nat} {m : Cs} (h : RDc w W G m) (b : Below W.heap.size W W') : RDc w W' G m := ⟨h.box.below b, h.bel.trans (b.mono h.bel.size)⟩
set_option maxRecDepth 100000 in
set_option maxHeartbeats 8000000 in
theorem packReads_any (m : Cs) (E F : List K.En) (R T : List Rc) (A B C : List Int) (w : World) (hS : CsS w m E F R T A B C) (hl : m.an ≤ 4000000000 ∧ m.bn ≤ 4000000000 ∧ m.cn ≤ 4000000000) :
  Calls Tryz.prog 4 #[CsV m] w fun e w' => e = .returned (.bool true) ∧ Below w.heap.size w w' := by
 have HS := hide hS
 have HL := hide hl
 have HX := hide (CsBox_new w m)
 have HB := hide (below_new w (.cells (CsC m) 30))
 clear hS hl
 obtain ⟨wk, hwk⟩ : ∃ wk, w.alloc (.cells (CsC m) 30) = wk := ⟨_, rfl⟩
 obtain ⟨G, hG⟩ : ∃ G, w.heap.size = G := ⟨_, rfl⟩
 rw [hwk] at HX HB
 rw [hG] at HX
 go_enter Tryz.func4, Tryz.ntmps4
 go_wp2_with fail
 refine (fixed_any _).mono ?_
 rintro e w2 ⟨rfl, b2⟩
 have HK2 : Hid (RDc w w2 G m) := ⟨HX.out.below b2, HB.out.trans (b2.mono HB.out.size)⟩
 clear b2 HX HB hwk hG
 have c2 := HK2.out.box.a
 go_wp2_with fail
 refine (reads_any m.ao m.an m.ac A w2 (HS.out.a.1.below HK2.out.bel) HS.out.a.2.1 HL.out.1).mono ?_
 rintro e w3 ⟨rfl, b3⟩
 have HK3 := hide (HK2.out.below b3)
 clear b3 HK2 c2
 have c3 := HK3.out.box.b
 go_wp2_with fail
 refine (reads_any m.bo m.bn m.bc B w3 (HS.out.b.1.below HK3.out.bel) HS.out.b.2.1 HL.out.2.1).mono ?_
 rintro e w4 ⟨rfl, b4⟩
 have HK4 := hide (HK3.out.below b4)
 clear b4 HK3 c3
 have c4 := HK4.out.box.c
 go_wp2_with fail
 refine (reads_any m.co m.cn m.cc C w4 (HS.out.c.1.below HK4.out.bel) HS.out.c.2.1 HL.out.2.2).mono ?_
 rintro e w5 ⟨rfl, b5⟩
 have HK5 := hide (HK4.out.below b5)
 clear b5 HK4 c4
 go_wp2_with fail
 go_ret
 exact ⟨rfl, HK5.out.bel⟩
end Go.Proofs.YtphohmoibnoeaaaGreat
namespace Go.Proofs.YtphohmoibnoeaaaGreat
open Go.ChangeShapes Go.WideShapes Go.ChangeAt Go.RowKit Go.Joins

theorem viewBn {H : Type} {enc : TypeId × Value → H} {W : World} {fuel : Nat} {ao : Option Addr} {n cap : Nat} {x : DataW H × List MemPlace}
  (h : DataW.trod enc Tryz.prog W 0 (fun _ => true) true fuel 28 [.slice ao n cap] = some x) (hw : Rows.uptoBulk x.1 ≤ 1048576) : n ≤ 4000000000 := by
 rcases DataW.trod_slice Tryz.underlying28 h with h0 | ⟨a, len, cap', elems, rest, n', _, hcs, hx, hb, hl, hm, hlen, hel, hsp, hns⟩
 ·have e : Value.slice ao n cap = .slice none 0 0 := by simpa using h0.1
  simp only [Value.slice.injEq] at e
  omega
 ·subst hx
  have e : Value.slice ao n cap = .slice (some a) len cap' := by simpa using hcs
  simp only [Rows.uptoBulk] at hw
  have h1 := bulk_len (elems.map (·.1))
  simp only [List.length_map] at h1
  simp only [Value.slice.injEq] at e
  omega
theorem open_case9 {H : Type} {enc : TypeId × Value → H} {W : World} {fuel : Nat} {cs : List Value} {x : DataW H × List MemPlace}
  (h : DataW.trod enc Tryz.prog W 0 (fun _ => true) true fuel 30 cs = some x) (hw : Rows.uptoBulk x.1 ≤ 1048576) : ∃ (m : Cs) (E F : List K.En) (R T : List Rc) (A B C : List Int), cs = (CsC m).toList ∧ CsS W m E F R T A B C ∧ (m.an ≤ 4000000000 ∧ m.bn ≤ 4000000000 ∧ m.cn ≤ 4000000000) := by
 obtain ⟨xs, m, _, hx, hcl, hxl, hf⟩ := DataW.trod_struct Tryz.underlying30 h
 obtain ⟨v0, v1, v2, v3, v4, v5, v6, v7, v8, v9, v10, rfl⟩ := list11 (hcl.trans cellsCs)
 obtain ⟨y0, y1, y2, y3, y4, y5, y6, y7, y8, rfl⟩ := list9 hxl
 have t0 := hf 0 _ rfl
 have t1 := hf 1 _ rfl
 have t2 := hf 2 _ rfl
 have t3 := hf 3 _ rfl
 have t4 := hf 4 _ rfl
 have t5 := hf 5 _ rfl
 have t6 := hf 6 _ rfl
 have t7 := hf 7 _ rfl
 have t8 := hf 8 _ rfl
 simp [cellsP, cellsEs, cellsRs, cellsBs] at t0 t1 t2 t3 t4 t5 t6 t7 t8
 subst hx
 simp only [Rows.uptoBulk, List.map_cons, List.map_nil, Rows.uptoBulkAll] at hw
 obtain ⟨p, ep, Sp, -⟩ := viewP t0 (by omega)
 obtain ⟨q, eq, Sq, -⟩ := viewP t1 (by omega)
 obtain ⟨eo, en, ec, E, rfl, Se⟩ := viewEu t2 (by omega)
 obtain ⟨fo, fn, fc, F, rfl, Sf⟩ := viewEu t3 (by omega)
 obtain ⟨ro, rn, rc, R, rfl, Sr, r1, r2⟩ := viewRu t4 (by omega)
 obtain ⟨uo, un, uc, T, rfl, St, s1, s2⟩ := viewRu t5 (by omega)
 obtain ⟨ao, an, ac, A, rfl, Sa⟩ := viewBu t6 (by omega)
 obtain ⟨bo, bn, bc, B, rfl, Sb⟩ := viewBu t7 (by omega)
 obtain ⟨co, cn, cc, C, rfl, Sc⟩ := viewBu t8 (by omega)
 simp only [List.cons.injEq, and_true] at ep eq
 obtain ⟨rfl, rfl⟩ := ep
 obtain ⟨rfl, rfl⟩ := eq
 exact ⟨⟨p, q, eo, en, ec, fo, fn, fc, ro, rn, rc, uo, un, uc, ao, an, ac, bo, bn, bc, co, cn, cc⟩, E, F, R, T, A, B, C, rfl, ⟨Sp, Sq, Se, Sf, Sr, St, Sa, Sb, Sc, recs_small r1 r2, recs_small s1 s2⟩, viewBn t6 (by omega), viewBn t7 (by omega), viewBn t8 (by omega)⟩
end Go.Proofs.YtphohmoibnoeaaaGreat
