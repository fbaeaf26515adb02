/- IBk -/
import Derived.Test.YtphohmoibnoeaaaGreatPb40
namespace Go.Proofs.YtphohmoibnoeaaaGreat
open Go.RowKit
attribute [local go_sem ↓] ldP_eq stP_eq
attribute [local go_sem] zero_PC cells_PV PC_size cells_CsV CsC_size
variable {w w' w2 W W' : World} {g gv gr : Nat} {Z : List Int}

theorem pastB_inj {P Q : Pst} (h : InForm P) (h' : InForm Q) (e : pastB P = pastB Q) : P = Q := by
  have h1 := rdPast_to h []
  have h2 := rdPast_to h' []
  rw [e, h2] at h1
  exact (congrArg Prod.fst (Option.some.inj h1)).symm
/-- under way -/
structure BKc (w W : World) (G : Nat) (m : Cs) : Prop where
  box : CsBox W G m
  bel : Below w.heap.size w W
theorem BKc.below {G : Nat} {m : Cs} (h : BKc w W G m) (b : Below W.heap.size W W') : BKc w W' G m := ⟨h.box.below b, h.bel.trans (b.mono h.bel.size)⟩
set_option maxRecDepth 100000 in
set_option maxHeartbeats 8000000 in
theorem packBack_any (m : Cs) (E F : List K.En) (R T : List Rc) (A B C : List Int) (w : World) (hS : CsS w m E F R T A B C) :
    Calls Tryz.prog 5 #[CsV m] w fun e w' => e = .returned (.bool true) ∧ Below w.heap.size w w' := by
  have HS := hide hS
  have HX := hide (CsBox_new w m)
  have HB := hide (below_new w (.cells (CsC m) 30))
  clear hS
  obtain ⟨wk, hwk⟩ : ∃ wk, w.alloc (.cells (CsC m) 30) = wk := ⟨_, rfl⟩
  obtain ⟨G, hG⟩ : ∃ G, w.heap.size = G := ⟨_, rfl⟩
  rw [hwk] at HX HB
  rw [hG] at HX
  go_enter Tryz.func5, Tryz.ntmps5
  go_wp2_with fail
  refine (fixed_any _).mono ?_
  rintro e w2 ⟨rfl, b2⟩
  have HK2 : Hid (BKc w w2 G m) := ⟨HX.out.below b2, HB.out.trans (b2.mono HB.out.size)⟩
  clear b2 HX HB hwk hG
  have l2 := run_ldP HK2.out.box.p
  go_wp2_with fail
  refine (refIsNorm_any m.p w2 (HS.out.p.below HK2.out.bel)).mono ?_
  rintro e w3 ⟨b, rfl, hb, b3⟩
  have HK3 := hide (HK2.out.below b3)
  have HI : Hid (BIf b (InForm m.p.P)) := hb
  clear b3 HK2 l2 hb
  go_upto_if 19 with fail
  go_cut [3, 4, 5, 6] from 20 to 112 (fun u v x y wx => Hid (BKc w wx G m))
  case first =>
    cases b with
    | true =>
      have l3 := run_ldP HK3.out.box.p
      have HF : Hid (InForm m.p.P) := HI.out.1 rfl
      go_wp2_with fail
      refine (putPast_any m.p w3 (HS.out.p.below HK3.out.bel)).mono ?_
      rintro e w4 (⟨hno, -, -⟩ | ⟨-, bo, cc, rfl, hR, hN⟩)
      · exact absurd HF.out hno
      have HK4 := hide (HK3.out.below hN.1)
      have HG := hide (getPast_any bo _ cc _ w4 (bsSrc hR.bs (ob_past _).oc) hR.cap (by have := pastB_len HF.out; omega))
      obtain ⟨n4, hn4⟩ : ∃ n4, (pastB m.p.P).length = n4 := ⟨_, rfl⟩
      rw [hn4] at HG ⊢
      clear hR hN l3 hn4 HK3
      go_wp2_with fail
      refine HG.out.mono ?_
      rintro e w5 ⟨b5, h5⟩
      obtain ⟨p5, rfl, hp5, hN5⟩ : ∃ p5, e = .returned (.tuple #[PV p5, .int .i64 0]) ∧ p5.P = m.p.P ∧ PN w4.heap.size w5 p5 := by
        rcases h5 with ⟨p1, h1, h2, rfl, h4⟩ | ⟨hno, -⟩
        · exact ⟨p1, rfl, (pastB_inj HF.out h1 h2).symm, h4⟩
        · exact absurd rfl (hno m.p.P HF.out)
      obtain ⟨g6, hg6⟩ : ∃ g6, w5.heap.size = g6 := ⟨_, rfl⟩
      obtain ⟨w6, hr6, B6, b6, s6⟩ := madeP w5 p5 g6 hg6
      have l6 := run_ldP B6.at
      have HK6 := hide (HK4.out.below (b5.trans (b6.mono b5.size)))
      have l6b := run_ldP HK6.out.box.p
      have HS6 := hide (hN5.src.below b6)
      have HE := hide hp5
      clear h5 b5 HG hp5 hN5 B6 b6 s6 HK4
      go_wp2_with fail
      clear hg6 hr6
      refine (samePast_any p5 m.p w6 HS6.out (HS.out.p.below HK6.out.bel)).mono ?_
      rintro e w7 ⟨x, rfl, hx, b7⟩
      obtain rfl : x = true := hx.2 HE.out
      have HK7 := hide (HK6.out.below b7)
      clear hx b7 l6 l6b
      go_wp2_with fail
      go_meet
      case rel => exact HK7
    | false =>
      go_wp2_with fail
      go_meet
      case rel => exact HK3
  case rest =>
    rename World => wz
    have HKz := hcut
    clear hcut HK3 HI
    have c4 := HKz.out.box.e
    go_wp2_with fail
    refine (K.refEntries7_any m.eo m.en m.ec E wz (HS.out.e.below HKz.out.bel)).mono ?_
    rintro e w3 ⟨rfl, b3⟩
    have HK3 := hide (HKz.out.below b3)
    obtain ⟨b, hb⟩ : ∃ b, K.okN E m.en = b := ⟨_, rfl⟩
    rw [hb]
    have HI := hide hb
    clear b3 HKz c4 hb
    go_upto_if 46 with fail
    go_cut [7, 8, 9, 10] from 47 to 112 (fun u v x y wx => Hid (BKc w wx G m))
    case first =>
      cases b with
      | true =>
        have c4 := HK3.out.box.e
        have HF : Hid (K.okN E E.length = true) := by show _ = _; rw [HS.out.e.1]; exact HI.out
        go_wp2_with fail
        refine (putE_any m.eo m.en m.ec E w3 (HS.out.e.below HK3.out.bel)).mono ?_
        rintro e w4 (⟨hno, -, -⟩ | ⟨-, bo, cc, rfl, hR, hN⟩)
        · exact absurd HF.out hno
        have HK4 := hide (HK3.out.below hN.1)
        have HG := hide (getE_any bo _ cc _ w4 (bsSrc hR.bs (ob_ents _).oc) hR.cap (by have := ents_len HF.out; omega))
        obtain ⟨n4, hn4⟩ : ∃ n4, (entsB E).length = n4 := ⟨_, rfl⟩
        rw [hn4] at HG ⊢
        clear hR hN c4 hn4 HK3
        go_wp2_with fail
        refine HG.out.mono ?_
        rintro e w5 ⟨b5, h5⟩
        obtain ⟨bo5, n5, cc5, rfl, hN5⟩ : ∃ bo5 n5 cc5, e = .returned (.tuple #[.slice bo5 n5 cc5, .int .i64 0]) ∧ K.ESrc w5 bo5 n5 cc5 E := by
          rcases h5 with ⟨L, bo5, cc5, h1, h2, rfl, h4⟩ | ⟨hno, -⟩
          · obtain rfl := entsB_inj HF.out h1 h2
            exact ⟨bo5, _, cc5, rfl, h4.src⟩
          · exact absurd rfl (hno E HF.out)
        have HK5 := hide (HK4.out.below b5)
        have c5 := HK5.out.box.e
        have HS5 := hide hN5
        clear h5 b5 HG hN5 HK4
        go_wp2_with fail
        refine (sameEntries_any bo5 m.eo n5 m.en cc5 m.ec E E w5 HS5.out (HS.out.e.below HK5.out.bel)).mono ?_
        rintro e w7 ⟨x, rfl, hx, b7⟩
        obtain rfl : x = true := hx.2 rfl
        have HK7 := hide (HK5.out.below b7)
        clear hx b7 c5
        go_wp2_with fail
        go_meet
        case rel => exact HK7
      | false =>
        go_wp2_with fail
        go_meet
        case rel => exact HK3
    case rest =>
      rename World => wy
      have HKy := hcut
      clear hcut HK3 HI
      have c6 := HKy.out.box.r
      go_wp2_with fail
      refine (refCheck7_any m.ro m.rn m.rc R wy (HS.out.r.below HKy.out.bel)).mono ?_
      rintro e w3 ⟨x, rfl, hx, b3⟩
      have HK3 := hide (HKy.out.below b3)
      have HI := hide hx
      clear b3 HKy c6 hx
      go_upto_if 74 with fail
      go_cut [11, 12, 13, 14] from 75 to 112 (fun u v x y wx => Hid (BKc w wx G m))
      case first =>
        rcases HI.out with ⟨rfl, hok⟩ | ⟨rfl, -⟩
        · have c6 := HK3.out.box.r
          have HF : Hid (OkR R R.length) := by show OkR _ _; rw [HS.out.r.len]; exact hok
          have HL : Hid ((recsB (plR R)).length ≤ 8000000000000) := HS.out.rl HF.out
          clear hok
          go_wp2_with fail
          refine (putR_any m.ro m.rn m.rc R w3 (HS.out.r.below HK3.out.bel) (by have h1 := recsB_len (plR R); have h2 := HL.out; omega)).mono ?_
          rintro e w4 (⟨hno, -, -⟩ | ⟨-, bo, cc, rfl, hR, hN⟩)
          · exact absurd HF.out hno
          have HK4 := hide (HK3.out.below hN.1)
          have HG := hide (getR_any bo _ cc _ w4 (bsSrc hR.bs (ob_recs _).oc) hR.cap (by have := HL.out; omega) HL.out)
          obtain ⟨n4, hn4⟩ : ∃ n4, (recsB (plR R)).length = n4 := ⟨_, rfl⟩
          rw [hn4] at HG ⊢
          clear hR hN c6 hn4 HK3
          go_wp2_with fail
          refine HG.out.mono ?_
          rintro e w5 ⟨b5, h5⟩
          have hlR : R.length ≤ 9223372036854775807 := by have h1 := HS.out.r.len; have h2 := HS.out.r.big; omega
          obtain ⟨L, bo5, n5, cc5, rfl, hN5, hE⟩ : ∃ L bo5 n5 cc5, e = .returned (.tuple #[.slice bo5 n5 cc5, .int .i64 0]) ∧ RcS w5 bo5 n5 cc5 L ∧ plR L = plR R := by
            rcases h5 with ⟨L, bo5, cc5, h1, h2, rfl, h4⟩ | ⟨hno, -⟩
            · exact ⟨L, bo5, _, cc5, rfl, h4.src, (recsB_inj HF.out h1 hlR (by have := h4.big; omega) h2).symm⟩
            · exact absurd rfl (hno R ⟨HF.out, hlR⟩)
          have HK5 := hide (HK4.out.below b5)
          have c5 := HK5.out.box.r
          have HS5 := hide hN5
          have HE := hide hE
          clear h5 b5 HG hN5 HK4 hE hlR
          go_wp2_with fail
          refine (sameRecords_any bo5 m.ro n5 m.rn cc5 m.rc L R w5 HS5.out (HS.out.r.below HK5.out.bel)).mono ?_
          rintro e w7 ⟨x, rfl, hx, b7⟩
          obtain rfl : x = true := hx.2 HE.out
          have HK7 := hide (HK5.out.below b7)
          clear hx b7 c5
          go_wp2_with fail
          go_meet
          case rel => exact HK7
        · go_wp2_with fail
          go_meet
          case rel => exact HK3
      case rest =>
        rename World => wx
        have HKx := hcut
        clear hcut HK3 HI
        have c8 := HKx.out.box.a
        go_wp2_with fail
        refine (forth_any m.ao m.an m.ac A wx (HS.out.a.1.below HKx.out.bel) HS.out.a.2.1 HS.out.a.2.2).mono ?_
        rintro e w3 ⟨rfl, b3⟩
        have HK3 := hide (HKx.out.below b3)
        have c9 := HK3.out.box.b
        clear b3 c8 HKx
        go_wp2_with fail
        refine (forth_any m.bo m.bn m.bc B w3 (HS.out.b.1.below HK3.out.bel) HS.out.b.2.1 HS.out.b.2.2).mono ?_
        rintro e w4 ⟨rfl, b4⟩
        have HK4 := hide (HK3.out.below b4)
        have c10 := HK4.out.box.c
        clear b4 c9 HK3
        go_wp2_with fail
        refine (forth_any m.co m.cn m.cc C w4 (HS.out.c.1.below HK4.out.bel) HS.out.c.2.1 HS.out.c.2.2).mono ?_
        rintro e w5 ⟨rfl, b5⟩
        have HK5 := hide (HK4.out.below b5)
        clear b5 c10 HK4
        go_wp2_with fail
        go_ret
        exact ⟨rfl, HK5.out.bel⟩
end Go.Proofs.YtphohmoibnoeaaaGreat
