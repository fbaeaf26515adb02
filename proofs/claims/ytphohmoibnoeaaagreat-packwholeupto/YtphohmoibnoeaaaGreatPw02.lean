/- PackWhole: the law. -/
import Derived.Test.YtphohmoibnoeaaaGreatPw01
import Derived.Test.YtphohmoibnoeaaaGreatPb39
namespace Go.Proofs.YtphohmoibnoeaaaGreat
open Go.RowKit
attribute [local go_sem ↓] ldP_eq stP_eq
attribute [local go_sem] zero_PC cells_PV PC_size cells_CsV CsC_size
variable {w w' w2 W W' : World} {g gv gr : Nat} {Z : List Int}

/-- under way -/
structure WHc (w W : World) (G : Nat) (m : Cs) : Prop where
  box : CsBox W G m
  bel : Below w.heap.size w W
theorem WHc.below {G : Nat} {m : Cs} (h : WHc w W G m) (b : Below W.heap.size W W') : WHc w W' G m := ⟨h.box.below b, h.bel.trans (b.mono h.bel.size)⟩
theorem br_some {bo : Option Addr} {n c : Nat} (h : U.BR w bo n c Z) (hn : 1 ≤ n) : ∃ q : Nat, bo = some ⟨q, 0, none⟩ := by
  rcases h.2 with ⟨h0, _⟩ | ⟨q, cap2, cur, hv, r⟩
  · simp only [Value.slice.injEq] at h0; omega
  · simp only [Value.slice.injEq, true_and] at hv; exact ⟨q, hv.1⟩
/-- what a writer answers, with the bytes that stand whole -/
structure Wrt (W : World) (bo : Option Addr) (n c : Nat) (k : Int) (Z : List Int) : Prop where
  len : Z.length = n
  br : U.BR W bo n c Z
  oc : U.Oc Z
  tk : Tk k Z
  big : n + 1 ≤ 8000000000000
  pos : 1 ≤ n
theorem Wrt.below {bo : Option Addr} {n c : Nat} {k : Int} (h : Wrt W bo n c k Z) (b : Below W.heap.size W W') : Wrt W' bo n c k Z := ⟨h.len, h.br.below b, h.oc, h.tk, h.big, h.pos⟩
theorem Wrt.whole {bo : Option Addr} {n c : Nat} {k : Int} (hk : k = 1 ∨ k = 2 ∨ k = 3) (h : Wrt W bo n c k Z) :
    Calls Tryz.prog 27 #[.slice bo n c, .int .i64 k] W fun e w' => e = .returned (.bool true) ∧ Below W.heap.size W w' := by
  obtain ⟨q, rfl⟩ := br_some h.br h.pos
  exact whole_any k hk q n c Z W (bsSrc h.br.bs h.oc) h.br.cap h.big h.tk
set_option maxRecDepth 100000 in
theorem packPutR_bad (so : Option Addr) (sn sc : Nat) (L : List Rc) (w : World) (hS : RcS w so sn sc L) (hno : ¬ OkR L L.length) : Calls Tryz.prog 38 #[.slice so sn sc, .func (.func 39) #[] #[], .func (.func 40) #[] #[]] w fun e w' => e = .returned (.tuple #[.slice none 0 0, .int .i64 1]) ∧ Below w.heap.size w w' := by
  have HS := hide hS
  go_enter Tryz.func38, Tryz.ntmps38
  go_wp2_with fail
  refine (keepCheck_any so sn sc L _ HS.out).mono ?_
  rintro e w2 ⟨x, rfl, hx, b2⟩
  have HB2 := hide b2
  obtain rfl : x = 1 := by
    rw [hS.len] at hno
    rcases hx with ⟨-, h⟩ | ⟨e, -⟩
    · exact absurd h hno
    · exact e
  clear hx hno hS b2
  go_wp2_with fail
  go_ret2
  exact ⟨rfl, HB2.out⟩
/-- PutRecords, where only records that may be written must be small -/
theorem putR_or (so : Option Addr) (sn sc : Nat) (L : List Rc) (w : World) (hS : RcS w so sn sc L) (hlen : OkR L L.length → (recB (plR L)).length ≤ 40000000000000) : Calls Tryz.prog 14 #[.slice so sn sc] w fun e w' => PutR w w' e L := by
  by_cases hok : OkR L L.length
  · exact putR_any so sn sc L w hS (hlen hok)
  have HC := hide (packPutR_bad so sn sc L w hS hok)
  have HN := hide hok
  clear hS hlen hok
  go_enter Tryz.func14, Tryz.ntmps14
  go_wp2_with fail
  refine HC.out.mono ?_
  rintro e w2 ⟨rfl, b2⟩
  have HB := hide b2
  clear b2
  go_wp2_with fail
  go_ret2
  exact .inl ⟨HN.out, rfl, HB.out⟩
set_option maxRecDepth 100000 in
set_option maxHeartbeats 8000000 in
theorem packWhole_any (m : Cs) (E F : List K.En) (R T : List Rc) (A B C : List Int) (w : World) (hS : CsS w m E F R T A B C) (hr : OkR R R.length → (recsB (plR R)).length ≤ 7000000000000) :
    Calls Tryz.prog 6 #[CsV m] w fun e w' => e = .returned (.bool true) ∧ Below w.heap.size w w' := by
  have HS := hide hS
  have HR7 := hide hr
  have HX := hide (CsBox_new w m)
  have HB := hide (below_new w (.cells (CsC m) 30))
  clear hS hr
  obtain ⟨wk, hwk⟩ : ∃ wk, w.alloc (.cells (CsC m) 30) = wk := ⟨_, rfl⟩
  obtain ⟨G, hG⟩ : ∃ G, w.heap.size = G := ⟨_, rfl⟩
  rw [hwk] at HX HB
  rw [hG] at HX
  go_enter Tryz.func6, Tryz.ntmps6
  go_wp2_with fail
  refine (fixed_any _).mono ?_
  rintro e w2 ⟨rfl, b2⟩
  have HK2 : Hid (WHc w w2 G m) := ⟨HX.out.below b2, HB.out.trans (b2.mono HB.out.size)⟩
  clear b2 HX HB hwk hG
  have l2 := run_ldP HK2.out.box.p
  go_wp2_with fail
  refine (putPast_any m.p w2 (HS.out.p.below HK2.out.bel)).mono ?_
  rintro e w3 h3
  obtain ⟨e3, bo, n3, cc, rfl, b3, H3⟩ : ∃ (e3 : Int) (bo : Option Addr) (n3 cc : Nat), e = .returned (.tuple #[.slice bo n3 cc, .int .i64 e3]) ∧ Below w2.heap.size w2 w3 ∧ Hid ((InForm m.p.P ∧ e3 = 0 ∧ Wrt w3 bo n3 cc 1 (pastB m.p.P)) ∨ (¬ InForm m.p.P ∧ e3 = 1)) := by
    rcases h3 with ⟨hno, rfl, b3⟩ | ⟨hy, bo, cc, rfl, hR, hN⟩
    · exact ⟨1, _, _, _, rfl, b3, .inr ⟨hno, rfl⟩⟩
    · refine ⟨0, bo, _, cc, rfl, hN.1, .inl ⟨hy, rfl, rfl, hR, (ob_past _).oc, .inl ⟨rfl, _, hy, rfl⟩, by have := pastB_len hy; omega, ?_⟩⟩
      have := numB_pos m.p.P.vec.length
      unfold pastB
      rw [List.length_append]
      omega
  have HK3 := hide (HK2.out.below b3)
  clear h3 b3 HK2 l2
  go_upto_region 4 with fail
  go_cut [26] from 7 to 63 (fun x wx => x = .bool false ∧ Hid (WHc w wx G m))
  case first =>
    have l3 := run_ldP HK3.out.box.p
    go_wp2_with fail
    refine (refIsNorm_any m.p w3 (HS.out.p.below HK3.out.bel)).mono ?_
    rintro e w4 ⟨b, rfl, hb, b4⟩
    have HK4 := hide (HK3.out.below b4)
    rcases H3.out with ⟨h1, rfl, h3⟩ | ⟨h1, rfl⟩
    · obtain rfl : b = true := hb.2 h1
      have HC := hide ((h3.below b4).whole (.inl rfl))
      clear hb b4 h1 h3 l3
      go_wp2_with fail
      refine HC.out.mono ?_
      rintro e w5 ⟨rfl, b5⟩
      have HK5 := hide (HK4.out.below b5)
      clear b5 HC
      go_wp2_with fail
      go_meet
      case rel => exact ⟨rfl, HK5⟩
    · obtain rfl : b = false := by
        cases b with
        | false => rfl
        | true => exact absurd (hb.1 rfl) h1
      clear hb b4 h1 l3
      go_wp2_with fail
      go_meet
      case rel => exact ⟨rfl, HK4⟩
  case rest =>
    rename World => wz
    obtain ⟨rfl, HKz⟩ := hcut
    clear HK3 H3
    have c4 := HKz.out.box.e
    go_wp2_with fail
    refine (putE_any m.eo m.en m.ec E wz (HS.out.e.below HKz.out.bel)).mono ?_
    rintro e w3 h3
    obtain ⟨e3, bo, n3, cc, rfl, b3, H3⟩ : ∃ (e3 : Int) (bo : Option Addr) (n3 cc : Nat), e = .returned (.tuple #[.slice bo n3 cc, .int .i64 e3]) ∧ Below wz.heap.size wz w3 ∧ Hid ((K.okN E m.en = true ∧ e3 = 0 ∧ Wrt w3 bo n3 cc 2 (entsB E)) ∨ (K.okN E m.en = false ∧ e3 = 1)) := by
      rcases h3 with ⟨hno, rfl, b3⟩ | ⟨hy, bo, cc, rfl, hR, hN⟩
      · rw [HS.out.e.1] at hno
        exact ⟨1, _, _, _, rfl, b3, .inr ⟨by simpa using hno, rfl⟩⟩
      · refine ⟨0, bo, _, cc, rfl, hN.1, .inl ⟨by rw [← HS.out.e.1]; exact hy, rfl, rfl, hR, (ob_ents _).oc, .inr (.inl ⟨rfl, _, hy, rfl⟩), by have := ents_len hy; omega, ?_⟩⟩
        have := numB_pos E.length
        unfold entsB
        rw [List.length_append]
        omega
    have HK3 := hide (HKz.out.below b3)
    clear h3 b3 HKz c4
    go_upto_region 7 with fail
    go_cut [44] from 7 to 63 (fun x wx => x = .bool false ∧ Hid (WHc w wx G m))
    case first =>
      have c4 := HK3.out.box.e
      go_wp2_with fail
      refine (K.refEntries7_any m.eo m.en m.ec E w3 (HS.out.e.below HK3.out.bel)).mono ?_
      rintro e w4 ⟨rfl, b4⟩
      have HK4 := hide (HK3.out.below b4)
      rcases H3.out with ⟨h1, rfl, h3⟩ | ⟨h1, rfl⟩
      · rw [h1]
        have HC := hide ((h3.below b4).whole (.inr (.inl rfl)))
        clear b4 h1 h3 c4
        go_wp2_with fail
        refine HC.out.mono ?_
        rintro e w5 ⟨rfl, b5⟩
        have HK5 := hide (HK4.out.below b5)
        clear b5 HC
        go_wp2_with fail
        go_meet
        case rel => exact ⟨rfl, HK5⟩
      · rw [h1]
        clear b4 h1 c4
        go_wp2_with fail
        go_meet
        case rel => exact ⟨rfl, HK4⟩
    case rest =>
      rename World => wy
      obtain ⟨rfl, HKy⟩ := hcut
      clear HK3 H3
      have c6 := HKy.out.box.r
      go_wp2_with fail
      refine (putR_or m.ro m.rn m.rc R wy (HS.out.r.below HKy.out.bel) (fun h => by have h1 := HS.out.rl h; have h2 := recsB_len (plR R); omega)).mono ?_
      rintro e w3 h3
      obtain ⟨e3, bo, n3, cc, rfl, b3, H3⟩ : ∃ (e3 : Int) (bo : Option Addr) (n3 cc : Nat), e = .returned (.tuple #[.slice bo n3 cc, .int .i64 e3]) ∧ Below wy.heap.size wy w3 ∧ Hid ((OkR R m.rn ∧ e3 = 0 ∧ Wrt w3 bo n3 cc 3 (recsB (plR R))) ∨ (¬ OkR R m.rn ∧ e3 = 1)) := by
        rcases h3 with ⟨hno, rfl, b3⟩ | ⟨hy, bo, cc, rfl, hR, hN⟩
        · rw [HS.out.r.len] at hno
          exact ⟨1, _, _, _, rfl, b3, .inr ⟨hno, rfl⟩⟩
        · refine ⟨0, bo, _, cc, rfl, hN.1, .inl ⟨by rw [← HS.out.r.len]; exact hy, rfl, rfl, hR, (ob_recs _).oc, .inr (.inr ⟨rfl, _, ⟨hy, by have h1 := HS.out.r.len; have h2 := HS.out.r.big; omega⟩, rfl⟩), by have := HR7.out hy; omega, ?_⟩⟩
          have := numB_pos (plR R).length
          unfold recsB
          rw [List.length_append]
          omega
      have HK3 := hide (HKy.out.below b3)
      have c3 := HK3.out.box.r
      clear h3 b3 HKy c6
      go_wp2_with fail
      refine (refCheck7_any m.ro m.rn m.rc R w3 (HS.out.r.below HK3.out.bel)).mono ?_
      rintro e w4 ⟨x, rfl, hx, b4⟩
      have HK4 := hide (HK3.out.below b4)
      rcases H3.out with ⟨h1, rfl, h3⟩ | ⟨h1, rfl⟩
      · obtain rfl : x = 0 := by
          rcases hx with ⟨h, -⟩ | ⟨-, hno⟩
          · exact h
          · exact absurd h1 hno
        have HC := hide ((h3.below b4).whole (.inr (.inr rfl)))
        clear b4 h1 h3 c3 hx
        go_wp2_with fail
        refine HC.out.mono ?_
        rintro e w5 ⟨rfl, b5⟩
        have HK5 := hide (HK4.out.below b5)
        clear b5 HC
        go_wp2_with fail
        go_ret
        exact ⟨rfl, HK5.out.bel⟩
      · obtain rfl : x = 1 := by
          rcases hx with ⟨-, hy⟩ | ⟨h, -⟩
          · exact absurd hy h1
          · exact h
        clear b4 h1 c3 hx
        go_wp2_with fail
        go_ret
        exact ⟨rfl, HK4.out.bel⟩
end Go.Proofs.YtphohmoibnoeaaaGreat
