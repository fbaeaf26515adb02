/- FBk -/
import Derived.Test.YtnghfnhpjdafmaaBk49
namespace Go.Proofs.Ytnghfnhpjdafmaa
open Go.RowKit
attribute [local go_sem ↓] ldP_eq stP_eq ldTo_eq stTo_eq bldT_eq run_bldT run_bldT0 run_bldT1
attribute [local go_sem] zero_PC cells_PV PC_size cells_ToV ToC_size zero_ToC
variable {w w' w2 W W' : World} {g gv gr : Nat} {Z : List Int}

/-- the token that was handed in, and the variable u -/
structure BK (w W : World) (G g7 : Nat) (c : Int) (p : Pv) : Prop where
  box : ToBox W G (mkT c p)
  src : PSrc W p
  bel : Below w.heap.size w W
  u : ∃ m, ToBox W g7 m
  ne : g7 ≠ G
  new : w.heap.size ≤ g7
  old : w.heap.size ≤ G
  sw : PSrc w p
theorem BK.below {G g7 : Nat} {c : Int} {p : Pv} (h : BK w W G g7 c p) (b : Below W.heap.size W W') : BK w W' G g7 c p := by
  obtain ⟨m, hm⟩ := h.u
  exact ⟨h.box.below b, h.src.below b, h.bel.trans (b.mono h.bel.size), ⟨m, hm.below b⟩, h.ne, h.new, h.old, h.sw⟩
theorem BK.put {G g7 : Nat} {c : Int} {p : Pv} (h : BK w W G g7 c p) (m : TokV) : (stTo (.pointer (some ⟨g7, 0, none⟩)) (.agg (ToC m))).run Try.prog W = .ok () (W.setRow g7 (ToC m)) ∧ BK w (W.setRow g7 (ToC m)) G g7 c p ∧ ToBox (W.setRow g7 (ToC m)) g7 m := by
  obtain ⟨m0, hm⟩ := h.u
  have hb := below_setRow (g := g7) (cs := ToC m) h.bel h.new
  exact ⟨run_stTo hm, ⟨(setRow_other _ _ _ _ h.ne.symm).trans h.box, h.sw.below hb, hb, ⟨m, hm.setRow⟩, h.ne, h.new, h.old, h.sw⟩, hm.setRow⟩
theorem src_bs {ao : Option Addr} {n cap : Nat} (S : U.Src w ao n cap Z) : U.BS w ao n cap Z := ⟨S.1, S.2.1, S.2.2.1⟩
theorem bs_src {ao : Option Addr} {n cap : Nat} (S : U.BS w ao n cap Z) (hO : U.Oc Z) : U.Src w ao n cap Z := ⟨S.len, S.nil, S.cell, hO⟩
theorem bs_take {ao : Option Addr} {n cap : Nat} (S : U.BS w ao n cap Z) (k : Nat) (h0 : ao ≠ none) (hk : k ≤ n) : U.BS w ao k cap (Z.take k) := by
  have hl := S.len
  refine ⟨by rw [List.length_take]; omega, fun e => absurd e h0, fun ad e t ht => ?_⟩
  rw [S.cell ad e t (by omega), List.getD_eq_getElem?_getD, List.getD_eq_getElem?_getD, List.getElem?_take, if_pos ht]
theorem oc_take (hO : U.Oc Z) (k : Nat) : U.Oc (Z.take k) := fun t => by
  rw [List.getD_eq_getElem?_getD, List.getElem?_take]
  split
  · rw [← List.getD_eq_getElem?_getD]; exact hO t
  · exact ⟨by decide, by decide⟩
theorem tokB_three (c : Int) (P : Pst) : 3 ≤ (tokB c P).length := by
  have h2 := numB_pos c.toNat
  have h3 := numB_pos P.vec.length
  have h4 := numB_pos P.cloud.length
  simp only [tokB, pastB, nB, List.length_append]; omega
theorem tokB_cut {c c' : Int} {P P' : Pst} {k : Nat} (h : TokOk c P) (h' : TokOk c' P') (hk : k < (tokB c P).length) : (tokB c P).take k ≠ tokB c' P' := fun e => by
  have h1 := tokB_pre (R := (tokB c P).drop k) h h' (by rw [← e, List.take_append_drop])
  have := congrArg List.length h1
  rw [List.length_drop] at this
  simp at this
  omega
theorem tokB_more {c c' : Int} {P P' : Pst} {x : Int} (h : TokOk c P) (h' : TokOk c' P') : tokB c P ++ [x] ≠ tokB c' P' := fun e => by
  have := tokB_pre h' h e.symm
  cases this
set_option maxRecDepth 100000 in
set_option maxHeartbeats 8000000 in
theorem back_any (c : Int) (p : Pv) (ro : Option Addr) (rn rc : Nat) (Z : List Int) (s : ByteArray) (w : World) (hS : PSrc w p) (SZ : U.Src w ro rn rc Z) (hcap : rn ≤ rc) (hz : rn ≤ 140737488355328) (hs : s.size ≤ 140737488355328) :
    Calls Try.prog 6 #[ToV (mkT c p), .slice ro rn rc, .string s] w fun e w' => e = .returned (.bool true) ∧ Below w.heap.size w w' := by
  have HX := hide (ToBox_new w (mkT c p))
  have HB := hide (below_new w (.cells (ToC (mkT c p)) 52))
  have HS := hide hS
  have HZ : Hid (U.Src w ro rn rc Z ∧ rn ≤ rc ∧ rn ≤ 140737488355328 ∧ s.size ≤ 140737488355328) := ⟨SZ, hcap, hz, hs⟩
  clear hS SZ hcap hz hs
  obtain ⟨wk, hwk⟩ : ∃ wk, w.alloc (.cells (ToC (mkT c p)) 52) = wk := ⟨_, rfl⟩
  obtain ⟨G, hG⟩ : ∃ G, w.heap.size = G := ⟨_, rfl⟩
  have HG : Hid (w.heap.size ≤ G) := by show _ ≤ _; omega
  rw [hwk] at HX HB
  rw [hG] at HX
  go_enter Try.func6, Try.ntmps6
  go_wp2_with fail
  refine (known_any _).mono ?_
  rintro e w2 ⟨rfl, b2⟩
  have HB2 := hide (HB.out.trans (b2.mono HB.out.size))
  have HX2 := hide (HX.out.below b2)
  clear b2 HX HB hwk hG
  go_wp2_with fail
  refine (tokGet_any ro rn rc Z _ (HZ.out.1.below HB2.out) HZ.out.2.1 HZ.out.2.2.1).mono ?_
  rintro e w3 ⟨b3, h3⟩
  obtain ⟨g7, hg7⟩ : ∃ g7, w3.heap.size = g7 := ⟨_, rfl⟩
  obtain ⟨e3, m3, rfl, H3⟩ : ∃ (e3 : Int) (m3 : TokV), e = .returned (.tuple #[ToV m3, .int .i64 e3]) ∧ Hid ((e3 = 0 ∧ ∃ c1 p1, m3 = mkT c1 p1 ∧ TokOk c1 p1.P ∧ Z = tokB c1 p1.P ∧ PSrc w3 p1) ∨ (e3 = 8 ∧ m3 = to0)) := by
    rcases h3 with ⟨c1, p1, h1, h2, rfl, h4⟩ | ⟨-, rfl⟩
    · exact ⟨0, _, rfl, .inl ⟨rfl, c1, p1, rfl, h1, h2, h4.src⟩⟩
    · exact ⟨8, _, rfl, .inr ⟨rfl, rfl⟩⟩
  obtain ⟨w4, hr4, B4, b4, s4⟩ := madeTo w3 m3 g7 hg7
  have HK4 : Hid (BK w w4 G g7 c p) := by
    have hb4 : Below w.heap.size w w4 := HB2.out.trans ((b3.trans (b4.mono b3.size)).mono HB2.out.size)
    have h1 := HX2.out.lt
    have h2 := b3.size
    have h3 := HB2.out.size
    exact ⟨HX2.out.below (b3.trans (b4.mono b3.size)), HS.out.below hb4, hb4, ⟨m3, B4⟩, by omega, by omega, HG.out, HS.out⟩
  have l4 := run_ldTo B4
  have HB4 := hide b4
  clear h3 b3 b4 s4 B4 HX2
  go_upto_if 28 with fail
  clear hg7 hr4
  go_cut [9, 10] from 20 to 175 (fun u v wx => Hid (BK w wx G g7 c p))
  case first =>
    rcases H3.out with ⟨rfl, c1, p1, rfl, hok, hZt, hp1⟩ | ⟨rfl, rfl⟩
    · have hst2 := (src_bs (HZ.out.1.below HK4.out.bel)).str
      rw [hZt] at hst2
      have HOk := hide hok
      have HP := hide (tokPut_any c1 p1 w4 (hp1.below HB4.out))
      have HZt := hide hZt
      clear hok hp1 hZt
      go_wp2_with fail
      refine HP.out.mono ?_
      rintro e w5 (⟨hno, -, -⟩ | ⟨-, bo, cc, rfl, hR, hN⟩)
      · exact absurd HOk.out hno
      have hst := hR.bs.str
      have hst3 := (src_bs (HZ.out.1.below (HK4.out.below hN.1).bel)).str
      have HK5 := hide (HK4.out.below hN.1)
      obtain ⟨m, hm⟩ : ∃ m, (tokB c1 p1.P).length = m := ⟨_, rfl⟩
      rw [hm] at hst ⊢
      rw [HZt.out] at hst3
      clear hR hN hm HP l4 hst2
      go_wp2_with fail
      go_meet
      case rel => exact HK5
    · have HE := hide (rtEqual_true 0 pv0 pv0 w4 (PSrc.zero _) (PSrc.zero _) rfl)
      go_wp2_with fail
      refine HE.out.mono ?_
      rintro e w5 ⟨rfl, b5⟩
      have HK5 := hide (HK4.out.below b5)
      clear b5 l4 HE
      go_wp2_with fail
      go_meet
      case rel => exact HK5
  case rest =>
    rename World => wz
    have HKz := hcut
    clear hcut H3 HK4 HB4 l4 HB2
    go_wp2_with fail
    refine (parse_any s wz HZ.out.2.2.2).mono ?_
    rintro e w5 ⟨b5, h5⟩
    obtain ⟨e5, m5, rfl, H5⟩ : ∃ (e5 : Int) (m5 : TokV), e = .returned (.tuple #[ToV m5, .int .i64 e5]) ∧ Hid ((e5 = 0 ∧ ∃ c1 p1, m5 = mkT c1 p1 ∧ TokOk c1 p1.P ∧ strL s = textL c1 p1.P ∧ PN wz.heap.size w5 p1) ∨ (e5 = 17 ∧ m5 = to0)) := by
      rcases h5 with ⟨c1, p1, h1, h2, rfl, h4⟩ | ⟨-, rfl⟩
      · exact ⟨0, _, rfl, .inl ⟨rfl, c1, p1, rfl, h1, h2, h4⟩⟩
      · exact ⟨17, _, rfl, .inr ⟨rfl, rfl⟩⟩
    obtain ⟨hr6, K6, B6⟩ := (HKz.out.below b5).put m5
    have l6 := run_ldTo B6
    have hlt7 : g7 < wz.heap.size := by obtain ⟨m, hm⟩ := HKz.out.u; exact hm.lt
    have H6 : Hid ((e5 = 0 ∧ ∃ c1 p1, m5 = mkT c1 p1 ∧ TokOk c1 p1.P ∧ strL s = textL c1 p1.P ∧ PSrc (w5.setRow g7 (ToC m5)) p1) ∨ (e5 = 17 ∧ m5 = to0)) := by
      rcases H5.out with ⟨h0, c1, p1, h1, h2, h3, h4⟩ | h
      · exact .inl ⟨h0, c1, p1, h1, h2, h3, (h4.keep (fun k h1 h2 => setRow_other _ _ _ _ (by omega))).src⟩
      · exact .inr h
    have HK6 := hide K6
    obtain ⟨w6, hw6⟩ : ∃ w6, w5.setRow g7 (ToC m5) = w6 := ⟨_, rfl⟩
    rw [hw6] at hr6 l6 H6 HK6
    clear h5 b5 K6 B6 H5 hlt7
    go_upto_if 57 with fail
    clear hr6 hw6
    go_cut [11, 12] from 20 to 175 (fun u v wx => Hid (BK w wx G g7 c p))
    case first =>
      rcases H6.out with ⟨rfl, c1, p1, rfl, hok, hst, hp1⟩ | ⟨rfl, rfl⟩
      · have HT := hide (text_any c1 p1 w6 hp1)
        have HOk := hide hok
        have hse : strOfNums (textL c1 p1.P) = s := by rw [← hst, strL_str]
        have HSe := hide hse
        clear hok hp1 hst hse
        go_wp2_with fail
        refine HT.out.mono ?_
        rintro e w7 (⟨hno, -, -⟩ | ⟨-, rfl, b7⟩)
        · exact absurd HOk.out hno
        have HK7 := hide (HK6.out.below b7)
        rw [HSe.out]
        clear b7 l6 HT
        go_wp2_with fail
        go_meet
        case rel => exact HK7
      · have HE := hide (rtEqual_true 0 pv0 pv0 w6 (PSrc.zero _) (PSrc.zero _) rfl)
        go_wp2_with fail
        refine HE.out.mono ?_
        rintro e w7 ⟨rfl, b7⟩
        have HK7 := hide (HK6.out.below b7)
        clear b7 l6 HE
        go_wp2_with fail
        go_meet
        case rel => exact HK7
    case rest =>
      rename World => wy
      have HKy := hcut
      have ly := run_ldTo HKy.out.box
      clear hcut H6 HK6 l6
      go_wp2_with fail
      refine (tokPut_any c p wy HKy.out.src).mono ?_
      rintro e w8 h8
      by_cases hok : TokOk c p.P
      · obtain ⟨bo, cc, rfl, hR, hN⟩ : ∃ bo cc, e = .returned (.tuple #[.slice bo (tokB c p.P).length cc, .int .i64 0]) ∧ U.BR w8 bo (tokB c p.P).length cc (tokB c p.P) ∧ U.NewB wy w8 bo := by
          rcases h8 with ⟨hno, -, -⟩ | ⟨-, bo, cc, h1, h2, h3⟩
          · exact absurd hok hno
          · exact ⟨bo, cc, h1, h2, h3⟩
        have HOk := hide hok
        have HK8 := hide (HKy.out.below hN.1)
        have l8 := run_ldTo HK8.out.box
        have h3 := tokB_three c p.P
        have hmx := tokB_len hok (by have := tok_bd hok; omega)
        obtain ⟨Y, hY⟩ : ∃ Y, tokB c p.P = Y := ⟨_, rfl⟩
        have HY : Hid (tokB c p.P = Y) := hY
        rw [hY] at hR h3 hmx
        rw [hY]
        obtain ⟨m, hm⟩ : ∃ m, Y.length = m := ⟨_, rfl⟩
        have HM := hide hm
        rw [hm] at hR h3 hmx
        rw [hm]
        obtain ⟨q8, rfl⟩ : ∃ q8 : Nat, bo = some ⟨q8, 0, none⟩ := by
          rcases hR.2 with ⟨h0, _⟩ | ⟨q, cap2, cur, hv, r⟩
          · simp only [Value.slice.injEq] at h0; omega
          · simp only [Value.slice.injEq, true_and] at hv; exact ⟨q, hv.1⟩
        have HR8 := hide hR
        have HNq : Hid (wy.heap.size ≤ q8) := hN.2 q8 rfl
        clear hok h8 hR hN hY hm ly
        go_wp2_with fail
        refine (text_any c p w8 HK8.out.src).mono ?_
        rintro e w9 (⟨hno, -, -⟩ | ⟨-, rfl, b9⟩)
        · exact absurd HOk.out hno
        have HK9 := hide (HK8.out.below b9)
        have HR9 := hide (HR8.out.below b9)
        have l9 := run_ldTo HK9.out.box
        clear l8 b9 HR8 HK8
        go_wp2_with fail
        refine (rtCheck_any c p w9 HK9.out.src).mono ?_
        rintro e w10 ⟨x, rfl, hx, b10⟩
        obtain rfl : x = 0 := by
          rcases hx with ⟨-, hno⟩ | ⟨rfl, -⟩
          · exact absurd HOk.out hno
          · rfl
        have HK10 := hide (HK9.out.below b10)
        have HR10 := hide (HR9.out.below b10)
        clear l9 hx b10 HR9 HK9
        have hOY : U.Oc Y := by rw [show Y = tokB c p.P from HY.out.symm]; exact oc_of_ob (tokB_ob c p.P)
        have HOY := hide hOY
        clear hOY
        go_wp2_with fail
        refine (tokGet_any (some ⟨q8, 0, none⟩) m cc Y w10 (bs_src HR10.out.bs HOY.out) HR10.out.cap (by omega)).mono ?_
        rintro e w11 ⟨b11, h11⟩
        obtain ⟨p1, rfl, hp1, hN1⟩ : ∃ p1, e = .returned (.tuple #[ToV (mkT c p1), .int .i64 0]) ∧ p1.P = p.P ∧ PN w10.heap.size w11 p1 := by
          rcases h11 with ⟨c1, p1, h1, h2, rfl, h4⟩ | ⟨hno, -⟩
          · obtain ⟨rfl, e⟩ := tokB_inj HOk.out h1 (HY.out.trans h2)
            exact ⟨p1, rfl, e.symm, h4⟩
          · exact absurd HY.out.symm (hno c p.P HOk.out)
        obtain ⟨hr12, K12, B12⟩ := (HK10.out.below b11).put (mkT c p1)
        have hlt7 : g7 < w10.heap.size := by obtain ⟨m, hm⟩ := HK10.out.u; exact hm.lt
        have HS12 : Hid (PSrc (w11.setRow g7 (ToC (mkT c p1))) p1) := (hN1.keep (fun k h1 h2 => setRow_other _ _ _ _ (by omega))).src
        have hltY : g7 < wy.heap.size := by obtain ⟨m, hm⟩ := HKy.out.u; exact hm.lt
        have HR12 : Hid (U.BR (w11.setRow g7 (ToC (mkT c p1))) (some ⟨q8, 0, none⟩) m cc Y) := (HR10.out.below b11).keep (fun k e => setRow_other _ _ _ _ (by have h1 := HNq.out; have h2 : q8 = k := Option.some.inj e; omega))
        have HK12 := hide K12
        have HB12 := hide B12
        obtain ⟨w12, hw12⟩ : ∃ w12, w11.setRow g7 (ToC (mkT c p1)) = w12 := ⟨_, rfl⟩
        rw [hw12] at hr12 HS12 HR12 HK12 HB12
        have HE1 := hide hp1
        clear h11 b11 hN1 K12 B12 hlt7 hltY HR10 HK10 hp1
        go_wp2_with fail
        clear hr12 hw12
        have hob := textL_ob c p.P
        have hsz : (strOfNums (textL c p.P)).size ≤ 140737488355328 := by rw [← strL_len, strL_of hob]; have := text_max HOk.out; omega
        refine (parse_any (strOfNums (textL c p.P)) w12 hsz).mono ?_
        rw [strL_of hob]
        clear hob hsz
        rintro e w13 ⟨b13, h13⟩
        obtain ⟨p2, rfl, hp2, hS2⟩ : ∃ p2, e = .returned (.tuple #[ToV (mkT c p2), .int .i64 0]) ∧ p2.P = p.P ∧ PSrc w13 p2 := by
          rcases h13 with ⟨c1, p2, h1, h2, rfl, h4⟩ | ⟨hno, -⟩
          · obtain ⟨rfl, e⟩ := textL_inj HOk.out h1 h2
            exact ⟨p2, rfl, e.symm, h4.src⟩
          · exact absurd rfl (hno c p.P HOk.out)
        obtain ⟨g17, hg17⟩ : ∃ g17, w13.heap.size = g17 := ⟨_, rfl⟩
        obtain ⟨w14, hr14, B14, b14, s14⟩ := madeTo w13 (mkT c p2) g17 hg17
        have b12 := b13.trans (b14.mono b13.size)
        have HK14 := hide (HK12.out.below b12)
        have HR14 := hide (HR12.out.below b12)
        have l14a := run_ldTo (HB12.out.below b12)
        have l14b := run_ldTo HK14.out.box
        have HEq1 := hide (rtEqual_true c p1 p w14 (HS12.out.below b12) HK14.out.src HE1.out)
        have HS14 := hide (hS2.below b14)
        have HB14 := hide B14
        have HE2 := hide hp2
        clear h13 b13 b14 s14 B14 b12 HK12 HR12 HB12 HS12 hS2 hp2
        go_wp2_with fail
        clear hr14 hg17
        refine HEq1.out.mono ?_
        rintro e w15 ⟨rfl, b15⟩
        have HK15 := hide (HK14.out.below b15)
        have HR15 := hide (HR14.out.below b15)
        have l15a := run_ldTo (HB14.out.below b15)
        have l15b := run_ldTo HK15.out.box
        have HEq2 := hide (rtEqual_true c p2 p w15 (HS14.out.below b15) HK15.out.src HE2.out)
        clear b15 l14a l14b HK14 HR14 HEq1 HB14 HS14
        go_wp2_with fail
        refine HEq2.out.mono ?_
        rintro e w16 ⟨rfl, b16⟩
        have HK16 := hide (HK15.out.below b16)
        have HR16 := hide (HR15.out.below b16)
        clear b16 l15a l15b HEq2 HK15 HR15 HE1 HE2
        go_wp2_with fail
        have hcapm : m ≤ cc := HR16.out.cap
        go_loopw [8, 19] (fun e i wr => ∃ (x : Int) (k : Nat), e = .int .i64 x ∧ i = .int .i64 k ∧ k ≤ m ∧ k ≤ 300 ∧ Hid (Below w16.heap.size w16 wr)) (fun _ i _ => 300 - (intOf i).toNat)
        case atStart => exact ⟨0, 0, rfl, rfl, Nat.zero_le _, by decide, Below.refl _ _⟩
        case round =>
          obtain ⟨x, k, rfl, rfl, hkm, hk3, HW⟩ := hrel
          rename World => wr
          by_cases hlt : k < m
          · by_cases h300 : k < 300
            · obtain ⟨t, ht⟩ : ∃ t : Nat, t + 1 + k = m := ⟨m - 1 - k, by omega⟩
              have hti : (m : Int) - 1 - (k : Int) = (t : Int) := by omega
              have htc : t ≤ cc := by omega
              have htm : t < m := by omega
              have HG2 := hide (tokGet_any (some ⟨q8, 0, none⟩) t cc (Y.take t) wr (bs_src (bs_take (HR16.out.below HW.out).bs t (by simp) (by omega)) (oc_take HOY.out t)) htc (by omega))
              have HBad : Hid (∀ c' P', TokOk c' P' → Y.take t ≠ tokB c' P') := fun c' P' h' => by
                rw [← HY.out]
                exact tokB_cut HOk.out h' (by rw [HY.out, HM.out]; exact htm)
              clear ht
              go_wp2_with fail
              refine HG2.out.mono ?_
              rintro e w17 ⟨b17, h17⟩
              obtain rfl : e = .returned (.tuple #[ToV to0, .int .i64 8]) := by
                rcases h17 with ⟨c1, p1, h1, h2, -, -⟩ | ⟨-, h⟩
                · exact absurd h2 (HBad.out c1 p1.P h1)
                · exact h
              have HW2 := hide (HW.out.trans (b17.mono HW.out.size))
              clear h17 b17 HG2 hti
              go_wp2_with fail
              exact ⟨⟨8, k + 1, rfl, rfl, by omega, by omega, HW2⟩, by show 300 - (k + 1) < 300 - k; omega⟩
            · have h3i : ¬ ((k : Nat) : Int) < 300 := by omega
              have HRw := hide (HR16.out.below HW.out)
              have HKw := hide (HK16.out.below HW.out)
              have HLt := hide (U.BR.lit wr)
              have HYn := hide (below_new wr (.cells #[] 5))
              have HRl := hide (HRw.out.below HYn.out)
              have hb1 : 0 + m ≤ 140737488355328 := by omega
              have hb2 : m + 1 ≤ 140737488355328 := by omega
              go_wp2_with first
                | (at_builtin; go_loud (refine U.BR.app1 hr1 0 hb2 rfl (.tmp 168) (.tmp 169) rfl rfl rfl ?_); intro bo2 c2 wx2 hr2 ha2)
                | (at_builtin; go_loud (refine U.BR.appB HLt.out HRl.out.bs hb1 rfl (.tmp 166) (.tmp 167) rfl rfl rfl ?_); intro bo1 c1 wx hr1 ha1; rw [Nat.zero_add, List.nil_append] at hr1; rw [Nat.zero_add])
              have hNw := ha1.fresh
              have hBx : Below w.heap.size w wx2 := HKw.out.bel.trans ((ap_newF hNw ha2).mono HKw.out.bel.size)
              have HBx := hide hBx
              have hOx : U.Oc (Y ++ [0]) := by
                refine oc_of_ob fun x hx => ?_
                rcases List.mem_append.1 hx with h | h
                · rw [← HY.out] at h; exact tokB_ob c p.P x h
                · rw [List.mem_singleton.1 h]; decide
              have HG3 := hide (tokGet_any bo2 (m + 1) c2 (Y ++ [0]) wx2 (bs_src hr2.bs hOx) hr2.cap (by omega))
              clear hNw hBx hOx hr1 hr2 ha1 ha2
              refine HG3.out.mono ?_
              rintro e w18 ⟨b18, h18⟩
              obtain rfl : e = .returned (.tuple #[ToV to0, .int .i64 8]) := by
                rcases h18 with ⟨c1, p1, h1, h2, -, -⟩ | ⟨-, h⟩
                · rw [← HY.out] at h2; exact absurd h2 (tokB_more HOk.out h1)
                · exact h
              have HBz := hide (HBx.out.trans (b18.mono HBx.out.size))
              clear h18 b18 HG3
              go_wp2_with fail
              go_ret
              exact ⟨rfl, HBz.out⟩
          · have hmi : ¬ ((k : Nat) : Int) < (m : Int) := by omega
            have HRw := hide (HR16.out.below HW.out)
            have HKw := hide (HK16.out.below HW.out)
            have HLt := hide (U.BR.lit wr)
            have HYn := hide (below_new wr (.cells #[] 5))
            have HRl := hide (HRw.out.below HYn.out)
            have hb1 : 0 + m ≤ 140737488355328 := by omega
            have hb2 : m + 1 ≤ 140737488355328 := by omega
            go_wp2_with first
              | (at_builtin; go_loud (refine U.BR.app1 hr1 0 hb2 rfl (.tmp 168) (.tmp 169) rfl rfl rfl ?_); intro bo2 c2 wx2 hr2 ha2)
              | (at_builtin; go_loud (refine U.BR.appB HLt.out HRl.out.bs hb1 rfl (.tmp 166) (.tmp 167) rfl rfl rfl ?_); intro bo1 c1 wx hr1 ha1; rw [Nat.zero_add, List.nil_append] at hr1; rw [Nat.zero_add])
            have hNw := ha1.fresh
            have hBx : Below w.heap.size w wx2 := HKw.out.bel.trans ((ap_newF hNw ha2).mono HKw.out.bel.size)
            have HBx := hide hBx
            have hOx : U.Oc (Y ++ [0]) := by
              refine oc_of_ob fun x hx => ?_
              rcases List.mem_append.1 hx with h | h
              · rw [← HY.out] at h; exact tokB_ob c p.P x h
              · rw [List.mem_singleton.1 h]; decide
            have HG3 := hide (tokGet_any bo2 (m + 1) c2 (Y ++ [0]) wx2 (bs_src hr2.bs hOx) hr2.cap (by omega))
            clear hNw hBx hOx hr1 hr2 ha1 ha2
            refine HG3.out.mono ?_
            rintro e w18 ⟨b18, h18⟩
            obtain rfl : e = .returned (.tuple #[ToV to0, .int .i64 8]) := by
              rcases h18 with ⟨c1, p1, h1, h2, -, -⟩ | ⟨-, h⟩
              · rw [← HY.out] at h2; exact absurd h2 (tokB_more HOk.out h1)
              · exact h
            have HBz := hide (HBx.out.trans (b18.mono HBx.out.size))
            clear h18 b18 HG3
            go_wp2_with fail
            go_ret
            exact ⟨rfl, HBz.out⟩
      · obtain ⟨rfl, b8⟩ : e = .returned (.tuple #[.slice none 0 0, .int .i64 1]) ∧ Below wy.heap.size wy w8 := by
          rcases h8 with ⟨-, h1, h2⟩ | ⟨h, -⟩
          · exact ⟨h1, h2⟩
          · exact absurd h hok
        have HK8 := hide (HKy.out.below b8)
        have l8 := run_ldTo HK8.out.box
        have HNo := hide hok
        clear h8 b8 ly hok
        go_wp2_with fail
        refine (text_any c p w8 HK8.out.src).mono ?_
        rintro e w9 (⟨-, rfl, b9⟩ | ⟨hy, -, -⟩)
        · have HK9 := hide (HK8.out.below b9)
          have l9 := run_ldTo HK9.out.box
          clear l8 b9
          go_wp2_with fail
          refine (rtCheck_any c p w9 HK9.out.src).mono ?_
          rintro e w10 ⟨x, rfl, hx, b10⟩
          obtain rfl : x = 1 := by
            rcases hx with ⟨rfl, -⟩ | ⟨-, hy⟩
            · rfl
            · exact absurd hy HNo.out
          have HK10 := hide (HK9.out.below b10)
          clear l9 hx b10
          go_wp2_with fail
          go_ret
          exact ⟨rfl, HK10.out.bel⟩
        · exact absurd hy HNo.out
end Go.Proofs.Ytnghfnhpjdafmaa
