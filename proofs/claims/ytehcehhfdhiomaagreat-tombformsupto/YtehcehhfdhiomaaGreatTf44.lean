/- TFm -/
import Derived.Test.YtehcehhfdhiomaaGreatTf43
namespace Go.Proofs.YtehcehhfdhiomaaGreat
open Go.RowKit
theorem vec0_not : ¬ InForm (⟨[0], []⟩ : Pst) := fun h => absurd h.1 (by decide)
theorem run_bldFg (v : Option Addr) (m d : Nat) (w : World) : (bldF #[(1, .agg #[.slice v m d, .slice none 0 0])]).run Tryz.prog w = .ok (.agg #[.slice none 0 0, .slice v m d, .slice none 0 0, .slice none 0 0]) w := by kernel_rfl
def LvG (f : Fc) (L : List K.En) (er : Int) : Prop := (FormF f ∧ L = liveL f ∧ er = 0) ∨ (¬ FormF f ∧ L = [] ∧ er = 1)
theorem LvA.gives {w w' : World} {e : Ending} {f : Fc} (h : LvA w w' e f) : ∃ L er, K.GivesEE w w' e L er ∧ LvG f L er := by
 rcases h with ⟨h1, h2⟩ | ⟨h1, h2⟩
 ·exact ⟨_, _, h2, .inl ⟨h1, rfl, rfl⟩⟩
 ·exact ⟨_, _, h2, .inr ⟨h1, rfl, rfl⟩⟩
theorem LvG.one {f : Fc} {L M : List K.En} {x y : Int} (h : LvG f L x) (k : LvG f M y) : L = M ∧ x = y := by
 rcases h with ⟨h1, rfl, rfl⟩ | ⟨h1, rfl, rfl⟩ <;> rcases k with ⟨k1, rfl, rfl⟩ | ⟨k1, rfl, rfl⟩
 ·exact ⟨rfl, rfl⟩
 ·exact absurd h1 k1
 ·exact absurd k1 h1
 ·exact ⟨rfl, rfl⟩
theorem PsD.one {f : Fc} {P Q : Pst} {x y : Int} (h : PsD f P x) (k : PsD f Q y) : P = Q ∧ x = y := by
 rcases h with ⟨h1, rfl, rfl⟩ | ⟨h1, rfl, h2, h3⟩ <;> rcases k with ⟨k1, rfl, rfl⟩ | ⟨k1, rfl, k2, k3⟩
 ·exact ⟨rfl, rfl⟩
 ·exact absurd k1 h1
 ·exact absurd h1 k1
 ·exact ⟨past_one h2 k2 h3 k3, rfl⟩
theorem ChkF.one {f : Fc} {x y : Int} (h : ChkF f x) (k : ChkF f y) : x = y := by
 rcases h with ⟨rfl, h⟩ | ⟨rfl, h⟩ <;> rcases k with ⟨rfl, k⟩ | ⟨rfl, k⟩
 ·rfl
 ·exact absurd h k
 ·exact absurd k h
 ·rfl
attribute [local go_sem ↓] ldP_eq stP_eq ldFa_eq stFa_eq bldF_eq bldP_eq
attribute [local go_sem] cells_PV PC_size cells_FaV FaC_size zero_FaZ run_bldP1 run_bldFg
set_option maxRecDepth 100000 in
set_option maxHeartbeats 6400000 in
theorem tombForms_law (f : Fc) (w : World) (hF : FcU w f) :
  Calls Tryz.prog 3 #[FaV (mkF f)] w fun e w' => e = .returned (.bool true) ∧ Below w.heap.size w w' := by
 have HU := hide hF
 have HBK := hide (below_new w (.cells (FaC (mkF f)) 29))
 have X1 := FaBox_new w (mkF f)
 obtain ⟨wk, hwk⟩ : ∃ w1, w.alloc (.cells (FaC (mkF f)) 29) = w1 := ⟨_, rfl⟩
 rw [hwk] at HBK X1
 obtain ⟨G, hG0⟩ : ∃ G, w.heap.size = G := ⟨_, rfl⟩
 rw [hG0] at X1
 have HX := hide X1
 have HF := hide (hF.ok.below HBK.out)
 have HC := hide (Below.refl wk.heap.size wk)
 clear hF X1
 go_enter Tryz.func3, Tryz.ntmps3
 go_wp2_with fail
 clear hwk hG0
 refine (awake_any _).mono ?_
 rintro e w1 ⟨rfl, bq⟩
 replace HC := hide (HC.out.trans (bq.mono HC.out.size))
 clear bq
 go_wp2_with fail
 refine (someL_any _).mono ?_
 rintro e w2 ⟨t, rfl, F1, -, -, bq, S1⟩
 replace HC := hide (HC.out.trans (bq.mono HC.out.size))
 have HS1 := hide F1
 have HSD := hide S1
 clear bq F1 S1
 go_wp2_with fail
 refine (tCheck_any t _ HS1.out).mono ?_
 rintro e w3 ⟨x, rfl, hx, bq⟩
 obtain rfl : x = 0 := by
  rcases hx with ⟨rfl, -⟩ | ⟨-, q⟩
  ·rfl
  ·exact absurd (some_form HSD.out) q
 replace HC := hide (HC.out.trans (bq.mono HC.out.size))
 clear hx bq HS1 HSD
 obtain ⟨g4, hg4⟩ : ∃ g, w3.heap.size = g := ⟨_, rfl⟩
 have V4 := vsrc_lit w3 3 #[.int .i64 0] [0] rfl g4 1 hg4 rfl
 have b4 := below_new w3 (.cells #[.int .i64 0] 3)
 obtain ⟨w4, hw4⟩ : ∃ w4, w3.alloc (.cells #[.int .i64 0] 3) = w4 := ⟨_, rfl⟩
 rw [hw4] at V4 b4
 replace HC := hide (HC.out.trans (b4.mono HC.out.size))
 have HF4 : Hid (FcOk w4 ⟨none, 0, 0, [], ⟨some ⟨g4, 0, none⟩, 1, 1, none, 0, 0, ⟨[0], []⟩⟩, none, 0, 0, []⟩) := ⟨esrc_nil _, ⟨V4, SSrc.empty _, (show (1 : Nat) ≤ 17592186044415 by decide)⟩, RcS.empty _⟩
 clear V4 b4
 go_wp2_with fail
 clear hg4 hw4
 refine (tCheck_any ⟨none, 0, 0, [], ⟨some ⟨g4, 0, none⟩, 1, 1, none, 0, 0, ⟨[0], []⟩⟩, none, 0, 0, []⟩ _ HF4.out).mono ?_
 rintro e w5 ⟨x, rfl, hx, bq⟩
 obtain rfl : x = 1 := by
  rcases hx with ⟨-, q⟩ | ⟨rfl, -⟩
  ·exact absurd q.2.1 vec0_not
  ·rfl
 replace HC := hide (HC.out.trans (bq.mono HC.out.size))
 clear hx bq HF4
 have lf := run_ldFa (HX.out.below HC.out)
 go_wp2_with fail
 clear lf
 refine (refCheckF_any f _ (HF.out.below HC.out)).mono ?_
 rintro e w6 ⟨x, rfl, hx, bq⟩
 replace HC := hide (HC.out.trans (bq.mono HC.out.size))
 have Hx := hide hx
 clear hx bq
 have lf := run_ldFa (HX.out.below HC.out)
 go_wp2_with fail
 clear lf
 refine (refLive_any f _ (HF.out.below HC.out)).mono ?_
 rintro e w7 h7
 obtain ⟨L, er, ⟨lo, ln, lc, rfl, S7, bq, -⟩, hL⟩ := h7.gives
 replace HC := hide (HC.out.trans (bq.mono HC.out.size))
 have HL := hide S7
 have HLg := hide hL
 clear h7 S7 bq hL
 have lf := run_ldFa (HX.out.below HC.out)
 go_wp2_with fail
 clear lf
 refine (refPast_any f _ (HF.out.below HC.out)).mono ?_
 rintro e w8 ⟨p, ep, rfl, P8, -, b8, D8⟩
 obtain ⟨g9, hg0⟩ : ∃ g, w8.heap.size = g := ⟨_, rfl⟩
 obtain ⟨w9, hst, X9, B9, -⟩ := madeP w8 p g9 hg0
 replace hst : (stP (.pointer (some ⟨g9, 0, none⟩)) (PV p)).run Tryz.prog (w8.alloc (.cells #[.slice none 0 0, .slice none 0 0] 26)) = .ok () w9 := hst
 have b89 := b8.trans (B9.mono b8.size)
 replace HC := hide (HC.out.trans (b89.mono HC.out.size))
 replace HL := hide (HL.out.below b89)
 have HP := hide (P8.below B9)
 have HXp := hide X9
 have HDp := hide D8
 clear P8 b8 D8 X9 B9 b89
 have lf := run_ldFa (HX.out.below HC.out)
 go_wp2_with fail
 clear hst hg0 lf
 refine (tCheck_any f _ (HF.out.below HC.out)).mono ?_
 rintro e w10 ⟨y, rfl, hy, bq⟩
 obtain rfl : x = y := Hx.out.one hy
 have hxx : (x != x) = false := by simp
 replace HC := hide (HC.out.trans (bq.mono HC.out.size))
 replace HL := hide (HL.out.below bq)
 replace HP := hide (HP.out.below bq)
 replace HXp := hide (HXp.out.below bq)
 clear hy bq Hx
 have lf := run_ldFa (HX.out.below HC.out)
 obtain ⟨hp1, hp2⟩ := live_own HU.out
 go_wp2_with fail
 clear lf hxx
 refine (tLive_any f _ (HF.out.below HC.out) hp1 hp2).mono ?_
 rintro e w11 h11
 obtain ⟨M, es, ⟨mo, mn, mc, rfl, S11, bq, -⟩, hM⟩ := h11.gives
 obtain ⟨rfl, rfl⟩ := HLg.out.one hM
 have hee : (er != er) = false := by simp
 replace HC := hide (HC.out.trans (bq.mono HC.out.size))
 replace HL := hide (HL.out.below bq)
 replace HP := hide (HP.out.below bq)
 replace HXp := hide (HXp.out.below bq)
 have HM := hide S11
 clear h11 S11 bq hM hp1 hp2
 go_wp2_with fail
 clear hee
 refine (K.same_any mo lo mn mc ln lc L L _ HM.out HL.out rfl).mono ?_
 rintro e w12 ⟨rfl, bq⟩
 replace HC := hide (HC.out.trans (bq.mono HC.out.size))
 replace HP := hide (HP.out.below bq)
 replace HXp := hide (HXp.out.below bq)
 clear bq HM HL HLg
 have lf := run_ldFa (HX.out.below HC.out)
 go_wp2_with fail
 clear lf
 refine (tPast_any f _ (HF.out.below HC.out)).mono ?_
 rintro e w13 ⟨q, eq, rfl, P13, -, b13, D13⟩
 obtain ⟨hpq, rfl⟩ := HDp.out.one D13
 have hee : (ep == ep) = true := by simp
 obtain ⟨g14, hg0⟩ : ∃ g, w13.heap.size = g := ⟨_, rfl⟩
 obtain ⟨w14, hst, X14, B14, -⟩ := madeP w13 q g14 hg0
 replace hst : (stP (.pointer (some ⟨g14, 0, none⟩)) (PV q)).run Tryz.prog (w13.alloc (.cells #[.slice none 0 0, .slice none 0 0] 26)) = .ok () w14 := hst
 have b14 := b13.trans (B14.mono b13.size)
 replace HC := hide (HC.out.trans (b14.mono HC.out.size))
 replace HP := hide (HP.out.below b14)
 have HQ := hide (P13.below B14)
 have Hpq := hide hpq
 have lq := run_ldP X14.at
 have lp := run_ldP (HXp.out.below b14).at
 clear P13 b13 D13 X14 B14 b14 hpq
 go_wp2_with fail
 clear hst hg0 lq lp hee
 refine (samePast_any q p _ HQ.out HP.out).mono ?_
 rintro e w15 ⟨z, rfl, hz, bq⟩
 obtain rfl : z = true := hz.2 Hpq.out.symm
 have HE := hide (HBK.out.trans ((HC.out.trans (bq.mono HC.out.size)).mono HBK.out.size))
 clear hz bq
 go_wp2_with fail
 go_ret
 exact ⟨rfl, HE.out⟩
theorem tombForms_u (f : Fc) (w : World) (hF : FcU w f) :
  Calls Tryz.prog 3 #[FaV (mkF f)] w fun e w' => e = .returned (.bool true) ∧ Below w.heap.size w w' := tombForms_law f w hF
end Go.Proofs.YtehcehhfdhiomaaGreat
