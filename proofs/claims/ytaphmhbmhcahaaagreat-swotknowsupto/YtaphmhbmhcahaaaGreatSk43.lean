/- SYb SYd -/
import Derived.Test.YtaphmhbmhcahaaaGreatTk
import Derived.Test.YtaphmhbmhcahaaaGreatSk41
import Derived.Test.YtaphmhbmhcahaaaGreatSk42
set_option maxRecDepth 100000
set_option maxHeartbeats 12800000
namespace Go.Proofs.YtaphmhbmhcahaaaGreat
section
open Go.RowKit
theorem bif_one {a b : Bool} {P : Prop} (h : BIf a P) (k : BIf b P) : a = b := Bool.eq_iff_iff.2 (h.out.trans k.out.symm)
def eD (d : Rn) : K.En := ⟨d.lo, d.hi, ⟨#[]⟩, 0⟩
theorem dotIn_eD (P : Pst) (d : Rn) : dotIn P d ↔ inB P (eD d) = true := (inB_iff P (eD d)).symm
theorem inB_eD {P : Pst} {e : K.En} {d : Rn} (h : dotOf e = d) : inB P e = inB P (eD d) := by subst h; rfl
def LvD (s : Fc) (d : Rn) : Prop := ∃ e ∈ s.es, dotOf e = d
theorem KnOf.cases {s : Fc} {d : Rn} {x : Int} (hf : FormS s) (h : KnOf s d x) : (¬ inB s.p.P (eD d) = true /\ x = 0) ∨ (inB s.p.P (eD d) = true /\ LvD s d /\ x = 1) ∨ (inB s.p.P (eD d) = true /\ ¬ LvD s d /\ x = 2) := by
 rcases h with ⟨h, rfl⟩ | ⟨⟨-, h⟩, h2, rfl⟩ | ⟨⟨-, h⟩, h2, rfl⟩
 ·exact .inl ⟨fun k => h ⟨hf, (dotIn_eD _ _).2 k⟩, rfl⟩
 ·exact .inr (.inl ⟨(dotIn_eD _ _).1 h, h2, rfl⟩)
 ·exact .inr (.inr ⟨(dotIn_eD _ _).1 h, h2, rfl⟩)
theorem KnOf.zero {d : Rn} {x : Int} (h : KnOf fz0 d x) : x = 0 := by
 have hn : ¬ dotIn fz0.p.P d := fun k => by
  have h1 := (dotIn_eD _ _).1 k; rw [show fz0.p.P = pv0.P from rfl, inB_0] at h1
  cases h1
 rcases h with ⟨-, h⟩ | ⟨⟨-, h⟩, -⟩ | ⟨⟨-, h⟩, -⟩
 ·exact h
 ·exact absurd h hn
 ·exact absurd h hn
theorem same_dot {x y : K.En} (h : dotOf x = dotOf y) : K.sameDot x y = true := by
 obtain ⟨a, b, c, e⟩ := x; obtain ⟨p, q, r, s⟩ := y; injection h with h1 h2; subst h1; subst h2; simp [K.sameDot]
theorem kn_one {a b j : Fc} {d : Rn} (fa : FmA (ab a)) (fb : FmA (ab b)) (hc : NoC (ab a) (ab b)) (h : JnA (ab a) (ab b) (ab j)) (hl : LvD a d) (hn : ¬ inB b.p.P (eD d) = true) : LvD j d ↔ ¬ BarD a b d := by
 obtain ⟨e, he, hd⟩ := hl; constructor
 ·rintro ⟨x, hx, hxd⟩ ⟨y, hy, hyd, r, hr, hcv⟩; obtain ⟨⟨k1, -, -⟩, -, k5⟩ := (h.live hc x).1 hx; have hxa : x ∈ a.es := k1.elim id fun k => absurd (by rw [<- inB_eD hxd]; exact fb.h x k) hn; have : x = y := asc_dotS fa.asc hxa hy (same_dot (hxd.trans hyd.symm)); subst this; have h1 := k5 (rck r) (List.mem_map.2 ⟨r, hr, rfl⟩); rw [show covA (rck r) x = covB r x from rfl, hcv] at h1
  cases h1
 ·intro hb; refine ⟨e, (h.live hc e).2 ⟨⟨.inl he, fun _ => he, fun k => absurd (by rw [<- inB_eD hd]; exact k) hn⟩, fa.f e he, fun q hq => ?_⟩, hd⟩; obtain ⟨r, hr, rfl⟩ := List.mem_map.1 hq; exact Bool.eq_false_iff.2 fun k => hb ⟨e, he, hd, r, hr, k⟩
theorem kn_join {wa wb wj : World} {a b j : Fc} {d : Rn} {x y z : Int} (hA : FcOk wa a) (hB : FcOk wb b) (hJ : FcOk wj j) (fa : FormS a) (fb : FormS b) (hc : NoC (ab a) (ab b)) (h : JnA (ab a) (ab b) (ab j)) (hx : KnOf a d x) (hy : KnOf b d y) (hz : KnOf j d z) :
  (x = 0 /\ y = 0 /\ z = 0) ∨ (x = 1 /\ y = 1 /\ z = 1) ∨ (x = 2 /\ (y = 0 ∨ y = 1 ∨ y = 2) /\ z = 2) ∨ ((x = 0 ∨ x = 1) /\ y = 2 /\ z = 2) ∨ (x = 1 /\ y = 0 /\ ((BarD a b d /\ z = 2) ∨ (¬ BarD a b d /\ z = 1))) ∨ (x = 0 /\ y = 1 /\ ((BarD b a d /\ z = 2) ∨ (¬ BarD b a d /\ z = 1))) := by
 have ga := (fm_iff hA).1 fa; have gb := (fm_iff hB).1 fb; have gj := h.form ga gb; have fj := (fm_iff hJ).2 gj; have hi : inB j.p.P (eD d) = true ↔ inB a.p.P (eD d) = true ∨ inB b.p.P (eD d) = true := h.d (eD d)
 have gone : (inB a.p.P (eD d) = true /\ ¬ LvD a d) ∨ (inB b.p.P (eD d) = true /\ ¬ LvD b d) -> ¬ LvD j d := by
  rintro k ⟨e, he, hd⟩; obtain ⟨⟨-, k2, k3⟩, -⟩ := (h.live hc e).1 he; rcases k with ⟨k, kn⟩ | ⟨k, kn⟩
  ·exact kn ⟨e, k2 (by rw [show (ab a).P = a.p.P from rfl, inB_eD hd]; exact k), hd⟩
  ·exact kn ⟨e, k3 (by rw [show (ab b).P = b.p.P from rfl, inB_eD hd]; exact k), hd⟩
 have both : LvD a d -> LvD b d -> LvD j d := by
  rintro ⟨e, he, hd⟩ ⟨f, hf, hfd⟩; have : e = f := hc.at he hf (same_dot (hd.trans hfd.symm)); subst this; exact ⟨e, (h.live hc e).2 ⟨⟨.inl he, fun _ => he, fun _ => hf⟩, ga.f e he, gb.f e hf⟩, hd⟩
 rcases hx.cases fa with ⟨ia, rfl⟩ | ⟨ia, la, rfl⟩ | ⟨ia, la, rfl⟩ <;> rcases hy.cases fb with ⟨ib, rfl⟩ | ⟨ib, lb, rfl⟩ | ⟨ib, lb, rfl⟩ <;> rcases hz.cases fj with ⟨ij, rfl⟩ | ⟨ij, lj, rfl⟩ | ⟨ij, lj, rfl⟩
 all_goals first
  | exact absurd (hi.2 (.inl ia)) ij
  | exact absurd (hi.2 (.inr ib)) ij
  | exact absurd (hi.1 ij) (fun k => k.elim ia ib)
  | exact absurd lj (gone (.inl ⟨ia, la⟩))
  | exact absurd lj (gone (.inr ⟨ib, lb⟩))
  | exact absurd (both la lb) lj
  | exact .inl ⟨rfl, rfl, rfl⟩
  | exact .inr (.inl ⟨rfl, rfl, rfl⟩)
  | exact .inr (.inr (.inl ⟨rfl, .inl rfl, rfl⟩))
  | exact .inr (.inr (.inl ⟨rfl, .inr (.inl rfl), rfl⟩))
  | exact .inr (.inr (.inl ⟨rfl, .inr (.inr rfl), rfl⟩))
  | exact .inr (.inr (.inr (.inl ⟨.inl rfl, rfl, rfl⟩)))
  | exact .inr (.inr (.inr (.inl ⟨.inr rfl, rfl, rfl⟩)))
  | exact .inr (.inr (.inr (.inr (.inl ⟨rfl, rfl, .inr ⟨(kn_one ga gb hc h la ib).1 lj, rfl⟩⟩))))
  | exact .inr (.inr (.inr (.inr (.inl ⟨rfl, rfl, .inl ⟨Classical.byContradiction fun k => lj ((kn_one ga gb hc h la ib).2 k), rfl⟩⟩))))
  | exact .inr (.inr (.inr (.inr (.inr ⟨rfl, rfl, .inr ⟨(kn_one gb ga hc.comm h.comm lb ia).1 lj, rfl⟩⟩))))
  | exact .inr (.inr (.inr (.inr (.inr ⟨rfl, rfl, .inl ⟨Classical.byContradiction fun k => lj ((kn_one gb ga hc.comm h.comm lb ia).2 k), rfl⟩⟩))))
attribute [local go_sem ↓] ldP_eq stP_eq ldSw_eq stSw_eq ldD_eq stD_eq
attribute [local go_sem] cells_PV PC_size cells_FaV FaC_size zero_FaZ cells_RV RC_size zero_RC
theorem swotKnows_law (a b : Fc) (d : Rn) (w : World) (hA : FcU w a) (hB : FcU w b) : Calls Tryz.prog 6 #[FaV (mkF a), FaV (mkF b), RV d] w fun e w' => e = .returned (.bool true) /\ Below w.heap.size w w' := by
 obtain ⟨wk, hwk, HX, HY, HZ, HBK⟩ := box3R w a b d; obtain ⟨G, hG0⟩ : ∃ G, w.heap.size = G := ⟨_, rfl⟩; rw [hG0] at HX HY HZ; have HA := hide (hA.b.below HBK.out); have HB := hide (hB.b.below HBK.out); clear hA hB; go_enter Tryz.func6, Tryz.ntmps6; go_wp2_with fail; clear hwk hG0; refine (known_any _).mono ?_; rintro e w2 ⟨rfl, b2⟩; have HB2 := hide b2; have l1 := run_ldSw (HX.out.below b2); have l2 := run_ldSw (HY.out.below b2); clear b2; go_wp2_with fail; clear l1 l2; refine (swJoin_any 1 1 (by decide) a b _ (HA.out.below HB2.out) (HB.out.below HB2.out)).mono ?_; rintro e w3 ⟨s, er, rfl, BS, b3, DS⟩; obtain ⟨gj, hgj⟩ : ∃ g, w3.heap.size = g := ⟨_, rfl⟩; obtain ⟨w4, hst, X4, B4, -⟩ := madeSx w3 s gj hgj; have HB4 := hide (HB2.out.trans ((b3.trans (B4.mono b3.size)).mono HB2.out.size)); have HJ := hide X4; have HS := hide (BS.below B4); have HD := hide (sj_cases HA.out.ok HB.out.ok DS); have l1 := run_ldSw (HX.out.below HB4.out)
 clear BS b3 DS X4 B4; go_wp2_with fail; clear hst hgj l1; refine (refInForm_any a _ (HA.out.ok.below HB4.out)).mono ?_; rintro e w5 ⟨v, rfl, hv, b5⟩; have HB5 := wTr HB4 b5; have HJ5 := hide (HJ.out.below b5); have HS5 := hide (HS.out.below b5); clear b5
 cases v with
 | false =>
  have hn : ¬ (FormS a /\ FormS b) := fun h => by have := hv.2 h.1; cases this
  have HNo := hide hn; clear hv hn
  obtain ⟨rfl, rfl⟩ : er = 1 /\ s = fz0 := by
   rcases HD.out with ⟨-, h1, h2⟩ | ⟨h, -⟩ | ⟨h, -⟩
   ·exact ⟨h1, h2⟩
   ·exact absurd h HNo.out
   ·exact absurd h HNo.out
  have lj := run_ldSw HJ5.out
  have ld := run_ldD (HZ.out.below HB5.out).at
  go_wp2_with fail; clear lj ld; refine (swKnows_any fz0 d _ (HS5.out.u (by decide))).mono ?_; rintro e w9 ⟨x, rfl, hx, b9⟩; obtain rfl := hx.zero; have HE := hide (HBK.out.trans ((HB5.out.trans (b9.mono HB5.out.size)).mono HBK.out.size)); clear b9 hx; go_wp2_with fail; go_ret; exact ⟨rfl, HE.out⟩
 | true =>
 have HFa := hide (hv.1 rfl); have l1 := run_ldSw (HY.out.below HB5.out); clear hv; go_wp2_with fail; clear l1; refine (refInForm_any b _ (HB.out.ok.below HB5.out)).mono ?_; rintro e w6 ⟨v, rfl, hv, b6⟩; have HB6 := wTr HB5 b6; have HJ6 := hide (HJ5.out.below b6); have HS6 := hide (HS5.out.below b6); clear b6
 cases v with
 | false =>
  have hn : ¬ (FormS a /\ FormS b) := fun h => by have := hv.2 h.2; cases this
  have HNo := hide hn; clear hv hn
  obtain ⟨rfl, rfl⟩ : er = 1 /\ s = fz0 := by
   rcases HD.out with ⟨-, h1, h2⟩ | ⟨h, -⟩ | ⟨h, -⟩
   ·exact ⟨h1, h2⟩
   ·exact absurd h HNo.out
   ·exact absurd h HNo.out
  have lj := run_ldSw HJ6.out
  have ld := run_ldD (HZ.out.below HB6.out).at
  go_wp2_with fail; clear lj ld; refine (swKnows_any fz0 d _ (HS6.out.u (by decide))).mono ?_; rintro e w9 ⟨x, rfl, hx, b9⟩; obtain rfl := hx.zero; have HE := hide (HBK.out.trans ((HB6.out.trans (b9.mono HB6.out.size)).mono HBK.out.size)); clear b9 hx; go_wp2_with fail; go_ret; exact ⟨rfl, HE.out⟩
 | true =>
 have HFb := hide (hv.1 rfl); clear hv; rcases HD.out with ⟨h, -⟩ | ⟨-, -, rfl, -⟩ | ⟨-, hc, rfl, hj⟩
 ·exact absurd ⟨HFa.out, HFb.out⟩ h
 ·have HE := wTr HBK HB6.out; go_wp2_with fail; go_ret; exact ⟨rfl, HE.out⟩
 have HC : Hid (NoC (ab a) (ab b)) := hc; have HJn := hide hj; have HA6 := hide (HA.out.below HB6.out); have HB6' := hide (HB.out.below HB6.out)
 have HSt : Hid (∀ W, Below w6.heap.size w6 W -> (ldSw (.pointer (some ⟨G, 0, none⟩))).run Tryz.prog W = .ok (.agg (FaC (mkF a))) W /\ (ldSw (.pointer (some ⟨G + 1, 0, none⟩))).run Tryz.prog W = .ok (.agg (FaC (mkF b))) W /\ (ldD (.pointer (some ⟨G + 2, 0, none⟩))).run Tryz.prog W = .ok (RV d) W /\ (ldSw (.pointer (some ⟨gj, 0, none⟩))).run Tryz.prog W = .ok (.agg (FaC (mkF s))) W) := fun W hW =>
  ⟨run_ldSw ((HX.out.below HB6.out).below hW), run_ldSw ((HY.out.below HB6.out).below hW), run_ldD ((HZ.out.below HB6.out).below hW).at, run_ldSw (HJ6.out.below hW)⟩
 clear hc hj; go_upto_region 8 with fail; refine wp_region_held_drew (S := fun W => (ldSw (.pointer (some ⟨G, 0, none⟩))).run Tryz.prog W = .ok (.agg (FaC (mkF a))) W /\ (ldSw (.pointer (some ⟨G + 1, 0, none⟩))).run Tryz.prog W = .ok (.agg (FaC (mkF b))) W /\ (ldD (.pointer (some ⟨G + 2, 0, none⟩))).run Tryz.prog W = .ok (RV d) W /\ (ldSw (.pointer (some ⟨gj, 0, none⟩))).run Tryz.prog W = .ok (.agg (FaC (mkF s))) W) (by kernel_rfl) (HSt.out _ (below_drew1 w6)) (fun hHeld => ?_); refine wU 0 ?_; refine wU 1 ?_; refine wU 3 ?_; refine wU 4 ?_; refine wU 6 ?_; refine wU 7 ?_; refine wpAnyH_ready (rs := [2]) (by kernel_rfl) (by simp) (.cons rfl (fun K hK => ?_) .nil); go_simp; go_wp2_with fail; refine (swKnows_any a d _ ((HA6.out.below (below_drew1 w6)).u (by decide))).mono ?_; rintro e w7 ⟨x, rfl, hx, b0⟩; have b1 : Below w6.heap.size w6 w7 := (below_drew1 w6).trans b0; have HB7 := hide b1; have Hx := hide hx
 have HS0 := hide (HSt.out _ b1); refine hK.out _ _ HS0.out (fun hHeld => ?_); clear hK K b0 b1 HS0 hx; refine wpAnyH_ready (rs := [5]) (by kernel_rfl) (by simp) (.cons rfl (fun K hK => ?_) .nil); go_simp; go_wp2_with fail; refine (swKnows_any b d _ ((HB6'.out.below HB7.out).u (by decide))).mono ?_; rintro e w8 ⟨y, rfl, hy, b0⟩; have b1 : Below w6.heap.size w6 w8 := HB7.out.trans (b0.mono HB7.out.size); have HB8 := hide b1; have Hy := hide hy; have HS0 := hide (HSt.out _ b1); refine hK.out _ _ HS0.out (fun hHeld => ?_); clear hK K b0 b1 HS0 hy; refine wpAnyH_ready (rs := [8]) (by kernel_rfl) (by simp) (.cons rfl (fun K hK => ?_) .nil); go_simp; go_wp2_with fail; refine (swKnows_any s d _ ((HS6.out.below HB8.out).u (by decide))).mono ?_; rintro e w9 ⟨z, rfl, hz, b0⟩; have b1 : Below w6.heap.size w6 w9 := HB8.out.trans (b0.mono HB8.out.size); have HB9 := hide b1; have Hz := hide hz; have HS0 := hide (HSt.out _ b1)
 refine hK.out _ _ HS0.out (fun hHeld => ?_); clear hK K b0 b1 HS0 hz; refine wU 9 ?_; refine wU 10 ?_; refine wU 11 ?_; refine wpAnyH_done (by kernel_rfl) ?_ _; clear hHeld; have HW := wTr HB6 HB9.out; have HE := wTr HBK HW.out; have HKn := hide (kn_join HA6.out.ok HB6'.out.ok HS6.out.ok HFa.out HFb.out HC.out HJn.out Hx.out Hy.out Hz.out); clear HSt Hx Hy Hz HJn HC HD; have key := HKn.out; clear HKn; rcases key with ⟨rfl, rfl, rfl⟩ | ⟨rfl, rfl, rfl⟩ | ⟨rfl, rfl | rfl | rfl, rfl⟩ | ⟨rfl | rfl, rfl, rfl⟩ | ⟨rfl, rfl, hk⟩ | ⟨rfl, rfl, hk⟩
 ·go_wp2_with fail; go_ret; exact ⟨rfl, HE.out⟩
 ·go_wp2_with fail; go_ret; exact ⟨rfl, HE.out⟩
 ·go_wp2_with fail; go_ret; exact ⟨rfl, HE.out⟩
 ·go_wp2_with fail; go_ret; exact ⟨rfl, HE.out⟩
 ·go_wp2_with fail; go_ret; exact ⟨rfl, HE.out⟩
 ·go_wp2_with fail; go_ret; exact ⟨rfl, HE.out⟩
 ·go_wp2_with fail; go_ret; exact ⟨rfl, HE.out⟩
 ·have lp := run_ldSw (HX.out.below HW.out); have lq := run_ldSw (HY.out.below HW.out)
  have ld := run_ldD (HZ.out.below HW.out).at
  have HK := hide hk; clear hk; go_wp2_with fail; clear lp lq ld; refine (barred_any a b d _ ((HA.out.below HW.out).ok) ((HB.out.below HW.out).ok)).mono ?_; rintro e wa ⟨v, rfl, hv, ba⟩; have HVa := wTr HW ba; have HVv := hide hv; have lp := run_ldSw (HX.out.below HVa.out); have lq := run_ldSw (HY.out.below HVa.out)
  have ld := run_ldD (HZ.out.below HVa.out).at
  clear ba hv; have hk := HK.out; rcases hk with ⟨hb, rfl⟩ | ⟨hb, rfl⟩
  ·obtain rfl : v = true := HVv.out.2 hb; have HBb := hide hb; clear hb; go_wp2_with fail; clear lp lq ld; refine (barred_any a b d _ ((HA.out.below HVa.out).ok) ((HB.out.below HVa.out).ok)).mono ?_; rintro e wb ⟨u, rfl, hu, bb⟩; obtain rfl : u = true := bif_one hu HVv.out; have HE := hide (HBK.out.trans ((HVa.out.trans (bb.mono HVa.out.size)).mono HBK.out.size)); clear bb hu; go_wp2_with fail; go_ret; exact ⟨rfl, HE.out⟩
  ·obtain rfl : v = false := Bool.eq_false_iff.2 fun k => hb (HVv.out.1 k); have HBb := hide hb; clear hb; go_wp2_with fail; clear lp lq ld; refine (barred_any a b d _ ((HA.out.below HVa.out).ok) ((HB.out.below HVa.out).ok)).mono ?_; rintro e wb ⟨u, rfl, hu, bb⟩; obtain rfl : u = false := bif_one hu HVv.out; have HE := hide (HBK.out.trans ((HVa.out.trans (bb.mono HVa.out.size)).mono HBK.out.size)); clear bb hu; go_wp2_with fail; go_ret; exact ⟨rfl, HE.out⟩
 ·have lp := run_ldSw (HY.out.below HW.out); have lq := run_ldSw (HX.out.below HW.out)
  have ld := run_ldD (HZ.out.below HW.out).at
  have HK := hide hk; clear hk; go_wp2_with fail; clear lp lq ld; refine (barred_any b a d _ ((HB.out.below HW.out).ok) ((HA.out.below HW.out).ok)).mono ?_; rintro e wa ⟨v, rfl, hv, ba⟩; have HVa := wTr HW ba; have HVv := hide hv; have lp := run_ldSw (HY.out.below HVa.out); have lq := run_ldSw (HX.out.below HVa.out)
  have ld := run_ldD (HZ.out.below HVa.out).at
  clear ba hv; have hk := HK.out; rcases hk with ⟨hb, rfl⟩ | ⟨hb, rfl⟩
  ·obtain rfl : v = true := HVv.out.2 hb; have HBb := hide hb; clear hb; go_wp2_with fail; clear lp lq ld; refine (barred_any b a d _ ((HB.out.below HVa.out).ok) ((HA.out.below HVa.out).ok)).mono ?_; rintro e wb ⟨u, rfl, hu, bb⟩; obtain rfl : u = true := bif_one hu HVv.out; have HE := hide (HBK.out.trans ((HVa.out.trans (bb.mono HVa.out.size)).mono HBK.out.size)); clear bb hu; go_wp2_with fail; go_ret; exact ⟨rfl, HE.out⟩
  ·obtain rfl : v = false := Bool.eq_false_iff.2 fun k => hb (HVv.out.1 k); have HBb := hide hb; clear hb; go_wp2_with fail; clear lp lq ld; refine (barred_any b a d _ ((HB.out.below HVa.out).ok) ((HA.out.below HVa.out).ok)).mono ?_; rintro e wb ⟨u, rfl, hu, bb⟩; obtain rfl : u = false := bif_one hu HVv.out; have HE := hide (HBK.out.trans ((HVa.out.trans (bb.mono HVa.out.size)).mono HBK.out.size)); clear bb hu; go_wp2_with fail; go_ret; exact ⟨rfl, HE.out⟩
theorem swotKnows_u (a b : Fc) (d : Rn) (w : World) (hA : FcU w a) (hB : FcU w b) (_h : True) :
  Calls Tryz.prog 6 #[FaV (mkF a), FaV (mkF b), RV d] w fun e w' => e = .returned (.bool true) /\ Below w.heap.size w w' := swotKnows_law a b d w hA hB
end
section
open Go.ChangeShapes Go.WideShapes Go.ChangeAt Go.RowKit Go.Joins
theorem cellsDtT : Tryz.prog.cellsOf 43 = 2 := by kernel_rfl
theorem cellsIT : Tryz.prog.cellsOf 3 = 1 := by kernel_rfl
theorem list2T {α : Type} {l : List α} (h : l.length = 2) : ∃ a b, l = [a, b] := by
 match l, h with
 | [a, b], _ => exact ⟨a, b, rfl⟩
theorem open_dotU {H : Type} {enc : TypeId × Value -> H} {w : World} {base : Nat} {spare : Nat -> Bool} {held : Bool} {fuel : Nat} {cs : List Value} {x : DataW H × List MemPlace}
  (h : DataW.trod enc Tryz.prog w base spare held fuel 43 cs = some x) (_hw : Rows.uptoBulk x.1 <= 1048576) : ∃ e : Rn, cs = (RC e).toList /\ True := by
 obtain ⟨xs, m, _, hx, hcl, hxl, hf⟩ := DataW.trod_struct Tryz.underlying43 h; obtain ⟨v0, v1, rfl⟩ := list2T (hcl.trans cellsDtT); obtain ⟨y0, y1, rfl⟩ := list2T hxl; have t0 := hf 0 _ rfl; have t1 := hf 1 _ rfl; simp [cellsIT] at t0 t1; obtain ⟨r, e0, -, _⟩ := DataW.trod_int Tryz.underlying3 t0; obtain ⟨n, e1, -, _⟩ := DataW.trod_int Tryz.underlying3 t1; simp only [List.cons.injEq, and_true] at e0 e1; subst e0 e1; exact ⟨⟨r, n⟩, rfl, trivial⟩
end
end Go.Proofs.YtaphmhbmhcahaaaGreat
