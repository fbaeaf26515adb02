/- HKw -/
import Derived.Test.YtalcmdjiejhkgaaGreatTk
import Derived.Test.YtalcmdjiejhkgaaGreatKw36
import Derived.Test.YtalcmdjiejhkgaaGreatKw37
import Derived.Test.YtalcmdjiejhkgaaGreatKw42
import Derived.Test.YtalcmdjiejhkgaaGreatKw25
import Derived.Test.YtalcmdjiejhkgaaGreatKw38
import Derived.Test.YtalcmdjiejhkgaaGreatKw10
set_option maxRecDepth 100000
set_option maxHeartbeats 12800000
namespace Go.Proofs.YtalcmdjiejhkgaaGreat
open Go.RowKit
theorem WtOf.srt {L F : List Rc} {P : Pst} (h : WtOf L P F) (hs : Srt ck (plR L)) : Srt ck (plR F) := by rw [h.2]; exact List.Pairwise.filter _ hs
theorem WtOf.okR {L F : List Rc} {P : Pst} (h : WtOf L P F) (hs : Srt ck (plR L)) : OkR F F.length := okR_iff.2 ⟨h.1, h.srt hs⟩
theorem WtOf.mem {L F : List Rc} {P : Pst} (h : WtOf L P F) (y : Rp) : y ∈ plR F ↔ y ∈ plR L /\ ¬ wiP y.2 P := by
 rw [h.2, List.mem_filter]
 unfold waitB
 simp
theorem wt_union {R Q U A B C D : List Rc} {P : Pst} (u : UnOf R Q U) (a : WtOf U P A) (b : WtOf R P B) (c : WtOf Q P C) (d : UnOf B C D) : plR A = plR D := by
 refine Srt.uniq ck_tot (a.srt u.1.1) d.1.1 (fun y => ?_)
 rw [a.mem, d.1.2, b.mem, c.mem, u.1.2]
 constructor
 ·rintro ⟨h | h, k⟩
  ·exact .inl ⟨h, k⟩
  ·exact .inr ⟨h, k⟩
 ·rintro (⟨h, k⟩ | ⟨h, k⟩)
  ·exact ⟨.inl h, k⟩
  ·exact ⟨.inr h, k⟩
theorem wt_more {U A F : List Rc} {P P' : Pst} (a : WtOf U P A) (f : WtOf U P' F) (h : wiP P P') : ∀ y ∈ plR F, y ∈ plR A := fun y hy => by
 rw [f.mem] at hy
 rw [a.mem]
 exact ⟨hy.1, fun k => hy.2 (fun r hr n hn => h r hr n (k r hr n hn))⟩
theorem un_single {A F G : List Rc} (u : UnOf A F G) (ha : Srt ck (plR A)) (h : ∀ y ∈ plR F, y ∈ plR A) : plR G = plR A :=
 Srt.uniq ck_tot u.1.1 ha (fun y => by rw [u.1.2]; exact ⟨fun k => k.elim id (h y), .inl⟩)
theorem wt_none {U G : List Rc} {P : Pst} (g : WtOf U P G) (h : ∀ j, j < U.length -> wiP (U.getD j rc0).p.P P) : G.length = 0 := by
 have e : plR G = [] := by
  rw [List.eq_nil_iff_forall_not_mem]
  intro y hy
  rw [g.mem] at hy
  obtain ⟨r, hr, rfl⟩ := List.mem_map.1 hy.1
  obtain ⟨j, hj, rfl⟩ := List.getElem_of_mem hr
  refine hy.2 ?_
  have := h j hj
  rwa [rcD_at hj] at this
 have := congrArg List.length e
 simpa [plR] using this
theorem piece_ok {F : List Rc} {k : Nat} (h : ∀ r ∈ F, RecOk r) (hk : k < F.length) : OkR ((F.drop k).take 1) 1 /\ plR ((F.drop k).take 1) = [rck (F.getD k rc0)] := by
 have e : (F.drop k).take 1 = [F.getD k rc0] := by
  rw [rcDrop hk, List.take_succ_cons, List.take_zero]
 rw [e]
 exact ⟨okR_iff.2 ⟨fun r hr => by rw [List.mem_singleton.1 hr]; exact h _ (rcD_mem hk), srt_small (by simp)⟩, rfl⟩
def slk (v a b : Value) : Sem Value := Instr.slice 22 v (some a) (some b) none
theorem slk_eq (v a b : Value) : Instr.slice 22 v (some a) (some b) none = slk v a b := rfl
theorem run_slk (b o n c k m : Nat) (hm : k + 1 = m) (hk : m <= n) (hc : n <= c) (w : World) : (slk (.slice (some ⟨b, o, none⟩) n c) (.int .i64 (k : Int)) (.int .i64 (m : Int))).run Tryz.prog w = .ok (.slice (some ⟨b, o + k * 3, none⟩) 1 (c - k)) w := by
 obtain ⟨i0, hi, hz0, hz1, hz2⟩ := info_parts infoRec
 unfold slk
 have e1 : (0 : Int) <= (k : Int) /\ (k : Int) <= (m : Int) /\ (m : Int) <= (c : Int) := by omega
 have e2 : ¬ c = k := by omega
 have e3 : m - k = 1 := by omega
 have e4 : k <= m /\ m <= c := by omega
 simp [Instr.slice, Instr.sliceBounds, Instr.sliceBound, asIntOf, run_underlying Tryz.underlying22, sizeOf, typeInfo, hi, hz1, e2, e3, e4, Addr.add]
theorem canon_len1 {P : Pst} (hP : InForm P) : P.cloud.length <= 8000000016 := by
 have h1 := (canon_len (canon_iff.2 hP : CanonOf (runsAt P) P)).1
 omega
theorem wt_oneK {p o : Pv} {w : World} (hp : InForm p.P) (ho : PSrc w o) : wt [p, o] <= 8796093022207 := by
 have h1 := canon_len1 hp
 have h2 := ho.cloud.len
 have h3 := ho.cloud.big
 simp only [wt]
 omega
attribute [local go_sem ↓] ldP_eq stP_eq ldRe_eq stRe_eq bsPs_eq slk_eq
attribute [local go_sem] cells_PV PC_size cells_KsV KsC_size zero_PC run_bsPs
theorem keepWaits_law (m : Ks) (R Q : List Rc) (A B : List K.En) (w : World) (hS : KsT w m R Q A B) :
  Calls Tryz.prog 4 #[KsV m] w fun e w' => e = .returned (.bool true) /\ Below w.heap.size w w' := by
 have HS := hide hS
 have HX := hide (KsBox_new w m)
 have HB := hide (below_new w (.cells (KsC m) 29))
 have hrn : m.rn <= 209716 := by have := hS.1.sr.1; rw [hS.1.r.len] at this; exact this
 have hqn : m.qn <= 209716 := by have := hS.1.sq.1; rw [hS.1.q.len] at this; exact this
 have HRL : Hid (R.length = m.rn /\ Q.length = m.qn /\ m.rn <= 209716 /\ m.qn <= 209716) := ⟨hS.1.r.len, hS.1.q.len, hrn, hqn⟩
 clear hS hrn hqn
 obtain ⟨wk, hwk⟩ : ∃ wk, w.alloc (.cells (KsC m) 29) = wk := ⟨_, rfl⟩
 obtain ⟨G, hG⟩ : ∃ G, w.heap.size = G := ⟨_, rfl⟩
 rw [hwk] at HX HB
 rw [hG] at HX
 go_enter Tryz.func4, Tryz.ntmps4
 go_wp2_with fail
 refine (fixed_any _).mono ?_
 rintro e w2 ⟨rfl, b2⟩
 have HK : Hid (BKc w w2 G m) := ⟨HX.out.below b2, HB.out.trans (b2.mono HB.out.size)⟩
 clear b2 HX HB hwk hG
 have lp := run_ldP HK.out.box.p
 go_wp2_with fail
 clear lp
 refine (pastNorm_any m.p _ (HS.out.1.p.below HK.out.bel)).mono ?_
 rintro e w3 ⟨p, rfl, Sp, -, b3, Cp⟩
 obtain ⟨gp, hgp⟩ : ∃ g, w3.heap.size = g := ⟨_, rfl⟩
 obtain ⟨w4, hst, X4, B4, -⟩ := madeP w3 p gp hgp
 have b34 := b3.trans (B4.mono b3.size)
 have HK1 := hide (HK.out.below b34)
 have HP : Hid (PBox w4 gp p /\ PSrc w4 p /\ InForm p.P) := ⟨X4, Sp.below B4, canon_iff.1 Cp.canon⟩
 have Zcp := hide (Below.refl w4.heap.size w4)
 clear Sp b3 Cp X4 B4 b34
 have c0 := HK1.out.box.r
 have c1 := HK1.out.box.q
 go_wp2_with fail
 clear c0 c1 hst hgp
 refine (keepUnion_any m.ro m.qo m.rn m.rc m.qn m.qc R Q _ (HS.out.2.1.below HK1.out.bel) (HS.out.2.2.below HK1.out.bel) (by have := HRL.out; omega)).mono ?_
 rintro e w5 (⟨hO, hQ, hu, U, rfl, GU, nU, UU⟩ | ⟨hno, rfl, b5⟩)
 rotate_left
 ·have HK9 := hide (HK1.out.below b5)
  have c0 := HK9.out.box.r
  clear b5
  go_wp2_with fail
  clear c0
  refine (refChkR_any m.ro m.rn m.rc R _ (HS.out.2.1.below HK9.out.bel).src).mono ?_
  rintro x w6 ⟨z, rfl, hz, b6⟩
  have HK10 := hide (HK9.out.below b6)
  clear b6
  rcases hz with ⟨rfl, hO⟩ | ⟨rfl, hO⟩
  rotate_left
  ·have HE := hide HK10.out.bel
   clear hO hno
   go_wp2_with fail
   go_ret
   exact ⟨rfl, HE.out⟩
  have c1 := HK10.out.box.q
  have HNo : Hid (¬ OkR Q m.qn) := fun h => hno ⟨hO, h⟩
  clear hO hno
  go_wp2_with fail
  clear c1
  refine (refChkR_any m.qo m.qn m.qc Q _ (HS.out.2.2.below HK10.out.bel).src).mono ?_
  rintro x w7 ⟨z, rfl, hz, b7⟩
  have HE := hide (HK10.out.below b7).bel
  rcases hz with ⟨rfl, hO⟩ | ⟨rfl, hO⟩
  ·exact absurd hO HNo.out
  clear hO b7
  go_wp2_with fail
  go_ret
  exact ⟨rfl, HE.out⟩
 have HU : Hid (RcT w5 hu.o hu.n hu.c U /\ UnOf R Q U /\ hu.n <= m.rn + m.qn /\ U.length = hu.n) := ⟨GU.row, UU, nU, GU.src.len⟩
 have HOO : Hid (OkR R m.rn /\ OkR Q m.qn) := ⟨hO, hQ⟩
 have b5 := GU.below
 have HK2 := hide (HK1.out.below b5)
 have Zcp_2 := hide (Zcp.out.trans (b5.mono Zcp.out.size))
 have Zcu := hide (Below.refl w5.heap.size w5)
 obtain ⟨uo, un, uc⟩ := hu
 rw [show HsV ⟨uo, un, uc⟩ = Value.slice uo un uc from rfl]
 clear GU UU nU hO hQ b5
 have HUO : Hid (OkR U un) := by have h := HU.out.2.1.ok; rw [HU.out.2.2.2] at h; exact h
 have c0 := HK2.out.box.r
 go_wp2_with fail
 clear c0
 refine (refChkR_any m.ro m.rn m.rc R _ (HS.out.2.1.below HK2.out.bel).src).mono ?_
 rintro x w6 ⟨z, rfl, hz, bq⟩
 rcases hz with ⟨rfl, -⟩ | ⟨rfl, hz⟩
 rotate_left
 ·exact absurd HOO.out.1 hz
 have HK3 := hide (HK2.out.below bq)
 have Zcp_3 := hide (Zcp_2.out.trans (bq.mono Zcp_2.out.size))
 have Zcu_3 := hide (Zcu.out.trans (bq.mono Zcu.out.size))
 clear bq
 have c1 := HK3.out.box.q
 go_wp2_with fail
 clear c1
 refine (refChkR_any m.qo m.qn m.qc Q _ (HS.out.2.2.below HK3.out.bel).src).mono ?_
 rintro x w7 ⟨z, rfl, hz, bq⟩
 rcases hz with ⟨rfl, -⟩ | ⟨rfl, hz⟩
 rotate_left
 ·exact absurd HOO.out.2 hz
 have HK4 := hide (HK3.out.below bq)
 have Zcp_4 := hide (Zcp_3.out.trans (bq.mono Zcp_3.out.size))
 have Zcu_4 := hide (Zcu_3.out.trans (bq.mono Zcu_3.out.size))
 clear bq
 go_wp2_with fail
 refine (refChkR_any uo un uc U _ (HU.out.1.below Zcu_4.out).src).mono ?_
 rintro x w8 ⟨z, rfl, hz, bq⟩
 rcases hz with ⟨rfl, -⟩ | ⟨rfl, hz⟩
 rotate_left
 ·exact absurd HUO.out hz
 have HK5 := hide (HK4.out.below bq)
 have Zcp_5 := hide (Zcp_4.out.trans (bq.mono Zcp_4.out.size))
 have Zcu_5 := hide (Zcu_4.out.trans (bq.mono Zcu_4.out.size))
 clear bq
 go_wp2_with fail
 refine (keepCheck_any uo un uc U _ (HU.out.1.below Zcu_5.out).src).mono ?_
 rintro x w9 ⟨z, rfl, hz, bq⟩
 rcases hz with ⟨rfl, -⟩ | ⟨rfl, hz⟩
 rotate_left
 ·exact absurd HUO.out hz
 have HK6 := hide (HK5.out.below bq)
 have Zcp_6 := hide (Zcp_5.out.trans (bq.mono Zcp_5.out.size))
 have Zcu_6 := hide (Zcu_5.out.trans (bq.mono Zcu_5.out.size))
 clear bq
 have lp := run_ldP (HP.out.1.below Zcp_6.out).at
 go_wp2_with fail
 clear lp
 refine (keepWaits_any uo un uc U p _ (HU.out.1.below Zcu_6.out) (HP.out.2.1.below Zcp_6.out) (by have := HRL.out; have := HU.out.2.2.1; omega)).mono ?_
 rintro e wa (⟨-, -, ha, AF, rfl, Ga, na, Wa⟩ | ⟨hno, -, -⟩)
 rotate_left
 ·exact absurd ⟨HUO.out, HP.out.2.2⟩ hno
 have HAw : Hid (RcT wa ha.o ha.n ha.c AF /\ WtOf U p.P AF /\ ha.n <= un /\ AF.length = ha.n) := ⟨Ga.row, Wa, na, Ga.src.len⟩
 have bq := Ga.below
 have HK7 := hide (HK6.out.below bq)
 have Zcp_7 := hide (Zcp_6.out.trans (bq.mono Zcp_6.out.size))
 have Zcu_7 := hide (Zcu_6.out.trans (bq.mono Zcu_6.out.size))
 have Zca := hide (Below.refl wa.heap.size wa)
 obtain ⟨ao, an, ac⟩ := ha
 rw [show HsV ⟨ao, an, ac⟩ = Value.slice ao an ac from rfl]
 clear Ga Wa na bq
 have c0 := HK7.out.box.r
 have lp := run_ldP (HP.out.1.below Zcp_7.out).at
 go_wp2_with fail
 clear lp c0
 refine (keepWaits_any m.ro m.rn m.rc R p _ (HS.out.2.1.below HK7.out.bel) (HP.out.2.1.below Zcp_7.out) (by have := HRL.out; have := HU.out.2.2.1; omega)).mono ?_
 rintro e wb (⟨-, -, hb, BF, rfl, Gb, nb, Wb⟩ | ⟨hno, -, -⟩)
 rotate_left
 ·exact absurd ⟨HOO.out.1, HP.out.2.2⟩ hno
 have HBw : Hid (RcT wb hb.o hb.n hb.c BF /\ WtOf R p.P BF /\ hb.n <= m.rn /\ BF.length = hb.n) := ⟨Gb.row, Wb, nb, Gb.src.len⟩
 have bq := Gb.below
 have HK8 := hide (HK7.out.below bq)
 have Zcp_8 := hide (Zcp_7.out.trans (bq.mono Zcp_7.out.size))
 have Zcu_8 := hide (Zcu_7.out.trans (bq.mono Zcu_7.out.size))
 have Zca_8 := hide (Zca.out.trans (bq.mono Zca.out.size))
 have Zcb := hide (Below.refl wb.heap.size wb)
 obtain ⟨bo, bn, bc⟩ := hb
 rw [show HsV ⟨bo, bn, bc⟩ = Value.slice bo bn bc from rfl]
 clear Gb Wb nb bq
 have c0 := HK8.out.box.q
 have lp := run_ldP (HP.out.1.below Zcp_8.out).at
 go_wp2_with fail
 clear lp c0
 refine (keepWaits_any m.qo m.qn m.qc Q p _ (HS.out.2.2.below HK8.out.bel) (HP.out.2.1.below Zcp_8.out) (by have := HRL.out; have := HU.out.2.2.1; omega)).mono ?_
 rintro e wc (⟨-, -, hc, CF, rfl, Gc, nc, Wc⟩ | ⟨hno, -, -⟩)
 rotate_left
 ·exact absurd ⟨HOO.out.2, HP.out.2.2⟩ hno
 have HCw : Hid (RcT wc hc.o hc.n hc.c CF /\ WtOf Q p.P CF /\ hc.n <= m.qn /\ CF.length = hc.n) := ⟨Gc.row, Wc, nc, Gc.src.len⟩
 have bq := Gc.below
 have HK9 := hide (HK8.out.below bq)
 have Zcp_9 := hide (Zcp_8.out.trans (bq.mono Zcp_8.out.size))
 have Zcu_9 := hide (Zcu_8.out.trans (bq.mono Zcu_8.out.size))
 have Zca_9 := hide (Zca_8.out.trans (bq.mono Zca_8.out.size))
 have Zcb_9 := hide (Zcb.out.trans (bq.mono Zcb.out.size))
 have Zcc := hide (Below.refl wc.heap.size wc)
 obtain ⟨co, cn, cc⟩ := hc
 rw [show HsV ⟨co, cn, cc⟩ = Value.slice co cn cc from rfl]
 clear Gc Wc nc bq
 have HSr : Hid ((∀ r ∈ R, RecOk r) /\ Srt ck (plR R)) := okR_iff.1 (by rw [HRL.out.1]; exact HOO.out.1)
 have HSq : Hid ((∀ r ∈ Q, RecOk r) /\ Srt ck (plR Q)) := okR_iff.1 (by rw [HRL.out.2.1]; exact HOO.out.2)
 have HBo : Hid (OkR BF bn /\ OkR CF cn) := ⟨by have h := HBw.out.2.1.okR HSr.out.2; rw [HBw.out.2.2.2] at h; exact h, by have h := HCw.out.2.1.okR HSq.out.2; rw [HCw.out.2.2.2] at h; exact h⟩
 go_wp2_with fail
 refine (keepUnion_any bo co bn bc cn cc BF CF _ (HBw.out.1.below Zcb_9.out) (HCw.out.1.below Zcc.out) (by have := HRL.out; have := HBw.out.2.2.1; have := HCw.out.2.2.1; omega)).mono ?_
 rintro e wd (⟨-, -, hd, DF, rfl, Gd, nd, Ud⟩ | ⟨hno, -, -⟩)
 rotate_left
 ·exact absurd HBo.out hno
 have HDw : Hid (RcT wd hd.o hd.n hd.c DF /\ plR AF = plR DF) := ⟨Gd.row, wt_union HU.out.2.1 HAw.out.2.1 HBw.out.2.1 HCw.out.2.1 Ud⟩
 have bq := Gd.below
 have HK10 := hide (HK9.out.below bq)
 have Zcp_10 := hide (Zcp_9.out.trans (bq.mono Zcp_9.out.size))
 have Zcu_10 := hide (Zcu_9.out.trans (bq.mono Zcu_9.out.size))
 have Zca_10 := hide (Zca_9.out.trans (bq.mono Zca_9.out.size))
 have Zcb_10 := hide (Zcb_9.out.trans (bq.mono Zcb_9.out.size))
 have Zcc_10 := hide (Zcc.out.trans (bq.mono Zcc.out.size))
 have Zcd := hide (Below.refl wd.heap.size wd)
 obtain ⟨do_, dn, dc⟩ := hd
 rw [show HsV ⟨do_, dn, dc⟩ = Value.slice do_ dn dc from rfl]
 clear Gd nd Ud bq
 go_wp2_with fail
 refine (sameRecords_any ao do_ an dn ac dc AF DF _ (HAw.out.1.below Zca_10.out).src (HDw.out.1.below Zcd.out).src).mono ?_
 rintro e we ⟨b, rfl, hb, bq⟩
 obtain rfl : b = true := hb.2 HDw.out.2
 have HK11 := hide (HK10.out.below bq)
 have Zcp_11 := hide (Zcp_10.out.trans (bq.mono Zcp_10.out.size))
 have Zcu_11 := hide (Zcu_10.out.trans (bq.mono Zcu_10.out.size))
 have Zca_11 := hide (Zca_10.out.trans (bq.mono Zca_10.out.size))
 have Zcb_11 := hide (Zcb_10.out.trans (bq.mono Zcb_10.out.size))
 have Zcc_11 := hide (Zcc_10.out.trans (bq.mono Zcc_10.out.size))
 have Zcd_11 := hide (Zcd.out.trans (bq.mono Zcd.out.size))
 clear hb bq
 have lp := run_ldP (HP.out.1.below Zcp_11.out).at
 have lo := run_ldP HK11.out.box.o
 have hPR := prow2 we p m.o (HP.out.2.1.below Zcp_11.out) (HS.out.1.o.below HK11.out.bel)
 have b6 := below_new we (.cells #[.slice p.vo p.vn p.vc, .slice p.co p.cn p.cc, .slice m.o.vo m.o.vn m.o.vc, .slice m.o.co m.o.cn m.o.cc] 27)
 obtain ⟨g6, hg6⟩ : ∃ g6, we.heap.size = g6 := ⟨_, rfl⟩
 obtain ⟨wf, hwf⟩ : ∃ wf, we.alloc (.cells #[.slice p.vo p.vn p.vc, .slice p.co p.cn p.cc, .slice m.o.vo m.o.vn m.o.vc, .slice m.o.co m.o.cn m.o.cc] 27) = wf := ⟨_, rfl⟩
 rw [hwf] at hPR b6
 rw [hg6] at hPR
 have HPR := hide hPR
 have HWo : Hid (wt [p, m.o] <= 8796093022207) := wt_oneK HP.out.2.2 (HS.out.1.o.below HK11.out.bel)
 have HK12 := hide (HK11.out.below b6)
 have Zcp_12 := hide (Zcp_11.out.trans (b6.mono Zcp_11.out.size))
 have Zcu_12 := hide (Zcu_11.out.trans (b6.mono Zcu_11.out.size))
 have Zca_12 := hide (Zca_11.out.trans (b6.mono Zca_11.out.size))
 have Zcb_12 := hide (Zcb_11.out.trans (b6.mono Zcb_11.out.size))
 have Zcc_12 := hide (Zcc_11.out.trans (b6.mono Zcc_11.out.size))
 have Zcd_12 := hide (Zcd_11.out.trans (b6.mono Zcd_11.out.size))
 clear b6 hPR
 go_wp2_with fail
 clear lp lo hwf hg6
 refine (pastJoin_any (some ⟨g6, 0, none⟩) 2 2 [p, m.o] _ HPR.out HWo.out (by decide)).mono ?_
 rintro e wg ⟨q, rfl, Sq, -, b7, Cq⟩
 obtain ⟨gq, hgq⟩ : ∃ g, wg.heap.size = g := ⟨_, rfl⟩
 obtain ⟨wh, hst, X8, B8, -⟩ := madeP wg q gq hgq
 have b78 := b7.trans (B8.mono b7.size)
 have HK13 := hide (HK12.out.below b78)
 have Zcp_13 := hide (Zcp_12.out.trans (b78.mono Zcp_12.out.size))
 have Zcu_13 := hide (Zcu_12.out.trans (b78.mono Zcu_12.out.size))
 have Zca_13 := hide (Zca_12.out.trans (b78.mono Zca_12.out.size))
 have Zcb_13 := hide (Zcb_12.out.trans (b78.mono Zcb_12.out.size))
 have Zcc_13 := hide (Zcc_12.out.trans (b78.mono Zcc_12.out.size))
 have Zcd_13 := hide (Zcd_12.out.trans (b78.mono Zcd_12.out.size))
 have HMo : Hid (PBox wh gq q /\ PSrc wh q /\ InForm q.P /\ wiP p.P q.P) := ⟨X8, Sq.below B8, canon_iff.1 Cq.canon, fun r hr n hn => (canon_mem Cq r hr n).2 (by
   rw [runsOf_mem]
   exact ⟨p, List.mem_cons_self, hn⟩)⟩
 have Zcm := hide (Below.refl wh.heap.size wh)
 clear Sq b7 Cq X8 B8 b78
 have lp := run_ldP (HMo.out.1.below Zcm.out).at
 go_wp2_with fail
 clear lp hst hgq
 refine (keepWaits_any uo un uc U q _ (HU.out.1.below Zcu_13.out) (HMo.out.2.1.below Zcm.out) (by have := HRL.out; have := HU.out.2.2.1; omega)).mono ?_
 rintro e wi (⟨-, -, hf, FF, rfl, Gf, nf, Wf⟩ | ⟨hno, -, -⟩)
 rotate_left
 ·exact absurd ⟨HUO.out, HMo.out.2.2.1⟩ hno
 have HFw : Hid (RcT wi hf.o hf.n hf.c FF /\ WtOf U q.P FF /\ hf.n <= un /\ FF.length = hf.n) := ⟨Gf.row, Wf, nf, Gf.src.len⟩
 have bq := Gf.below
 have HK14 := hide (HK13.out.below bq)
 have Zcp_14 := hide (Zcp_13.out.trans (bq.mono Zcp_13.out.size))
 have Zcu_14 := hide (Zcu_13.out.trans (bq.mono Zcu_13.out.size))
 have Zca_14 := hide (Zca_13.out.trans (bq.mono Zca_13.out.size))
 have Zcb_14 := hide (Zcb_13.out.trans (bq.mono Zcb_13.out.size))
 have Zcc_14 := hide (Zcc_13.out.trans (bq.mono Zcc_13.out.size))
 have Zcd_14 := hide (Zcd_13.out.trans (bq.mono Zcd_13.out.size))
 have Zcm_14 := hide (Zcm.out.trans (bq.mono Zcm.out.size))
 have Zcf := hide (Below.refl wi.heap.size wi)
 obtain ⟨fo, fn, fc⟩ := hf
 rw [show HsV ⟨fo, fn, fc⟩ = Value.slice fo fn fc from rfl]
 clear Gf Wf nf bq
 have lp := run_ldP (HMo.out.1.below Zcm_14.out).at
 obtain ⟨gl, hgl⟩ : ∃ g, wi.heap.size = g := ⟨_, rfl⟩
 obtain ⟨wj, hst, X9, B9, -⟩ := madeP wi q gl hgl
 have HK15 := hide (HK14.out.below B9)
 have Zcp_15 := hide (Zcp_14.out.trans (B9.mono Zcp_14.out.size))
 have Zcu_15 := hide (Zcu_14.out.trans (B9.mono Zcu_14.out.size))
 have Zca_15 := hide (Zca_14.out.trans (B9.mono Zca_14.out.size))
 have Zcb_15 := hide (Zcb_14.out.trans (B9.mono Zcb_14.out.size))
 have Zcc_15 := hide (Zcc_14.out.trans (B9.mono Zcc_14.out.size))
 have Zcd_15 := hide (Zcd_14.out.trans (B9.mono Zcd_14.out.size))
 have Zcm_15 := hide (Zcm_14.out.trans (B9.mono Zcm_14.out.size))
 have Zcf_15 := hide (Zcf.out.trans (B9.mono Zcf.out.size))
 have HAl : Hid (PBox wj gl q /\ Below wi.heap.size wi wj /\ wi.heap.size = gl) := ⟨X9, B9, hgl⟩
 clear X9 B9
 have HTot : Hid (Srt ck (plR AF) /\ OkR AF an /\ (∀ r ∈ FF, RecOk r) /\ (∀ y ∈ plR FF, y ∈ plR AF)) := ⟨HAw.out.2.1.srt HU.out.2.1.1.1, by have h := HAw.out.2.1.okR HU.out.2.1.1.1; rw [HAw.out.2.2.2] at h; exact h, HFw.out.2.1.1, wt_more HAw.out.2.1 HFw.out.2.1 HMo.out.2.2.2⟩
 have HU9 : Hid (RcT wi uo un uc U) := HU.out.1.below Zcu_14.out
 have HU10 := hide (HU.out.1.below Zcu_15.out)
 have HA10 := hide (HAw.out.1.below Zca_15.out)
 have HF10 := hide (HFw.out.1.below Zcf_15.out)
 have HM10 : Hid (PBox wj gq q /\ PSrc wj q) := ⟨HMo.out.1.below Zcm_15.out, HMo.out.2.1.below Zcm_15.out⟩
 have HB9 := hide HK14.out.bel
 have han : an <= 419432 := by have := HAw.out.2.2.1; have := HU.out.2.2.1; have := HRL.out; omega
 have hun : un <= 419432 := by have := HU.out.2.2.1; have := HRL.out; omega
 have hfn : fn <= 419432 := Nat.le_trans (show fn <= un from HFw.out.2.2.1) hun
 go_wp2_with fail
 clear lp hst hgl
 go_loopw [18, 19, 20] (fun i _ _ wr => ∃ k : Nat, k <= fn /\ i = .int .i64 (k : Int) /\ Hid (Below wj.heap.size wj wr)) (fun i _ _ _ => fn - (intOf i).toNat)
 case atStart => exact ⟨0, Nat.zero_le _, rfl, Below.refl _ _⟩
 case round =>
  obtain ⟨k, hk, rfl, HI⟩ := hrel
  rename World => wr
  by_cases hlt : k < fn
  ·have hlti : (k : Int) < (fn : Int) := by omega
   have HF11 := hide (HF10.out.below HI.out)
   obtain ⟨ad, hao, A0⟩ := HF11.out.src.at k hlt
   obtain ⟨r, Hr⟩ : ∃ r, Hid (FF.getD k rc0 = r) := ⟨_, rfl⟩
   obtain ⟨b1, o1, rfl⟩ : ∃ b1 o1, ad = ⟨b1, o1, none⟩ := by
    have h := HF11.out.src
    rw [hao] at h
    exact h.spot (by omega)
   subst hao
   obtain ⟨t, ht⟩ : ∃ t : Nat, k + 1 = t := ⟨_, rfl⟩
   have eti : (k : Int) + 1 = (t : Int) := by omega
   have hsl := run_slk b1 o1 fn fc k t ht (by omega) HF11.out.room wr
   have htb : t <= 419432 := by omega
   have hpc := (HF11.out.drop k (Nat.le_of_lt hlt)).take 1 (by omega)
   rw [Addr.add_lit] at hpc
   have Hpc := hide hpc
   clear hpc
   have Hpk := hide (piece_ok HTot.out.2.2.1 (show k < FF.length by rw [HFw.out.2.2.2]; exact hlt))
   have HRk : Hid (rck r ∈ plR FF /\ RecOk r) := by
    have h1 : k < FF.length := by rw [HFw.out.2.2.2]; exact hlt
    rw [<- Hr.out]
    exact ⟨List.mem_map.2 ⟨_, rcD_mem h1, rfl⟩, HTot.out.2.2.1 _ (rcD_mem h1)⟩
   have Hlt := hide hlt
   clear A0 hlt hk
   have Het := hide eti
   have Hht := hide ht
   clear ht
   go_wp2_with fail
   clear hsl eti
   refine (keepUnion_any ao (some ⟨b1, o1 + k * 3, none⟩) an ac 1 (fc - k) AF ((FF.drop k).take 1) _ (HA10.out.below HI.out) Hpc.out (by omega)).mono ?_
   rintro e w3 (⟨-, -, hg, GF, rfl, Gg, ng, Ug⟩ | ⟨hno, -, -⟩)
   rotate_left
   ·exact absurd ⟨HTot.out.2.1, Hpk.out.1⟩ hno
   have HGw : Hid (RcT w3 hg.o hg.n hg.c GF /\ plR GF = plR AF) := ⟨Gg.row, un_single Ug HTot.out.1 (fun y hy => by
    rw [Hpk.out.2, List.mem_singleton, Hr.out] at hy
    rw [hy]; exact HTot.out.2.2.2 _ HRk.out.1)⟩
   have HI3 := hide (HI.out.trans (Gg.below.mono HI.out.size))
   obtain ⟨go_, gn, gc⟩ := hg
   rw [show HsV ⟨go_, gn, gc⟩ = Value.slice go_ gn gc from rfl]
   clear Gg ng Ug
   have HSt : Hid (∀ W, Below wj.heap.size wj W -> (ldP (.pointer (some ⟨b1, o1 + k * 3 + 1, none⟩))).run Tryz.prog W = .ok (PV r.p) W /\ (ldP (.pointer (some ⟨gq, 0, none⟩))).run Tryz.prog W = .ok (PV q) W) := fun W hW => by
    have h2 := (HF10.out.below hW).src.at_ _ rfl k Hlt.out
    rw [Hr.out, Addr.add_lit] at h2
    exact ⟨run_ldP h2.flat.2, run_ldP (HM10.out.1.below hW).at⟩
   have HQr : Hid (∀ W, Below wj.heap.size wj W -> PSrc W r.p) := fun W hW => by
    have h := (HF10.out.below hW).src.okAt k Hlt.out
    rw [Hr.out] at h
    exact h.1
   have hlt2 : (k : Int) < (fn : Int) := by have := Hlt.out; omega
   have HBd := hide (HI3.out.trans ((below_drew1 w3).mono HI3.out.size))
   go_upto_region 22 with fail
   refine wp_region_held_drew (S := fun W => (ldP (.pointer (some ⟨b1, o1 + k * 3 + 1, none⟩))).run Tryz.prog W = .ok (PV r.p) W /\ (ldP (.pointer (some ⟨gq, 0, none⟩))).run Tryz.prog W = .ok (PV q) W) (by kernel_rfl) (HSt.out _ HBd.out) (fun hHeld => ?_)
   refine wTk 0 ⟨some 135, .move (.tmp 19), 22, "law.go:227", #[], none⟩ rfl ?_
   refine wTk 1 ⟨some 136, .move (.tmp 6), 22, "law.go:227", #[], none⟩ rfl ?_
   refine wpAnyH_ready (rs := [2]) (by kernel_rfl) (by simp) (.cons rfl (fun K hK => ?_) .nil)
   go_simp
   go_wp2_with fail
   refine (sameRecords_any go_ ao gn an gc ac GF AF _ (HGw.out.1.below (below_drew1 w3)).src (HA10.out.below HBd.out).src).mono ?_
   rintro e w6 ⟨b, rfl, hb, b6⟩
   obtain rfl : b = true := hb.2 HGw.out.2
   have HI6 := hide (HBd.out.trans (b6.mono HBd.out.size))
   refine hK.out _ _ (HSt.out _ HI6.out) (fun hHeld => ?_)
   clear hK K hb b6
   refine wTk 3 ⟨some 138, .unOp .not 4 (.tmp 137), 4, "law.go:227", #[⟨2, .data⟩], none⟩ rfl ?_
   refine wTk 4 ⟨some 139, .move (.tmp 138), 4, "law.go:227", #[⟨3, .data⟩, ⟨2, .chain⟩], none⟩ rfl ?_
   refine wTk 5 ⟨some 140, .move (.tmp 15), 22, "law.go:227", #[⟨4, .guard⟩], some (4, false)⟩ rfl ?_
   refine wTk 6 ⟨some 141, .move (.tmp 18), 3, "law.go:227", #[⟨4, .guard⟩], some (4, false)⟩ rfl ?_
   refine wTk 7 ⟨some 142, .indexAddr 22 (.tmp 140) (.tmp 141), 0, "law.go:227", #[⟨5, .data⟩, ⟨6, .data⟩, ⟨4, .guard⟩], some (4, false)⟩ rfl ?_
   refine wTk 8 ⟨some 143, .fieldAddr 43 (.tmp 142) 1, 0, "law.go:227", #[⟨7, .data⟩, ⟨4, .guard⟩], some (4, false)⟩ rfl ?_
   refine wTk 9 ⟨some 144, .load 27 (.tmp 143), 27, "law.go:227", #[⟨8, .data⟩, ⟨4, .guard⟩], some (4, false)⟩ rfl ?_
   refine wTk 10 ⟨some 145, .load 27 (.tmp 14), 27, "law.go:227", #[⟨4, .guard⟩], some (4, false)⟩ rfl ?_
   refine wpAnyH_ready (rs := [11]) (by kernel_rfl) (by simp) (.cons rfl (fun K hK => ?_) .nil)
   go_simp
   go_wp2_with fail
   refine (pastWithin_any r.p q _ (HQr.out _ HI6.out) (HM10.out.2.below HI6.out)).mono ?_
   rintro e w7 ⟨b, rfl, hb, b7⟩
   obtain rfl : b = false := by
    cases b with
    | false => rfl
    | true => exact absurd (hb.1 rfl) ((HFw.out.2.1.mem (rck r)).1 HRk.out.1).2
   have HI7 := hide (HI6.out.trans (b7.mono HI6.out.size))
   refine hK.out _ _ (HSt.out _ HI7.out) (fun hHeld => ?_)
   clear hK K hb b7
   refine wTk 12 ⟨some 147, .pick (.tmp 139) (.const (.bool true)) (.tmp 146), 4, "law.go:227", #[⟨4, .data⟩, ⟨11, .data⟩], none⟩ rfl ?_
   refine wpAnyH_done (by kernel_rfl) ?_ _
   clear hHeld
   go_wp2_with fail
   go_roundw
   case rel => exact ⟨k + 1, Hlt.out, by simp, HI7.out⟩
   case measure => simp [intOf]; have := Hlt.out; omega
  ·have hlti : ¬ (k : Int) < (fn : Int) := by omega
   have HAl2 : Hid (Below wi.heap.size wi wr /\ PBox wr gl q /\ PSrc wr q) := ⟨HAl.out.2.1.trans (HI.out.mono HAl.out.2.1.size), HAl.out.1.below HI.out, HM10.out.2.below HI.out⟩
   clear hk HI
   go_wp2_with fail
   clear hlti
   go_loopw [21] (fun i wq => ∃ (k : Nat) (x : Pv), k <= un /\ i = .int .i64 (k : Int) /\ Hid (Below wi.heap.size wi wq /\ PBox wq gl x /\ PSrc wq x /\ InForm x.P /\ ∀ j, j < k -> wiP (U.getD j rc0).p.P x.P)) (fun i _ => un - (intOf i).toNat)
   case atStart => exact ⟨0, q, Nat.zero_le _, rfl, HAl2.out.1, HAl2.out.2.1, HAl2.out.2.2, HMo.out.2.2.1, fun j hj => by omega⟩
   case round =>
    obtain ⟨k, x, hk, rfl, HI⟩ := hrel
    rename World => wq
    by_cases hlt : k < un
    ·have hlti : (k : Int) < (un : Int) := by omega
     obtain ⟨ad, hao, A0⟩ := (HU9.out.below HI.out.1).src.at k hlt
     obtain ⟨r, Hr⟩ : ∃ r, Hid (U.getD k rc0 = r) := ⟨_, rfl⟩
     obtain ⟨b1, o1, rfl⟩ : ∃ b1 o1, ad = ⟨b1, o1, none⟩ := by
      have h := (HU9.out.below HI.out.1).src
      rw [hao] at h
      exact h.spot (by omega)
     subst hao
     have Hlt := hide hlt
     have HSt : Hid (∀ W, Below wi.heap.size wi W -> (ldP (.pointer (some ⟨b1, o1 + k * 3 + 1, none⟩))).run Tryz.prog W = .ok (PV r.p) W) := fun W hW => by
      have h2 := (HU9.out.below hW).src.at_ _ rfl k Hlt.out
      rw [Hr.out, Addr.add_lit] at h2
      exact run_ldP h2.flat.2
     have HRo : Hid (RecOk r) := by
      have h1 := HU.out.2.1.2 _ (rcD_mem (L := U) (j := k) (by rw [HU.out.2.2.2]; exact hlt))
      rw [Hr.out] at h1
      exact h1
     have HQr : Hid (∀ W, Below wi.heap.size wi W -> PSrc W r.p) := fun W hW => by
      have h := (HU9.out.below hW).src.okAt k Hlt.out
      rw [Hr.out] at h
      exact h.1
     have HBd := hide (HI.out.1.trans ((below_drew1 wq).mono HI.out.1.size))
     clear A0 hlt hk
     go_upto_region 27 with fail
     refine wp_region_held_drew (S := fun W => (ldP (.pointer (some ⟨b1, o1 + k * 3 + 1, none⟩))).run Tryz.prog W = .ok (PV r.p) W) (by kernel_rfl) (HSt.out _ HBd.out) (fun hHeld => ?_)
     refine wTk 1 ⟨some 155, .move (.tmp 4), 22, "law.go:232", #[], none⟩ rfl ?_
     refine wTk 2 ⟨some 156, .move (.tmp 21), 3, "law.go:232", #[], none⟩ rfl ?_
     refine wTk 3 ⟨some 157, .indexAddr 22 (.tmp 155) (.tmp 156), 0, "law.go:232", #[⟨1, .data⟩, ⟨2, .data⟩], none⟩ rfl ?_
     refine wTk 4 ⟨some 158, .fieldAddr 43 (.tmp 157) 1, 0, "law.go:232", #[⟨3, .data⟩], none⟩ rfl ?_
     refine wTk 5 ⟨some 159, .load 27 (.tmp 158), 27, "law.go:232", #[⟨4, .data⟩], none⟩ rfl ?_
     obtain ⟨u0, hu0⟩ : ∃ u, wq.drew = u := ⟨_, rfl⟩
     have HJ : Hid (Below wi.heap.size wi u0 /\ PBox u0 gl x /\ PSrc u0 x) := by rw [<- hu0]; exact ⟨HBd.out, HI.out.2.1.below (below_drew1 wq), HI.out.2.2.1.below (below_drew1 wq)⟩
     rw [hu0]
     clear hu0
     have lx := run_ldP HJ.out.2.1.at
     refine wpAnyH_ready (rs := [0]) (by kernel_rfl) (by simp) (.cons rfl (fun K hK => ?_) .nil)
     go_simp
     refine hK.out _ _ (HSt.out _ HJ.out.1) (fun hHeld => ?_)
     clear hK K lx
     have hPR := prow2 u0 x r.p HJ.out.2.2 (HQr.out _ HJ.out.1)
     have b6 := below_new u0 (.cells #[.slice x.vo x.vn x.vc, .slice x.co x.cn x.cc, .slice r.p.vo r.p.vn r.p.vc, .slice r.p.co r.p.cn r.p.cc] 27)
     obtain ⟨g6, hg6⟩ : ∃ g6, u0.heap.size = g6 := ⟨_, rfl⟩
     obtain ⟨u1, hu1⟩ : ∃ u, u0.alloc (.cells #[.slice x.vo x.vn x.vc, .slice x.co x.cn x.cc, .slice r.p.vo r.p.vn r.p.vc, .slice r.p.co r.p.cn r.p.cc] 27) = u := ⟨_, rfl⟩
     rw [hu1] at hPR b6
     rw [hg6] at hPR
     have HPR := hide hPR
     have HJ1 : Hid (Below wi.heap.size wi u1 /\ PBox u1 gl x) := ⟨HJ.out.1.trans (b6.mono HJ.out.1.size), HJ.out.2.1.below b6⟩
     clear b6 hPR
     refine wpAnyH_ready (rs := [6]) (by kernel_rfl) (by simp) (.cons rfl (fun K hK => ?_) .nil)
     go_simp
     refine hK.out _ _ (HSt.out _ HJ1.out.1) (fun hHeld => ?_)
     clear hK K hu1 hg6
     refine wpAnyH_ready (rs := [7]) (by kernel_rfl) (by simp) (.cons rfl (fun K hK => ?_) .nil)
     go_simp
     go_wp2_with fail
     refine (pastJoin_any (some ⟨g6, 0, none⟩) 2 2 [x, r.p] _ HPR.out (wt_oneK HI.out.2.2.2.1 (HQr.out _ HJ1.out.1)) (by decide)).mono ?_
     rintro e u2 ⟨y, rfl, Sy, Ny, b7, Cy⟩
     have HJ2 : Hid (Below wi.heap.size wi u2 /\ PBox u2 gl x) := ⟨HJ1.out.1.trans (b7.mono HJ1.out.1.size), HJ1.out.2.below b7⟩
     have hgl := HAl.out.2.2
     have hlt1 := HJ1.out.2.lt
     have stz := run_stP (p' := y) HJ2.out.2
     have HN : Hid (Below wi.heap.size wi (u2.setRow gl (PC y)) /\ PBox (u2.setRow gl (PC y)) gl y /\ PSrc (u2.setRow gl (PC y)) y /\ InForm y.P /\ ∀ j, j < k + 1 -> wiP (U.getD j rc0).p.P y.P) := by
      refine ⟨below_setRow HJ2.out.1 (by omega), setRow_heap _ _ _ _ _ _ HJ2.out.2, psrc_off Sy (fun ad e => setRow_other _ _ _ _ (by have := Ny.1 ad e; omega)) (fun ad e => setRow_other _ _ _ _ (by have := Ny.2 ad e; omega)), canon_iff.1 Cy.canon, fun j hj r2 hr2 n hn => (canon_mem Cy r2 hr2 n).2 ?_⟩
      rw [runsOf_mem]
      by_cases e : j = k
      ·subst e
       rw [Hr.out] at hn
       exact ⟨r.p, by simp, hn⟩
      ·exact ⟨x, by simp, HI.out.2.2.2.2 j (by omega) r2 hr2 n hn⟩
     refine hK.out _ _ (HSt.out _ HJ2.out.1) (fun hHeld => ?_)
     clear hK K Sy Ny b7 Cy hgl hlt1
     refine wpAnyH_ready (rs := [8]) (by kernel_rfl) (by simp) (.cons rfl (fun K hK => ?_) .nil)
     go_simp
     refine hK.out _ _ (HSt.out _ HN.out.1) (fun hHeld => ?_)
     clear hK K stz
     refine wpAnyH_done (by kernel_rfl) ?_ _
     clear hHeld
     go_wp2_with fail
     go_roundw
     case rel => exact ⟨k + 1, y, Hlt.out, by simp, HN.out⟩
     case measure => simp [intOf]; have := Hlt.out; omega
    ·have hlti : ¬ (k : Int) < (un : Int) := by omega
     have hku : k = un := by omega
     have HW : Hid (∀ j, j < U.length -> wiP (U.getD j rc0).p.P x.P) := fun j hj => HI.out.2.2.2.2 j (by rw [HU.out.2.2.2] at hj; omega)
     have lx := run_ldP HI.out.2.1.at
     clear hku hk
     go_wp2_with fail
     clear lx
     refine (keepWaits_any uo un uc U x _ (HU9.out.below HI.out.1) HI.out.2.2.1 (by omega)).mono ?_
     rintro e w9 (⟨-, -, hz, ZF, rfl, Gz, nz, Wz⟩ | ⟨hno, -, -⟩)
     rotate_left
     ·exact absurd ⟨HUO.out, HI.out.2.2.2.1⟩ hno
     obtain ⟨zo, zn, zc⟩ := hz
     have hl := Gz.src.len
     rw [wt_none Wz HW.out] at hl
     obtain rfl : zn = 0 := hl.symm
     have HE := hide (HB9.out.trans ((HI.out.1.trans (Gz.below.mono HI.out.1.size)).mono HB9.out.size))
     clear Gz nz Wz hl
     go_wp2_with fail
     go_ret
     exact ⟨rfl, HE.out⟩
end Go.Proofs.YtalcmdjiejhkgaaGreat
