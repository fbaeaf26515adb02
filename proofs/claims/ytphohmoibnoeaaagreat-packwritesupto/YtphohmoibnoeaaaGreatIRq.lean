/- The reference's PutPast, PutEntries (barrowref09). -/
import Derived.Test.YtphohmoibnoeaaaGreatIPq
namespace Go.Proofs.YtphohmoibnoeaaaGreat
open Go.RowKit
attribute [local go_sem ↓] ldP_eq stP_eq
attribute [local go_sem] zero_PC cells_PV PC_size

theorem GW.put {w w' : World} {bo : Option Addr} {m cc : Nat} {Y : List Int} (h : GW w w' bo m cc ([] ++ Y) []) : m = Y.length ∧ U.BR w' bo Y.length cc Y ∧ U.NewB w w' bo := by
 have e := h.r.len
 have hr := h.r
 rw [List.nil_append] at e hr
 subst e
 exact ⟨rfl, hr, h.nw⟩
theorem rputP9_any (p : Pv) (w : World) (hS : PSrc w p) : Calls Tryz.prog 10 #[PV p] w fun e w' => PutA w w' e p.P := by
 have b1 := below_new w (.cells (PC p) 25)
 have HX := hide (pbox_new w p)
 have HB := hide b1
 have HS := hide (hS.below b1)
 clear hS b1
 obtain ⟨wk, hwk⟩ : ∃ wk, w.alloc (.cells (PC p) 25) = wk := ⟨_, rfl⟩
 obtain ⟨G, hG⟩ : ∃ G, w.heap.size = G := ⟨_, rfl⟩
 rw [hwk] at HX HB HS
 rw [hG] at HX
 have l1 := run_ldP HX.out.at
 go_enter Tryz.func10, Tryz.ntmps10
 go_wp2_with fail
 clear hwk hG
 refine (refIsNorm_any p _ HS.out).mono ?_
 rintro e w2 ⟨b, rfl, hb, b2⟩
 have HB2 := hide (HB.out.trans (b2.mono HB.out.size))
 have l2 := run_ldP (HX.out.below b2).at
 have HS2 := hide (HS.out.below b2)
 have HI : Hid (BIf b (InForm p.P)) := hb
 clear b2 l1 hb HX HB HS
 cases b with
 | false =>
  have HF : Hid (PutA w w2 (.returned (.tuple #[.slice none 0 0, .int .i64 1])) p.P) := .inl ⟨(fun h => by have := HI.out.2 h; cases this), rfl, HB2.out⟩
  go_wp2_with fail
  go_ret2
  exact HF.out
 | true =>
  have HY : Hid (InForm p.P) := HI.out.1 rfl
  go_wp2_with fail
  refine (rputPast9_any (gw_new w2) p HS2.out HY.out (by omega)).mono ?_
  rintro e w3 ⟨bo, m, cc, rfl, h3⟩
  obtain ⟨rfl, h4, h5⟩ := h3.put
  have HF : Hid (PutA w w3 (.returned (.tuple #[.slice bo (pastB p.P).length cc, .int .i64 0])) p.P) := .inr ⟨HY.out, bo, cc, rfl, h4, h5.pre HB2.out⟩
  clear h3 h4 h5
  go_wp2_with fail
  go_ret2
  exact HF.out
def stDt (p v : Value) : Sem Unit := Instr.storeAt 55 p v
theorem stDt_eq (p v : Value) : Instr.storeAt 55 p v = stDt p v := rfl
theorem sizeDt : (Tryz.prog.info? 55).map (·.size) = some 2 := by kernel_rfl
def DtBox (w : World) (g : Nat) (e : K.En) : Prop := w.heap[g]? = some (.cells (K.DC e) 55 (0, 0))
theorem DtBox.cells {w : World} {g : Nat} {e : K.En} (h : DtBox w g e) : w.cell? ⟨g, 0, none⟩ = some (.int .i64 e.rep) ∧ w.cell? ⟨g, 1, none⟩ = some (.int .i64 e.num) := by
 unfold DtBox at h
 constructor <;> simp [World.cell?, h, K.DC]
theorem run_stDt {w : World} {g : Nat} {r r' : Rn} (A : Box w g 55 r) : (stDt (.pointer (some ⟨g, 0, none⟩)) (RV r')).run Tryz.prog w = .ok () (w.setRow g (RC r')) := by
 unfold stDt
 have h := run_storeCells_from (P := Tryz.prog) g 55 (RC r').toList 0 (RC r) w A (by simp [RC]) (RC_one r')
 cases hq : Tryz.prog.info? 55 with
 | none => have := sizeDt; simp [hq] at this
 | some x =>
  have hs : x.size = 2 := by have := sizeDt; simpa [hq] using this
  simp only [Instr.storeAt, Instr.sureAddr, Sem.run_bind, Sem.run_pure, Result.andThen, storeVar, sizeOf, typeInfo, cells_RV, RC_size]
  simp at h
  simp [h, hq, hs]
theorem madeDt (w : World) (e : K.En) (g : Nat) (hg : w.heap.size = g) : ∃ w' : World, (stDt (.pointer (some ⟨g, 0, none⟩)) (.agg (K.DC e))).run Tryz.prog (w.alloc (.cells #[.int .i64 0, .int .i64 0] 55)) = .ok () w' ∧ DtBox w' g e ∧ Below w.heap.size w w' := by
 subst hg
 exact ⟨_, run_stDt (r' := ⟨e.rep, e.num⟩) (box_new w 55 rn0), (box_new w 55 rn0).setRow, below_setRow (below_new w _) (Nat.le_refl _)⟩
def LsE (rep nm : Int) (T : Nat → Int) : Prop := ∀ r : Nat, rep ≤ (r : Int) → T r = if (r : Int) = rep then nm else 0
theorem lsE_start : LsE 0 0 (fun _ => 0) := fun r _ => by split <;> rfl
theorem LsE.next {rep nm : Int} {T : Nat → Int} (h : LsE rep nm T) (r : Nat) (hr : rep ≤ (r : Int)) (x : Int) : LsE (r : Int) x (upd T r x) := fun k hk => by
 unfold upd
 by_cases e : k = r
 ·subst e
  rw [if_pos rfl, if_pos rfl]
 ·rw [if_neg e, if_neg (fun h => e (by omega)), h k (by omega), if_neg (fun h => e (by omega))]
attribute [local go_sem ↓] stDt_eq K.ld26_eq
set_option maxRecDepth 100000 in
set_option maxHeartbeats 6400000 in
theorem rputE9_any (so : Option Addr) (sn sc : Nat) (L : List K.En) (w : World) (hS : K.ESrc w so sn sc L) : Calls Tryz.prog 13 #[.slice so sn sc] w fun e w' => PutE w w' e L := by
 have HS := hide hS
 have HLl : Hid (L.length = sn) := hS.1
 clear hS
 go_enter Tryz.func13, Tryz.ntmps13
 go_wp2_with fail
 refine (K.refEntries7_any so sn sc L w HS.out).mono ?_
 rintro e w2 ⟨rfl, b2⟩
 have HB2 := hide b2
 have HS2 := hide (HS.out.below b2)
 clear b2
 cases hb : K.okN L sn with
 | false =>
  have HF : Hid (PutE w w2 (.returned (.tuple #[.slice none 0 0, .int .i64 1])) L) := .inl ⟨by rw [HLl.out, hb]; decide, rfl, HB2.out⟩
  clear hb
  go_wp2_with fail
  go_ret2
  exact HF.out
 | true =>
  have HY : Hid (K.okN L L.length = true) := by show _ = _; rw [HLl.out]; exact hb
  clear hb
  have HE : Hid (EOk (fun _ => 0) 0 L) := (ok_eok HY.out).1
  have hsn : sn ≤ 16000000015 := by
   have h3 := eOk_room L (fun _ => 0) 0 (Int.le_refl 0) (by decide) HE.out (fun k => ⟨Int.le_refl 0, by decide⟩)
   have := HLl.out
   omega
  go_wp2_with fail
  refine (U.rnum9_any none 0 0 [] sn _ (gw_new w2).r (by omega) (by omega)).mono ?_
  rintro e w3 ⟨bo, cc, rfl, hR, hA⟩
  have P3 := (gw_new w2).ap hR hA
  obtain ⟨m, hm⟩ : ∃ m, 0 + (U.numB sn).length = m := ⟨_, rfl⟩
  rw [hm] at P3 ⊢
  rw [List.nil_append] at P3
  have HP3 := hide P3
  clear P3 hR hA hm
  go_wp2_with fail
  go_loopw [4, 5, 6, 7] (fun b r x i wr => ∃ (j : Nat) (bo : Option Addr) (m cc : Nat) (rj nj : Int), j ≤ sn ∧ i = .int .i64 j ∧ r = .int .i64 rj ∧ x = .int .i64 nj ∧ b = .slice bo m cc ∧ Hid (GW w2 wr bo m cc (U.numB sn ++ entB (fun _ => 0) 0 (L.take j)) [] ∧ (stEn (fun _ => 0) 0 (L.take j)).2 = rj ∧ LsE rj nj (stEn (fun _ => 0) 0 (L.take j)).1)) (fun _ _ _ i _ => sn - (intOf i).toNat)
  case atStart => exact ⟨0, bo, m, cc, 0, 0, Nat.zero_le _, rfl, rfl, rfl, rfl, by
   show GW w2 _ bo m cc (U.numB sn ++ []) []
   rw [List.append_nil]
   exact HP3.out, rfl, lsE_start⟩
  case round =>
   obtain ⟨j, bo8, m8, cc8, rj, nj, hjn, rfl, rfl, rfl, rfl, HPj⟩ := hrel
   rename World => wv
   obtain ⟨P8, hrj, hLs⟩ := HPj.out
   by_cases hlt : j < sn
   ·have S8 := HS2.out.below P8.nw.1
    obtain ⟨ad, rfl, A8⟩ := S8.at j hlt
    have hlti : ((j : Nat) : Int) < (sn : Int) := by omega
    obtain ⟨s, Hs⟩ : ∃ s, Hid (L.getD j K.en0 = s) := ⟨_, rfl⟩
    rw [Hs.out] at A8
    obtain ⟨ad0, e0, A00⟩ := S8.at 0 (by omega)
    obtain rfl := Option.some.inj e0
    have hsp := World.cell?_spot A00.c0
    rw [Nat.zero_mul, add_zero] at hsp
    obtain ⟨bb, oo, sp⟩ := ad
    have hsp : sp = none := hsp
    subst hsp
    clear A00 e0
    rw [Addr.add_lit] at A8
    have HTk : Hid (L.take (j + 1) = L.take j ++ [s]) := by show _ = _; rw [take_snocE L j (by have := HLl.out; omega), Hs.out]
    obtain ⟨Tj, hTj⟩ : ∃ Tj, (stEn (fun _ => 0) 0 (L.take j)).1 = Tj := ⟨_, rfl⟩
    have hok : EOk (fun _ => 0) 0 (L.take j ++ [s]) := by
     rw [← HTk.out]
     exact (eOk_append (L.take (j + 1)) (L.drop (j + 1)) _ _ (by rw [List.take_append_drop]; exact HE.out)).1
    obtain ⟨hok1, hok2⟩ := eOk_append _ _ _ _ hok
    obtain ⟨hr0, hTb⟩ := stEn_bd _ _ _ (Int.le_refl 0) hok1 (fun k => ⟨Int.le_refl 0, by decide⟩)
    rw [hTj, hrj] at hok2
    rw [hTj] at hTb hLs
    rw [hrj] at hr0
    obtain ⟨⟨q1, q2, q3⟩, ⟨q4, q4'⟩, q5, q6, -⟩ := hok2
    obtain ⟨r, hr⟩ : ∃ r : Nat, s.rep = (r : Int) := ⟨s.rep.toNat, by omega⟩
    have hrn : s.rep.toNat = r := by omega
    rw [hrn] at q4
    have hT := hTb r
    have HSt : Hid ((stEn (fun _ => 0) 0 (L.take (j + 1))) = (upd Tj r s.num, (r : Int)) ∧ entB (fun _ => 0) 0 (L.take (j + 1)) = entB (fun _ => 0) 0 (L.take j) ++ (nB ((r : Int) - rj) ++ (nB (s.num - (Tj r + 1)) ++ (txB s.sku ++ nB (s.qty - 1))))) := by
     constructor
     ·rw [HTk.out, stEn_append, hTj, hrj]
      simp only [stEn, hr, Int.toNat_natCast]
     ·rw [HTk.out, entB_append, hTj, hrj]
      simp only [entB, hrn, List.append_nil]
      rw [hr]
    have HLn8 : Hid (m8 ≤ 90000000000000) := by
     show _ ≤ _
     have h1 := P8.r.len
     have h2 := entB_max (L.take j) (fun _ => 0) 0 (Int.le_refl 0) hok1 (fun _ => Int.le_refl 0)
     have h3 := U.numB_len 9 sn (by omega)
     rw [List.length_append] at h1
     rw [List.length_take] at h2
     omega
    obtain ⟨gs, hgs⟩ : ∃ gs, wv.heap.size = gs := ⟨_, rfl⟩
    obtain ⟨w9, hst9, X9, b9⟩ := madeDt wv s gs hgs
    have P9 := P8.add b9 (g := gs) (by omega) X9
    have hld := K.run_ld26 A8
    have HA8 := hide A8
    obtain ⟨y0, y1⟩ := X9.cells
    rw [hr] at y0
    have HP9 := hide P9
    have HQ : Hid ((0 ≤ rj ∧ rj ≤ (r : Int)) ∧ Tj r + 1 ≤ s.num ∧ s.num ≤ 1000000000 ∧ (0 ≤ Tj r ∧ Tj r ≤ 1000000000) ∧ r < 16 ∧ s.sku.size ≤ 24 ∧ (1 ≤ s.qty ∧ s.qty ≤ 1000000)) := ⟨⟨hr0, by omega⟩, q4, q4', hT, by omega, q5, q6⟩
    have HLs := hide hLs
    have HTj : Hid (Tj r = if (r : Int) = rj then nj else 0) := hLs r (by omega)
    have Hlt := hide hlt
    have HR := hide hr
    have HWv : Hid (∀ V bo m cc Y, GW w2 V bo m cc Y [(gs, .cells (K.DC s) 55 (0, 0))] → K.EnAt V ⟨bb, oo + j * 4, none⟩ s ∧ DtBox V gs s) := fun V bo m cc Y hV => by
     refine ⟨?_, (hV.keep (gs, .cells (K.DC s) 55 (0, 0)) (by simp)).1⟩
     obtain ⟨ad', e', A'⟩ := (HS2.out.below hV.nw.1).at j Hlt.out
     obtain rfl := Option.some.inj e'
     rw [Hs.out, Addr.add_lit] at A'
     exact A'
    obtain ⟨yl, hyl⟩ : ∃ yl : Int, Tj r + 1 = yl := ⟨_, rfl⟩
    have HYl := hide hyl
    have hw1 : wrap64 ((r : Int) - rj) = ((((r : Int) - rj).toNat : Nat) : Int) := by have := HQ.out; unfold wrap64; omega
    obtain ⟨x1, hx1⟩ : ∃ x1, ((r : Int) - rj).toNat = x1 := ⟨_, rfl⟩
    rw [hx1] at hw1
    obtain ⟨x2, hx2⟩ : ∃ x2, (s.num - yl).toNat = x2 := ⟨_, rfl⟩
    have hw4 : wrap64 (s.qty - 1) = (((s.qty - 1).toNat : Nat) : Int) := by have := HQ.out; unfold wrap64; omega
    obtain ⟨x4, hx4⟩ : ∃ x4, (s.qty - 1).toNat = x4 := ⟨_, rfl⟩
    rw [hx4] at hw4
    have HX2 : Hid (s.num - yl = (x2 : Int)) := by show _ = _; have := HQ.out; omega
    have HX : Hid ((x1 ≤ 1000000000 ∧ nB ((r : Int) - rj) = U.numB x1) ∧ (x2 ≤ 1000000000 ∧ nB (s.num - (Tj r + 1)) = U.numB x2) ∧ (x4 ≤ 1000000000 ∧ nB (s.qty - 1) = U.numB x4)) := ⟨⟨by have := HQ.out; omega, by rw [← hx1]; rfl⟩, ⟨by have := HQ.out; omega, by rw [← hx2, ← hyl]; rfl⟩, ⟨by have := HQ.out; omega, by rw [← hx4]; rfl⟩⟩
    clear P8 S8 A8 hok hok1 hTb hT q1 q2 q3 q4 q4' q5 q6 hr0 X9 b9 P9 hTj hrj hrn hr HPj HP3 hLs hx1 hx2 hx4 hyl
    by_cases hrr : (r : Int) = rj
    ·have hre : ((r : Int) != rj) = false := by simpa using hrr
     have hv1 : wrap64 (s.num - nj) = s.num - nj := by
      have h1 := HTj.out
      rw [if_pos hrr] at h1
      have h3 := HQ.out
      unfold wrap64
      omega
     have hv2 : wrap64 (s.num - nj - 1) = (x2 : Int) := by
      have h1 := HTj.out
      rw [if_pos hrr] at h1
      have h3 := HQ.out
      have h4 := HX2.out
      have h5 := HYl.out
      unfold wrap64
      omega
     clear hrr
     go_wp2_with fail
     refine (U.rnum9_any bo8 m8 cc8 _ x1 _ HP9.out.r (by have := HX.out; omega) (by have := HLn8.out; omega)).mono ?_
     rintro e wb ⟨bob, ccb, rfl, hRb, hAb⟩
     have Pb := HP9.out.ap hRb hAb
     obtain ⟨mb, hmb⟩ : ∃ mb, m8 + (U.numB x1).length = mb := ⟨_, rfl⟩
     have hnb := U.numB_len 9 x1 (by have := HX.out; omega)
     rw [hmb] at Pb ⊢
     have HMb : Hid (mb ≤ 90000000000020) := by show _ ≤ _; have := HLn8.out; omega
     have HPb := hide Pb
     obtain ⟨z0, z1⟩ := (HWv.out _ _ _ _ _ Pb).2.cells
     rw [HR.out] at z0
     clear Pb hRb hAb hmb hnb y0 y1 hst9 hld hgs
     go_wp2_with fail
     refine (U.rnum9_any bob mb ccb _ x2 _ HPb.out.r (by have := HX.out; omega) (by have := HMb.out; omega)).mono ?_
     rintro e wc ⟨boc, ccc, rfl, hRc, hAc⟩
     have Pc := HPb.out.ap hRc hAc
     obtain ⟨mc, hmc⟩ : ∃ mc, mb + (U.numB x2).length = mc := ⟨_, rfl⟩
     have hnc := U.numB_len 9 x2 (by have := HX.out; omega)
     rw [hmc] at Pc ⊢
     have HMc : Hid (mc ≤ 90000000000040) := by show _ ≤ _; have := HMb.out; omega
     have HPc := hide Pc
     obtain ⟨-, -, t2, -⟩ := (HWv.out _ _ _ _ _ Pc).1.flat
     clear Pc hRc hAc hmc hnc z0 z1
     go_wp2_with fail
     refine (U.rtext9_any boc mc ccc _ s.sku _ HPc.out.r (by have := HQ.out; omega) (by have := HMc.out; omega)).mono ?_
     rintro e we ⟨boe, me, cce, rfl, hRe, hAe⟩
     have Pe := HPc.out.ap hRe hAe
     have HMe : Hid (me ≤ 90000000000140) := by
      show _ ≤ _
      have h1 := Pe.r.len
      have h2 := HPc.out.r.len
      have h3 := HMc.out
      have h4 := txB_len HQ.out.2.2.2.2.2.1
      unfold txB at h4
      rw [List.length_append] at h1
      omega
     have HPe := hide Pe
     obtain ⟨-, -, -, t3⟩ := (HWv.out _ _ _ _ _ Pe).1.flat
     clear Pe hRe hAe t2
     go_wp2_with fail
     refine (U.rnum9_any boe me cce _ x4 _ HPe.out.r (by have := HX.out; omega) (by have := HMe.out; omega)).mono ?_
     rintro e wd ⟨bod, ccd, rfl, hRd, hAd⟩
     have Pd := HPe.out.ap hRd hAd
     obtain ⟨md, hmd⟩ : ∃ md, me + (U.numB x4).length = md := ⟨_, rfl⟩
     rw [hmd] at Pd ⊢
     obtain ⟨u0, u1⟩ := (HWv.out _ _ _ _ _ Pd).2.cells
     rw [HR.out] at u0
     have HPd : Hid (GW w2 wd bod md ccd (U.numB sn ++ entB (fun _ => 0) 0 (L.take (j + 1))) []) := by
      rw [HSt.out.2, HX.out.1.2, HX.out.2.1.2, HX.out.2.2.2]
      have := Pd.sub (F' := []) (fun x hx => by cases hx)
      unfold txB
      simp only [List.append_assoc] at this ⊢
      exact this
     clear Pd hRd hAd hmd t3
     go_wp2_with fail
     go_quiet (fail)
     have HPq := hide (HPd.out.below (U.below_drewN wd nq))
     clear HPd u0 u1
     generalize wd.drewN nq = wq at HPq ⊢
     go_wp2_with fail
     go_roundw
     case rel => exact ⟨j + 1, bod, md, ccd, (r : Int), s.num, by have := Hlt.out; omega, by simp, rfl, rfl, rfl, ⟨HPq.out, by rw [HSt.out.1], by rw [HSt.out.1]; exact HLs.out.next r HQ.out.1.2 s.num⟩⟩
     case measure => simp [intOf]; have := Hlt.out; omega
    ·have hre : ((r : Int) != rj) = true := by simpa using hrr
     have hv1 : wrap64 s.num = s.num := by
      have h3 := HQ.out
      unfold wrap64
      omega
     have hv2 : wrap64 (s.num - 1) = (x2 : Int) := by
      have h1 := HTj.out
      rw [if_neg hrr] at h1
      have h3 := HQ.out
      have h4 := HX2.out
      have h5 := HYl.out
      unfold wrap64
      omega
     clear hrr
     go_wp2_with fail
     refine (U.rnum9_any bo8 m8 cc8 _ x1 _ HP9.out.r (by have := HX.out; omega) (by have := HLn8.out; omega)).mono ?_
     rintro e wb ⟨bob, ccb, rfl, hRb, hAb⟩
     have Pb := HP9.out.ap hRb hAb
     obtain ⟨mb, hmb⟩ : ∃ mb, m8 + (U.numB x1).length = mb := ⟨_, rfl⟩
     have hnb := U.numB_len 9 x1 (by have := HX.out; omega)
     rw [hmb] at Pb ⊢
     have HMb : Hid (mb ≤ 90000000000020) := by show _ ≤ _; have := HLn8.out; omega
     have HPb := hide Pb
     obtain ⟨z0, z1⟩ := (HWv.out _ _ _ _ _ Pb).2.cells
     rw [HR.out] at z0
     clear Pb hRb hAb hmb hnb y0 y1 hst9 hld hgs
     go_wp2_with fail
     refine (U.rnum9_any bob mb ccb _ x2 _ HPb.out.r (by have := HX.out; omega) (by have := HMb.out; omega)).mono ?_
     rintro e wc ⟨boc, ccc, rfl, hRc, hAc⟩
     have Pc := HPb.out.ap hRc hAc
     obtain ⟨mc, hmc⟩ : ∃ mc, mb + (U.numB x2).length = mc := ⟨_, rfl⟩
     have hnc := U.numB_len 9 x2 (by have := HX.out; omega)
     rw [hmc] at Pc ⊢
     have HMc : Hid (mc ≤ 90000000000040) := by show _ ≤ _; have := HMb.out; omega
     have HPc := hide Pc
     obtain ⟨-, -, t2, -⟩ := (HWv.out _ _ _ _ _ Pc).1.flat
     clear Pc hRc hAc hmc hnc z0 z1
     go_wp2_with fail
     refine (U.rtext9_any boc mc ccc _ s.sku _ HPc.out.r (by have := HQ.out; omega) (by have := HMc.out; omega)).mono ?_
     rintro e we ⟨boe, me, cce, rfl, hRe, hAe⟩
     have Pe := HPc.out.ap hRe hAe
     have HMe : Hid (me ≤ 90000000000140) := by
      show _ ≤ _
      have h1 := Pe.r.len
      have h2 := HPc.out.r.len
      have h3 := HMc.out
      have h4 := txB_len HQ.out.2.2.2.2.2.1
      unfold txB at h4
      rw [List.length_append] at h1
      omega
     have HPe := hide Pe
     obtain ⟨-, -, -, t3⟩ := (HWv.out _ _ _ _ _ Pe).1.flat
     clear Pe hRe hAe t2
     go_wp2_with fail
     refine (U.rnum9_any boe me cce _ x4 _ HPe.out.r (by have := HX.out; omega) (by have := HMe.out; omega)).mono ?_
     rintro e wd ⟨bod, ccd, rfl, hRd, hAd⟩
     have Pd := HPe.out.ap hRd hAd
     obtain ⟨md, hmd⟩ : ∃ md, me + (U.numB x4).length = md := ⟨_, rfl⟩
     rw [hmd] at Pd ⊢
     obtain ⟨u0, u1⟩ := (HWv.out _ _ _ _ _ Pd).2.cells
     rw [HR.out] at u0
     have HPd : Hid (GW w2 wd bod md ccd (U.numB sn ++ entB (fun _ => 0) 0 (L.take (j + 1))) []) := by
      rw [HSt.out.2, HX.out.1.2, HX.out.2.1.2, HX.out.2.2.2]
      have := Pd.sub (F' := []) (fun x hx => by cases hx)
      unfold txB
      simp only [List.append_assoc] at this ⊢
      exact this
     clear Pd hRd hAd hmd t3
     go_wp2_with fail
     go_quiet (fail)
     have HPq := hide (HPd.out.below (U.below_drewN wd nq))
     clear HPd u0 u1
     generalize wd.drewN nq = wq at HPq ⊢
     go_wp2_with fail
     go_roundw
     case rel => exact ⟨j + 1, bod, md, ccd, (r : Int), s.num, by have := Hlt.out; omega, by simp, rfl, rfl, rfl, ⟨HPq.out, by rw [HSt.out.1], by rw [HSt.out.1]; exact HLs.out.next r HQ.out.1.2 s.num⟩⟩
     case measure => simp [intOf]; have := Hlt.out; omega
   ·obtain rfl : j = sn := by omega
    have hlti : ¬ ((j : Nat) : Int) < (j : Int) := by omega
    have HFin : Hid (PutE w wv (.returned (.tuple #[.slice bo8 m8 cc8, .int .i64 0])) L) := by
     have h1 := P8
     rw [List.take_of_length_le (by have := HLl.out; omega), ← HLl.out] at h1
     have h2 : GW w2 wv bo8 m8 cc8 ([] ++ entsB L) [] := h1
     obtain ⟨rfl, h4, h5⟩ := h2.put
     exact .inr ⟨HY.out, bo8, cc8, rfl, h4, h5.pre HB2.out⟩
    clear P8 hrj hLs
    go_wp2_with fail
    go_ret2
    exact HFin.out
end Go.Proofs.YtphohmoibnoeaaaGreat
