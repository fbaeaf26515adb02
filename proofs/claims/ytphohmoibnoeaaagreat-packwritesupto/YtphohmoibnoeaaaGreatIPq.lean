/- The reference's putPast (barrowref09). -/
import Derived.Test.YtphohmoibnoeaaaGreatIGw
namespace Go.Proofs.YtphohmoibnoeaaaGreat
open Go.RowKit
attribute [local go_sem ↓] ldS_eq stS_eq ldP_eq stP_eq
attribute [local go_sem] zero_SC cells_SV SC_size cells_PV PC_size

theorem wN {x : Int} (h1 : 0 ≤ x) (h2 : x ≤ 9223372036854775807) : wrap64 x = ((x.toNat : Nat) : Int) := by rw [U.w64 (by omega) h2]; omega
theorem vl_len {P : Pst} (h : InForm P) (k : Nat) : (vecB (P.vec.take k)).length ≤ 80 := by
 have h2 := vecB_len (V := P.vec.take k) (fun x hx => inf_bd h x (List.mem_of_mem_take hx))
 have h3 := inf_len h
 rw [List.length_take] at h2
 omega
set_option maxRecDepth 100000 in
set_option maxHeartbeats 6400000 in
theorem rputPast9_any {w0 W : World} {ao : Option Addr} {n cap : Nat} {Z : List Int} {F : List (Nat × Obj)} (h : GW w0 W ao n cap Z F) (p : Pv) (hS : PSrc w0 p) (hI : InForm p.P) (hn : n ≤ 50000000000000) :
  Calls Tryz.prog 32 #[.slice ao n cap, PV p] W fun e w' => ∃ bo m cc, e = .returned (.slice bo m cc) ∧ GW w0 w' bo m cc (Z ++ pastB p.P) F := by
 have P1 := h.new (.cells (PC p) 25)
 obtain ⟨b2, hb2⟩ : ∃ b2, W.heap.size = b2 := ⟨_, rfl⟩
 obtain ⟨F2, hF2⟩ : ∃ F2, ((b2, Obj.cells (PC p) 25) :: F) = F2 := ⟨_, rfl⟩
 obtain ⟨W1, hW1⟩ : ∃ W1, W.alloc (.cells (PC p) 25) = W1 := ⟨_, rfl⟩
 rw [hW1, hb2, hF2] at P1
 have HP1 := hide P1
 have HC : Hid (∀ V bo m cc Y G, GW w0 V bo m cc Y (G ++ F2) → PBox V b2 p ∧ PSrc V p) := fun V bo m cc Y G hV => by
  refine ⟨(hV.keep (b2, .cells (PC p) 25) (by rw [← hF2]; simp)).1, hS.below hV.nw.1⟩
 have HSub : Hid (∀ x ∈ F, x ∈ F2) := fun x hx => by rw [← hF2]; exact List.mem_cons_of_mem _ hx
 have HI := hide hI
 have HN := hide hn
 have HZl := hide h.r.len
 have HVl : Hid (p.P.vec.length = p.vn ∧ p.vn ≤ 16) := by have h1 := hS.vec.1; have h2 := inf_len hI; exact ⟨h1, by omega⟩
 have HKl : Hid (p.P.cloud.length = p.cn ∧ p.cn ≤ 8000000016) := by have h1 := hS.cloud.len; have h2 := (canon_len (canon_iff.2 hI)).1; exact ⟨h1, by omega⟩
 obtain ⟨c30, c31⟩ := (HC.out _ _ _ _ _ [] P1).1.nums
 have hvn := HVl.out.2
 have hcn := HKl.out.2
 clear P1 h hI hS hn
 go_enter Tryz.func32, Tryz.ntmps32
 go_wp2_with fail
 clear hW1 hb2
 refine (U.rnum9_any ao n cap Z p.vn _ HP1.out.r (by omega) (by have := HN.out; omega)).mono ?_
 rintro e W2 ⟨bo, cc, rfl, hR, hA⟩
 obtain ⟨m, hm⟩ : ∃ m, n + (U.numB p.vn).length = m := ⟨_, rfl⟩
 rw [hm] at hR ⊢
 have P2 := HP1.out.ap hR hA
 have HP2 := hide P2
 obtain ⟨d30, d31⟩ := (HC.out _ _ _ _ _ [] P2).1.nums
 clear c30 c31 P2 hR hA hm
 go_wp2_with fail
 go_loopw [0, 5] (fun b i wr => ∃ (k : Nat) (bo : Option Addr) (m cc : Nat), k ≤ p.vn ∧ i = .int .i64 k ∧ b = .slice bo m cc ∧ Hid (GW w0 wr bo m cc (Z ++ (U.numB p.vn ++ vecB (p.P.vec.take k))) F2)) (fun _ i _ => p.vn - (intOf i).toNat)
 case atStart => exact ⟨0, bo, m, cc, Nat.zero_le _, rfl, rfl, hide (by simpa [vecB] using HP2.out)⟩
 case round =>
  obtain ⟨k, bo1, m1, cc1, hk, rfl, rfl, HPk⟩ := hrel
  rename World => wr
  have P3 := HPk.out
  obtain ⟨X3, S3⟩ := HC.out _ _ _ _ _ [] P3
  obtain ⟨e30, e31⟩ := X3.nums
  have HP3 := hide P3
  have HLn : Hid (m1 ≤ 50000000001000) := by
   show _ ≤ _
   have h1 := P3.r.len
   have h2 := vl_len HI.out k
   have h3 := U.numB_len 9 p.vn (by omega)
   have h4 := HZl.out
   have h5 := HN.out
   rw [List.length_append, List.length_append] at h1
   omega
  by_cases hlt : k < p.vn
  ·obtain ⟨ad, hao, q1⟩ := vsrc_at S3.vec k hlt
   rw [hao] at e30
   have hx := inf_bd HI.out (p.P.vec.getD k 0) (by rw [List.getD_eq_getElem?_getD, List.getElem?_eq_getElem (by have := HVl.out; omega)]; exact List.getElem_mem _)
   obtain ⟨y, hy⟩ : ∃ y : Nat, p.P.vec.getD k 0 = (y : Int) := ⟨(p.P.vec.getD k 0).toNat, by omega⟩
   rw [hy] at q1 hx
   have HT : Hid (p.P.vec.take (k + 1) = p.P.vec.take k ++ [(y : Int)]) := by show _ = _; rw [take_snocI p.P.vec k (by have := HVl.out; omega), hy]
   have Hlt := hide hlt
   have hlti : ((k : Nat) : Int) < (p.vn : Int) := by omega
   clear d30 d31 P3 S3 hy X3 hao
   go_wp2_with fail
   refine (U.rnum9_any bo1 m1 cc1 _ y _ HP3.out.r (by omega) (by have := HLn.out; omega)).mono ?_
   rintro e W4 ⟨bo4, cc4, rfl, hR4, hA4⟩
   have P4 := HP3.out.ap hR4 hA4
   obtain ⟨m4, hm4⟩ : ∃ m4, m1 + (U.numB y).length = m4 := ⟨_, rfl⟩
   rw [hm4] at P4 ⊢
   have HP4 : Hid (GW w0 W4 bo4 m4 cc4 (Z ++ (U.numB p.vn ++ vecB (p.P.vec.take (k + 1)))) F2) := by
    rw [HT.out, vecB_snoc]
    have := P4
    simp only [List.append_assoc] at this
    exact this
   clear hR4 hA4 P4 q1 e30 e31 hx hm4
   go_wp2_with fail
   go_roundw
   case rel => exact ⟨k + 1, bo4, m4, cc4, by omega, by simp, rfl, HP4.out⟩
   case measure => simp [intOf]; omega
  ·obtain rfl : k = p.vn := by omega
   have hlti : ¬ ((p.vn : Nat) : Int) < (p.vn : Int) := by omega
   have HP5 : Hid (GW w0 wr bo1 m1 cc1 (Z ++ (U.numB p.vn ++ vecB p.P.vec)) F2) := by
    have h1 := HVl.out.1
    have h2 := HP3.out
    rw [List.take_of_length_le (by omega)] at h2
    exact h2
   clear d30 d31 P3 hlt HPk HP3 HP2 HP1 S3 X3
   go_wp2_with fail
   refine (U.rnum9_any bo1 m1 cc1 _ p.cn _ HP5.out.r (by omega) (by have := HLn.out; omega)).mono ?_
   rintro e W6 ⟨bo6, cc6, rfl, hR6, hA6⟩
   have P6 := HP5.out.ap hR6 hA6
   obtain ⟨m6, hm6⟩ : ∃ m6, m1 + (U.numB p.cn).length = m6 := ⟨_, rfl⟩
   rw [hm6] at P6 ⊢
   obtain ⟨B0, hB0⟩ : ∃ B0, Z ++ (U.numB p.vn ++ vecB p.P.vec) ++ U.numB p.cn = B0 := ⟨_, rfl⟩
   have HB0 : Hid (B0.length ≤ 50000000001100 ∧ B0 ++ cloudB (trl p.P.vec) 0 p.P.cloud = Z ++ pastB p.P) := by
    have h1 := HP5.out.r.len
    have h2 := HLn.out
    have h3 := U.numB_len 9 p.cn (by omega)
    refine ⟨?_, ?_⟩
    ·rw [← hB0, List.length_append]
     omega
    ·rw [← hB0]
     unfold pastB
     rw [HVl.out.1, HKl.out.1]
     simp only [List.append_assoc]
   rw [hB0] at P6
   have HP6 := hide P6
   obtain ⟨f30, f31⟩ := (HC.out _ _ _ _ _ [] P6).1.nums
   have HTr : Hid (TrlOk (trl p.P.vec) 0 p.P.cloud ∧ (∀ k, 0 ≤ trl p.P.vec k ∧ trl p.P.vec k ≤ 1000000000)) := by
    refine ⟨inf_trl HI.out, fun j => ?_⟩
    unfold trl
    by_cases hj : j < p.P.vec.length
    ·rw [List.getD_eq_getElem?_getD, List.getElem?_eq_getElem hj]
     exact inf_bd HI.out _ (List.getElem_mem hj)
    ·rw [List.getD_eq_getElem?_getD, List.getElem?_eq_none (by omega)]
     exact ⟨Int.le_refl 0, by decide⟩
   clear hR6 hA6 P6 e30 e31 hm6 hB0 HP5 HLn
   go_wp2_with fail
   go_loopw [0, 6, 7, 8] (fun b r x i wr => ∃ (j : Nat) (bo : Option Addr) (m cc : Nat) (rj hj : Int), j ≤ p.cn ∧ i = .int .i64 j ∧ r = .int .i64 rj ∧ x = .int .i64 hj ∧ b = .slice bo m cc ∧ Hid (GW w0 wr bo m cc (B0 ++ cloudB (trl p.P.vec) 0 (p.P.cloud.take j)) F2 ∧ (stOf (trl p.P.vec) 0 (p.P.cloud.take j)).2 = rj ∧ LstOk j rj hj p.P.vec (stOf (trl p.P.vec) 0 (p.P.cloud.take j)).1)) (fun _ _ _ i _ => p.cn - (intOf i).toNat)
   case atStart => exact ⟨0, bo6, m6, cc6, 0, 0, Nat.zero_le _, rfl, rfl, rfl, rfl, by
    show GW w0 _ bo6 m6 cc6 (B0 ++ []) F2
    rw [List.append_nil]
    exact HP6.out, rfl, lst_start _ _ _⟩
   case round =>
    obtain ⟨j, bo8, m8, cc8, rj, hj, hjn, rfl, rfl, rfl, rfl, HPj⟩ := hrel
    rename World => wv
    obtain ⟨P8, hrj, hLs⟩ := HPj.out
    obtain ⟨X8, S8⟩ := HC.out _ _ _ _ _ [] P8
    obtain ⟨e30, e31⟩ := X8.nums
    by_cases hlt : j < p.cn
    ·obtain ⟨ad, hao, A8⟩ := S8.cloud.at j hlt
     have hlti : ((j : Nat) : Int) < (p.cn : Int) := by omega
     obtain ⟨s, Hs⟩ : ∃ s, Hid (p.P.cloud.getD j sn0 = s) := ⟨_, rfl⟩
     rw [Hs.out] at A8
     have HTk : Hid (p.P.cloud.take (j + 1) = p.P.cloud.take j ++ [s]) := by show _ = _; rw [take_snocS p.P.cloud j (by have := HKl.out; omega), Hs.out]
     obtain ⟨Tj, hTj⟩ : ∃ Tj, (stOf (trl p.P.vec) 0 (p.P.cloud.take j)).1 = Tj := ⟨_, rfl⟩
     have hok : TrlOk (trl p.P.vec) 0 (p.P.cloud.take j ++ [s]) := by
      rw [← HTk.out]
      exact (trlOk_append (p.P.cloud.take (j + 1)) (p.P.cloud.drop (j + 1)) _ _ (by rw [List.take_append_drop]; exact HTr.out.1)).1
     obtain ⟨hok1, hok2⟩ := trlOk_append _ _ _ _ hok
     obtain ⟨hr0, hTb⟩ := stOf_bd _ _ _ (Int.le_refl 0) hok1 HTr.out.2
     rw [hTj, hrj] at hok2
     rw [hTj] at hTb hLs
     rw [hrj] at hr0
     obtain ⟨⟨q1, q2, q3⟩, q4, q5, q6, -⟩ := hok2
     obtain ⟨r, hr⟩ : ∃ r : Nat, s.rep = (r : Int) := ⟨s.rep.toNat, by omega⟩
     have hrn : s.rep.toNat = r := by omega
     rw [hrn] at q4
     have hT := hTb r
     have HSt : Hid ((stOf (trl p.P.vec) 0 (p.P.cloud.take (j + 1))) = (upd Tj r s.hi, (r : Int)) ∧ cloudB (trl p.P.vec) 0 (p.P.cloud.take (j + 1)) = cloudB (trl p.P.vec) 0 (p.P.cloud.take j) ++ (nB ((r : Int) - rj) ++ (nB (s.lo - (Tj r + 2)) ++ nB (s.hi - s.lo)))) := by
      constructor
      ·rw [HTk.out, stOf_append, hTj, hrj]
       simp only [stOf, hr, Int.toNat_natCast]
      ·rw [HTk.out, cloudB_append, hTj, hrj]
       simp only [cloudB, hrn, List.append_nil]
       rw [hr]
     have HLn8 : Hid (m8 ≤ 90000000000000) := by
      show _ ≤ _
      have h1 := P8.r.len
      have h2 := cloudB_max (p.P.cloud.take j) (trl p.P.vec) 0 (Int.le_refl 0) hok1 (fun k => (HTr.out.2 k).1)
      have h3 := HB0.out.1
      rw [List.length_append] at h1
      rw [List.length_take] at h2
      omega
     obtain ⟨gs, hgs⟩ : ∃ gs, wv.heap.size = gs := ⟨_, rfl⟩
     obtain ⟨w9, hst9, X9, b9, -⟩ := madeS wv s gs hgs
     have P9 := P8.add b9 (g := gs) (by omega) X9
     have hld := run_ldS A8
     obtain ⟨Y9, S9⟩ := HC.out _ _ _ _ _ [_] P9
     have l9 := run_ldP Y9.at
     obtain ⟨y0, y1, y2⟩ := X9.at
     rw [hr] at y0
     rw [hao] at e31
     have HP9 := hide P9
     have HS9 := hide S9
     have HQ : Hid ((0 ≤ rj ∧ rj ≤ (r : Int)) ∧ Tj r + 2 ≤ s.lo ∧ s.lo ≤ s.hi ∧ s.hi ≤ 1000000000 ∧ (0 ≤ Tj r ∧ Tj r ≤ 1000000000) ∧ r < 16) := ⟨⟨hr0, by omega⟩, q4, q5, q6, hT, by omega⟩
     have HLs := hide hLs
     have Hlt := hide hlt
     have HR := hide hr
     have HTr0 := hide (HTr.out.2 r)
     clear P8 S8 A8 hok hok1 hTb hT q1 q2 q3 q4 q5 q6 hr0 X9 b9 P9 f30 f31 hTj hrj hrn hr HPj HP6 Y9 S9 X8 hLs hao
     go_wp2_with fail
     clear hgs hst9 hld
     refine (vecAt9_any p r _ HS9.out (by have := HQ.out; omega)).mono ?_
     rintro e wa ⟨rfl, ba⟩
     have Pa := HP9.out.below ba
     have HPa := hide Pa
     have Xa : SBox wa gs s := (Pa.keep (gs, .cells (SC s) 59 (0, 0)) (by simp)).1
     obtain ⟨v0, v1, v2⟩ := Xa.at
     rw [HR.out] at v0
     obtain ⟨tr, htr⟩ : ∃ tr, trl p.P.vec r = tr := ⟨_, rfl⟩
     rw [htr] at HTr0 ⊢
     have HTW : Hid (wrap64 (tr + 2) = tr + 2) := U.w64 (by have := HTr0.out; omega) (by have := HTr0.out; omega)
     obtain ⟨yl, hyl⟩ : ∃ yl : Int, Tj r + 2 = yl := ⟨_, rfl⟩
     have HYl := hide hyl
     have HTj : Hid (Tj r = if 0 < j ∧ (r : Int) = rj then hj else tr) := by show _ = _; rw [← htr]; exact HLs.out r HQ.out.1.2
     have HT1 : Hid (0 < j ∧ (r : Int) = rj → wrap64 (hj + 2) = yl) := fun h => by
      have h1 := HTj.out
      rw [if_pos h] at h1
      rw [← h1, hyl]
      exact U.w64 (by have := HQ.out; omega) (by have := HQ.out; omega)
     have HT2 : Hid (¬ (0 < j ∧ (r : Int) = rj) → wrap64 (tr + 2) = yl) := fun h => by
      have h1 := HTj.out
      rw [if_neg h] at h1
      rw [← h1, hyl]
      exact U.w64 (by have := HQ.out; omega) (by have := HQ.out; omega)
     have hw1 : wrap64 ((r : Int) - rj) = ((((r : Int) - rj).toNat : Nat) : Int) := wN (by have := HQ.out; omega) (by have := HQ.out; omega)
     obtain ⟨x1, hx1⟩ : ∃ x1, ((r : Int) - rj).toNat = x1 := ⟨_, rfl⟩
     rw [hx1] at hw1
     have hw2 : wrap64 (s.lo - yl) = (((s.lo - yl).toNat : Nat) : Int) := wN (by have := HQ.out; omega) (by have := HQ.out; omega)
     obtain ⟨x2, hx2⟩ : ∃ x2, (s.lo - yl).toNat = x2 := ⟨_, rfl⟩
     rw [hx2] at hw2
     have hw3 : wrap64 (s.hi - s.lo) = (((s.hi - s.lo).toNat : Nat) : Int) := wN (by have := HQ.out; omega) (by have := HQ.out; omega)
     obtain ⟨x3, hx3⟩ : ∃ x3, (s.hi - s.lo).toNat = x3 := ⟨_, rfl⟩
     rw [hx3] at hw3
     have HX : Hid ((x1 ≤ 1000000000 ∧ nB ((r : Int) - rj) = U.numB x1) ∧ (x2 ≤ 1000000000 ∧ nB (s.lo - (Tj r + 2)) = U.numB x2) ∧ (x3 ≤ 1000000000 ∧ nB (s.hi - s.lo) = U.numB x3)) := ⟨⟨by have := HQ.out; omega, by rw [← hx1]; rfl⟩, ⟨by have := HQ.out; omega, by rw [← hx2, ← hyl]; rfl⟩, ⟨by have := HQ.out; omega, by rw [← hx3]; rfl⟩⟩
     have htw := HTW.out
     clear Pa Xa y0 y1 y2 l9 hx1 hx2 hx3 htr hyl ba e30 e31
     by_cases hj0 : 0 < j
     ·have hji : (0 : Int) < (j : Int) := by omega
      by_cases hrr : (r : Int) = rj
      ·have hre : ((r : Int) == rj) = true := by simpa using hrr
       have hjw : wrap64 (hj + 2) = yl := HT1.out ⟨hj0, hrr⟩
       clear hrr
       go_wp2_with fail
       refine (U.rnum9_any bo8 m8 cc8 _ x1 _ HPa.out.r (by have := HX.out; omega) (by have := HLn8.out; omega)).mono ?_
       rintro e wb ⟨bob, ccb, rfl, hRb, hAb⟩
       have Pb := HPa.out.ap hRb hAb
       obtain ⟨mb, hmb⟩ : ∃ mb, m8 + (U.numB x1).length = mb := ⟨_, rfl⟩
       have hnb := U.numB_len 9 x1 (by have := HX.out; omega)
       rw [hmb] at Pb ⊢
       have HMb : Hid (mb ≤ 90000000000020) := by show _ ≤ _; have := HLn8.out; omega
       have HPb := hide Pb
       have Xb : SBox wb gs s := (Pb.keep (gs, .cells (SC s) 59 (0, 0)) (by simp)).1
       obtain ⟨z0, z1, z2⟩ := Xb.at
       rw [HR.out] at z0
       clear Pb Xb hRb hAb hmb hnb v0 v1 v2
       go_wp2_with fail
       refine (U.rnum9_any bob mb ccb _ x2 _ HPb.out.r (by have := HX.out; omega) (by have := HMb.out; omega)).mono ?_
       rintro e wc ⟨boc, ccc, rfl, hRc, hAc⟩
       have Pc := HPb.out.ap hRc hAc
       obtain ⟨mc, hmc⟩ : ∃ mc, mb + (U.numB x2).length = mc := ⟨_, rfl⟩
       have hnc := U.numB_len 9 x2 (by have := HX.out; omega)
       rw [hmc] at Pc ⊢
       have HMc : Hid (mc ≤ 90000000000040) := by show _ ≤ _; have := HMb.out; omega
       have HPc := hide Pc
       have Xc : SBox wc gs s := (Pc.keep (gs, .cells (SC s) 59 (0, 0)) (by simp)).1
       obtain ⟨t0, t1, t2⟩ := Xc.at
       rw [HR.out] at t0
       clear Pc Xc hRc hAc hmc hnc z0 z1 z2
       go_wp2_with fail
       refine (U.rnum9_any boc mc ccc _ x3 _ HPc.out.r (by have := HX.out; omega) (by have := HMc.out; omega)).mono ?_
       rintro e wd ⟨bod, ccd, rfl, hRd, hAd⟩
       have Pd := HPc.out.ap hRd hAd
       obtain ⟨md, hmd⟩ : ∃ md, mc + (U.numB x3).length = md := ⟨_, rfl⟩
       rw [hmd] at Pd ⊢
       have Xd : SBox wd gs s := (Pd.keep (gs, .cells (SC s) 59 (0, 0)) (by simp)).1
       obtain ⟨u0, u1, u2⟩ := Xd.at
       rw [HR.out] at u0
       have HPd : Hid (GW w0 wd bod md ccd (B0 ++ cloudB (trl p.P.vec) 0 (p.P.cloud.take (j + 1))) F2) := by
        rw [HSt.out.2, HX.out.1.2, HX.out.2.1.2, HX.out.2.2.2]
        have := Pd.sub (F' := F2) (fun x hx => List.mem_cons_of_mem _ hx)
        simp only [List.append_assoc] at this
        exact this
       clear Pd Xd hRd hAd hmd t0 t1 t2
       go_wp2_with fail
       go_quiet (fail)
       have HPq := hide (HPd.out.below (U.below_drewN wd nq))
       clear HPd u0 u1 u2
       generalize wd.drewN nq = wq at HPq ⊢
       go_wp2_with fail
       go_roundw
       case rel => exact ⟨j + 1, bod, md, ccd, (r : Int), s.hi, by have := Hlt.out; omega, by simp, rfl, rfl, rfl, ⟨HPq.out, by rw [HSt.out.1], by rw [HSt.out.1]; exact HLs.out.next r HQ.out.1.2 s.hi⟩⟩
       case measure => simp [intOf]; have := Hlt.out; omega
      ·have hre : ((r : Int) == rj) = false := by simpa using hrr
       have htq : wrap64 (tr + 2) = yl := HT2.out (fun h => hrr h.2)
       clear htw
       clear hrr
       go_wp2_with fail
       refine (U.rnum9_any bo8 m8 cc8 _ x1 _ HPa.out.r (by have := HX.out; omega) (by have := HLn8.out; omega)).mono ?_
       rintro e wb ⟨bob, ccb, rfl, hRb, hAb⟩
       have Pb := HPa.out.ap hRb hAb
       obtain ⟨mb, hmb⟩ : ∃ mb, m8 + (U.numB x1).length = mb := ⟨_, rfl⟩
       have hnb := U.numB_len 9 x1 (by have := HX.out; omega)
       rw [hmb] at Pb ⊢
       have HMb : Hid (mb ≤ 90000000000020) := by show _ ≤ _; have := HLn8.out; omega
       have HPb := hide Pb
       have Xb : SBox wb gs s := (Pb.keep (gs, .cells (SC s) 59 (0, 0)) (by simp)).1
       obtain ⟨z0, z1, z2⟩ := Xb.at
       rw [HR.out] at z0
       clear Pb Xb hRb hAb hmb hnb v0 v1 v2
       go_wp2_with fail
       refine (U.rnum9_any bob mb ccb _ x2 _ HPb.out.r (by have := HX.out; omega) (by have := HMb.out; omega)).mono ?_
       rintro e wc ⟨boc, ccc, rfl, hRc, hAc⟩
       have Pc := HPb.out.ap hRc hAc
       obtain ⟨mc, hmc⟩ : ∃ mc, mb + (U.numB x2).length = mc := ⟨_, rfl⟩
       have hnc := U.numB_len 9 x2 (by have := HX.out; omega)
       rw [hmc] at Pc ⊢
       have HMc : Hid (mc ≤ 90000000000040) := by show _ ≤ _; have := HMb.out; omega
       have HPc := hide Pc
       have Xc : SBox wc gs s := (Pc.keep (gs, .cells (SC s) 59 (0, 0)) (by simp)).1
       obtain ⟨t0, t1, t2⟩ := Xc.at
       rw [HR.out] at t0
       clear Pc Xc hRc hAc hmc hnc z0 z1 z2
       go_wp2_with fail
       refine (U.rnum9_any boc mc ccc _ x3 _ HPc.out.r (by have := HX.out; omega) (by have := HMc.out; omega)).mono ?_
       rintro e wd ⟨bod, ccd, rfl, hRd, hAd⟩
       have Pd := HPc.out.ap hRd hAd
       obtain ⟨md, hmd⟩ : ∃ md, mc + (U.numB x3).length = md := ⟨_, rfl⟩
       rw [hmd] at Pd ⊢
       have Xd : SBox wd gs s := (Pd.keep (gs, .cells (SC s) 59 (0, 0)) (by simp)).1
       obtain ⟨u0, u1, u2⟩ := Xd.at
       rw [HR.out] at u0
       have HPd : Hid (GW w0 wd bod md ccd (B0 ++ cloudB (trl p.P.vec) 0 (p.P.cloud.take (j + 1))) F2) := by
        rw [HSt.out.2, HX.out.1.2, HX.out.2.1.2, HX.out.2.2.2]
        have := Pd.sub (F' := F2) (fun x hx => List.mem_cons_of_mem _ hx)
        simp only [List.append_assoc] at this
        exact this
       clear Pd Xd hRd hAd hmd t0 t1 t2
       go_wp2_with fail
       go_quiet (fail)
       have HPq := hide (HPd.out.below (U.below_drewN wd nq))
       clear HPd u0 u1 u2
       generalize wd.drewN nq = wq at HPq ⊢
       go_wp2_with fail
       go_roundw
       case rel => exact ⟨j + 1, bod, md, ccd, (r : Int), s.hi, by have := Hlt.out; omega, by simp, rfl, rfl, rfl, ⟨HPq.out, by rw [HSt.out.1], by rw [HSt.out.1]; exact HLs.out.next r HQ.out.1.2 s.hi⟩⟩
       case measure => simp [intOf]; have := Hlt.out; omega
     ·have hji : ¬ (0 : Int) < (j : Int) := by omega
      have htq : wrap64 (tr + 2) = yl := HT2.out (fun h => hj0 h.1)
      clear htw
      go_wp2_with fail
      refine (U.rnum9_any bo8 m8 cc8 _ x1 _ HPa.out.r (by have := HX.out; omega) (by have := HLn8.out; omega)).mono ?_
      rintro e wb ⟨bob, ccb, rfl, hRb, hAb⟩
      have Pb := HPa.out.ap hRb hAb
      obtain ⟨mb, hmb⟩ : ∃ mb, m8 + (U.numB x1).length = mb := ⟨_, rfl⟩
      have hnb := U.numB_len 9 x1 (by have := HX.out; omega)
      rw [hmb] at Pb ⊢
      have HMb : Hid (mb ≤ 90000000000020) := by show _ ≤ _; have := HLn8.out; omega
      have HPb := hide Pb
      have Xb : SBox wb gs s := (Pb.keep (gs, .cells (SC s) 59 (0, 0)) (by simp)).1
      obtain ⟨z0, z1, z2⟩ := Xb.at
      rw [HR.out] at z0
      clear Pb Xb hRb hAb hmb hnb v0 v1 v2
      go_wp2_with fail
      refine (U.rnum9_any bob mb ccb _ x2 _ HPb.out.r (by have := HX.out; omega) (by have := HMb.out; omega)).mono ?_
      rintro e wc ⟨boc, ccc, rfl, hRc, hAc⟩
      have Pc := HPb.out.ap hRc hAc
      obtain ⟨mc, hmc⟩ : ∃ mc, mb + (U.numB x2).length = mc := ⟨_, rfl⟩
      have hnc := U.numB_len 9 x2 (by have := HX.out; omega)
      rw [hmc] at Pc ⊢
      have HMc : Hid (mc ≤ 90000000000040) := by show _ ≤ _; have := HMb.out; omega
      have HPc := hide Pc
      have Xc : SBox wc gs s := (Pc.keep (gs, .cells (SC s) 59 (0, 0)) (by simp)).1
      obtain ⟨t0, t1, t2⟩ := Xc.at
      rw [HR.out] at t0
      clear Pc Xc hRc hAc hmc hnc z0 z1 z2
      go_wp2_with fail
      refine (U.rnum9_any boc mc ccc _ x3 _ HPc.out.r (by have := HX.out; omega) (by have := HMc.out; omega)).mono ?_
      rintro e wd ⟨bod, ccd, rfl, hRd, hAd⟩
      have Pd := HPc.out.ap hRd hAd
      obtain ⟨md, hmd⟩ : ∃ md, mc + (U.numB x3).length = md := ⟨_, rfl⟩
      rw [hmd] at Pd ⊢
      have Xd : SBox wd gs s := (Pd.keep (gs, .cells (SC s) 59 (0, 0)) (by simp)).1
      obtain ⟨u0, u1, u2⟩ := Xd.at
      rw [HR.out] at u0
      have HPd : Hid (GW w0 wd bod md ccd (B0 ++ cloudB (trl p.P.vec) 0 (p.P.cloud.take (j + 1))) F2) := by
       rw [HSt.out.2, HX.out.1.2, HX.out.2.1.2, HX.out.2.2.2]
       have := Pd.sub (F' := F2) (fun x hx => List.mem_cons_of_mem _ hx)
       simp only [List.append_assoc] at this
       exact this
      clear Pd Xd hRd hAd hmd t0 t1 t2
      go_wp2_with fail
      go_quiet (fail)
      have HPq := hide (HPd.out.below (U.below_drewN wd nq))
      clear HPd u0 u1 u2
      generalize wd.drewN nq = wq at HPq ⊢
      go_wp2_with fail
      go_roundw
      case rel => exact ⟨j + 1, bod, md, ccd, (r : Int), s.hi, by have := Hlt.out; omega, by simp, rfl, rfl, rfl, ⟨HPq.out, by rw [HSt.out.1], by rw [HSt.out.1]; exact HLs.out.next r HQ.out.1.2 s.hi⟩⟩
      case measure => simp [intOf]; have := Hlt.out; omega
    ·obtain rfl : j = p.cn := by omega
     have hlti : ¬ ((p.cn : Nat) : Int) < (p.cn : Int) := by omega
     have HFin : Hid (GW w0 wv bo8 m8 cc8 (Z ++ pastB p.P) F) := by
      have h1 := P8
      rw [List.take_of_length_le (by have := HKl.out; omega), HB0.out.2] at h1
      exact h1.sub HSub.out
     clear P8 S8 hrj hLs X8
     go_wp2_with fail
     go_ret
     exact ⟨bo8, m8, cc8, rfl, HFin.out⟩
end Go.Proofs.YtphohmoibnoeaaaGreat
