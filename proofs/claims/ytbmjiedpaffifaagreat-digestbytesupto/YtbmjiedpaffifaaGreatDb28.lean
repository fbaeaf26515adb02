/- ZRp -/
import Derived.Test.YtbmjiedpaffifaaGreatDb27
import Derived.Deep.CutBlock
import Derived.Deep.DeepCutAuto
namespace Go.Proofs.YtbmjiedpaffifaaGreat
open Go.RowKit
attribute [local go_sem ↓] ldS_eq stS_eq ldP_eq stP_eq
attribute [local go_sem] zero_SC cells_SV SC_size cells_PV PC_size
theorem wN {x : Int} (h1 : 0 ≤ x) (h2 : x ≤ 9223372036854775807) : wrap64 x = ((x.toNat : Nat) : Int) := by rw [U.w64 (by omega) h2]; omega
theorem vl_len {P : Pst} (h : InForm P) (k : Nat) : (vecB (P.vec.take k)).length ≤ 80 := by
  have h2 := vecB_len (V := P.vec.take k) (fun x hx => inf_bd h x (List.mem_of_mem_take hx))
  have h3 := inf_len h
  rw [List.length_take] at h2
  omega
theorem lst_at (V : List Int) (L : List Sn) (hok : TrlOk (trl V) 0 L) : ∀ j : Nat, j ≤ L.length → LstOk j (stOf (trl V) 0 (L.take j)).2 (L.getD (j - 1) sn0).hi V (stOf (trl V) 0 (L.take j)).1 ∧ (0 < j → (stOf (trl V) 0 (L.take j)).2 = (L.getD (j - 1) sn0).rep)
  | 0, _ => ⟨lst_start _ _ _, fun h => absurd h (Nat.lt_irrefl 0)⟩
  | j + 1, h => by
    have ih := lst_at V L hok j (by omega)
    have ht : L.take (j + 1) = L.take j ++ [L.getD j sn0] := take_snocS L j (by omega)
    have ho := (trlOk_append (L.take (j + 1)) (L.drop (j + 1)) _ _ (by rw [List.take_append_drop]; exact hok)).1
    rw [ht] at ho
    obtain ⟨o1, o2⟩ := trlOk_append _ _ _ _ ho
    obtain ⟨⟨q1, q2, q3⟩, -⟩ := o2
    have e : stOf (trl V) 0 (L.take (j + 1)) = (upd (stOf (trl V) 0 (L.take j)).1 (L.getD j sn0).rep.toNat (L.getD j sn0).hi, (L.getD j sn0).rep) := by
      rw [ht, stOf_append]
      rfl
    rw [e]
    refine ⟨?_, fun _ => rfl⟩
    have hn := ih.1.next (L.getD j sn0).rep.toNat (by omega) (L.getD j sn0).hi
    rw [Int.toNat_of_nonneg q2] at hn
    exact hn
set_option maxRecDepth 100000 in
set_option maxHeartbeats 6400000 in
theorem rputPast14_any (p : Pv) (w0 : World) (hS : PSrc w0 p) (hI : InForm p.P) :
    Calls Tryz.prog 14 #[PV p] w0 fun e w' => ∃ bo m cc, e = .returned (.slice bo m cc) ∧ GW w0 w' bo m cc (pastB p.P) [] := by
  have P1 := (gw_new w0).new (.cells (PC p) 25)
  obtain ⟨b2, hb2⟩ : ∃ b2, w0.heap.size = b2 := ⟨_, rfl⟩
  obtain ⟨F2, hF2⟩ : ∃ F2, [(b2, Obj.cells (PC p) 25)] = F2 := ⟨_, rfl⟩
  obtain ⟨W1, hW1⟩ : ∃ W1, w0.alloc (.cells (PC p) 25) = W1 := ⟨_, rfl⟩
  rw [hW1, hb2, hF2] at P1
  have HP1 := hide P1
  have HC : Hid (∀ V bo m cc Y G, GW w0 V bo m cc Y (G ++ F2) → PBox V b2 p ∧ PSrc V p) := fun V bo m cc Y G hV => by
    refine ⟨(hV.keep (b2, .cells (PC p) 25) (by rw [← hF2]; simp)).1, hS.below hV.nw.1⟩
  have HI := hide hI
  have HVl : Hid (p.P.vec.length = p.vn ∧ p.vn ≤ 16) := by have h1 := hS.vec.1; have h2 := inf_len hI; exact ⟨h1, by omega⟩
  have HKl : Hid (p.P.cloud.length = p.cn ∧ p.cn ≤ 8000000016) := by have h1 := hS.cloud.len; have h2 := (canon_len (canon_iff.2 hI)).1; exact ⟨h1, by omega⟩
  obtain ⟨c30, c31⟩ := (HC.out _ _ _ _ _ [] P1).1.nums
  have hvn := HVl.out.2
  have hcn := HKl.out.2
  clear P1 hI hS hF2
  go_enter Tryz.func14, Tryz.ntmps14
  go_wp2_with fail
  clear hW1 hb2
  refine (U.refNum_any p.vn _ (by omega)).mono ?_
  rintro e W2 ⟨bo, cc, rfl, hR, hA⟩
  obtain ⟨m, hm⟩ : ∃ m, (U.numB p.vn).length = m := ⟨_, rfl⟩
  rw [hm] at hR ⊢
  have P2 := HP1.out.ap hR hA
  have HP2 := hide P2
  obtain ⟨d30, d31⟩ := (HC.out _ _ _ _ _ [] P2).1.nums
  clear c30 c31 P2 hR hA hm
  go_wp2_with fail
  go_loopw [3, 4] (fun b i wr => ∃ (k : Nat) (bo : Option Addr) (m cc : Nat), k ≤ p.vn ∧ i = .int .i64 k ∧ b = .slice bo m cc ∧ Hid (GW w0 wr bo m cc (U.numB p.vn ++ vecB (p.P.vec.take k)) F2)) (fun _ i _ => p.vn - (intOf i).toNat)
  case atStart => exact ⟨0, bo, m, cc, Nat.zero_le _, rfl, rfl, hide (by simpa [vecB] using HP2.out)⟩
  case round =>
    obtain ⟨k, bo1, m1, cc1, hk, rfl, rfl, HPk⟩ := hrel
    rename World => wr
    have P3 := HPk.out
    obtain ⟨X3, S3⟩ := HC.out _ _ _ _ _ [] P3
    obtain ⟨e30, e31⟩ := X3.nums
    have HP3 := hide P3
    have HLn : Hid (m1 ≤ 1000) := by
      show _ ≤ _
      have h1 := P3.r.len
      have h2 := vl_len HI.out k
      have h3 := U.numB_len 9 p.vn (by omega)
      rw [List.length_append] at h1
      omega
    by_cases hlt : k < p.vn
    · obtain ⟨ad, hao, q1⟩ := vsrc_at S3.vec k hlt
      rw [hao] at e30
      have hx := inf_bd HI.out (p.P.vec.getD k 0) (by rw [List.getD_eq_getElem?_getD, List.getElem?_eq_getElem (by have := HVl.out; omega)]; exact List.getElem_mem _)
      obtain ⟨y, hy⟩ : ∃ y : Nat, p.P.vec.getD k 0 = (y : Int) := ⟨(p.P.vec.getD k 0).toNat, by omega⟩
      rw [hy] at q1 hx
      have HT : Hid (p.P.vec.take (k + 1) = p.P.vec.take k ++ [(y : Int)]) := by show _ = _; rw [take_snocI p.P.vec k (by have := HVl.out; omega), hy]
      have HY : Hid ((U.numB y).length ≤ 10) := by show _ ≤ _; have := U.numB_len 9 y (by omega); omega
      have Hlt := hide hlt
      have hlti : ((k : Nat) : Int) < (p.vn : Int) := by omega
      clear d30 d31 P3 S3 hy X3 hao
      go_wp2_with fail
      refine (U.refNum_any y _ (by omega)).mono ?_
      rintro e W4 ⟨bo4, cc4, rfl, hR4, hA4⟩
      have HP4 := hide (HP3.out.below (U.NewB.of_ap hA4).1)
      have HR4 := hide hR4
      clear hR4 hA4 q1 e30 e31 hx
      go_wp2_with (at_builtin; refine HP4.out.r.appB HR4.out.bs (by have := HLn.out; have := HY.out; omega) rfl (.tmp 20) (.tmp 26) rfl rfl rfl ?_; intro bo5 cc5 w5 S5 A5; have HP5 := hide (HP4.out.ap S5 A5); clear S5 A5)
      go_roundw
      case rel => exact ⟨k + 1, bo5, _, cc5, by have := Hlt.out; omega, by simp, rfl, by
        have h5 := HP5.out
        show GW _ _ _ _ _ _ _
        rw [HT.out, vecB_snoc]
        simp only [List.append_assoc] at h5
        exact h5⟩
      case measure => simp [intOf]; have := Hlt.out; omega
    · obtain rfl : k = p.vn := by omega
      have hlti : ¬ ((p.vn : Nat) : Int) < (p.vn : Int) := by omega
      have HP5 : Hid (GW w0 wr bo1 m1 cc1 (U.numB p.vn ++ vecB p.P.vec) F2) := by
        have h1 := HVl.out.1
        have h2 := HP3.out
        rw [List.take_of_length_le (by omega)] at h2
        exact h2
      have HY : Hid ((U.numB p.cn).length ≤ 10) := by show _ ≤ _; have := U.numB_len 9 p.cn (by omega); omega
      clear d30 d31 P3 hlt HPk HP3 HP2 HP1 S3 X3
      go_wp2_with fail
      refine (U.refNum_any p.cn _ (by omega)).mono ?_
      rintro e W6 ⟨bo6, cc6, rfl, hR6, hA6⟩
      have HP6 := hide (HP5.out.below (U.NewB.of_ap hA6).1)
      have HR6 := hide hR6
      have HTr : Hid (TrlOk (trl p.P.vec) 0 p.P.cloud ∧ (∀ k, 0 ≤ trl p.P.vec k ∧ trl p.P.vec k ≤ 1000000000)) := by
        refine ⟨inf_trl HI.out, fun j => ?_⟩
        unfold trl
        by_cases hj : j < p.P.vec.length
        · rw [List.getD_eq_getElem?_getD, List.getElem?_eq_getElem hj]
          exact inf_bd HI.out _ (List.getElem_mem hj)
        · rw [List.getD_eq_getElem?_getD, List.getElem?_eq_none (by omega)]
          exact ⟨Int.le_refl 0, by decide⟩
      clear hR6 hA6 e30 e31
      go_wp2_with (at_builtin; refine HP6.out.r.appB HR6.out.bs (by have := HLn.out; have := HY.out; omega) rfl (.tmp 28) (.tmp 32) rfl rfl rfl ?_; intro bo7 cc7 w7 S7 A7; have HP7 := hide (HP6.out.ap S7 A7); clear S7 A7; obtain ⟨f30, f31⟩ := (HC.out _ _ _ _ _ [] HP7.out).1.nums)
      obtain ⟨B0, hB0⟩ : ∃ B0, U.numB p.vn ++ vecB p.P.vec ++ U.numB p.cn = B0 := ⟨_, rfl⟩
      have HB0 : Hid (B0.length ≤ 1100 ∧ B0 ++ cloudB (trl p.P.vec) 0 p.P.cloud = pastB p.P) := by
        have h1 := HP5.out.r.len
        have h2 := HLn.out
        have h3 := HY.out
        refine ⟨?_, ?_⟩
        · rw [← hB0, List.length_append]
          omega
        · rw [← hB0]
          unfold pastB
          rw [HVl.out.1, HKl.out.1]
          simp only [List.append_assoc]
      rw [hB0] at HP7
      clear hB0 HP5 HLn HP6 HR6 HY
      go_loopw [3, 5] (fun b i wr => ∃ (j : Nat) (bo : Option Addr) (m cc : Nat), j ≤ p.cn ∧ i = .int .i64 j ∧ b = .slice bo m cc ∧ Hid (GW w0 wr bo m cc (B0 ++ cloudB (trl p.P.vec) 0 (p.P.cloud.take j)) F2)) (fun _ i _ => p.cn - (intOf i).toNat)
      case atStart => exact ⟨0, bo7, _, cc7, Nat.zero_le _, rfl, rfl, by
        show GW w0 _ bo7 _ cc7 (B0 ++ []) F2
        rw [List.append_nil]
        exact HP7.out⟩
      case round =>
        obtain ⟨j, bo8, m8, cc8, hjn, rfl, rfl, HPj⟩ := hrel
        rename World => wv
        have P8 := HPj.out
        obtain ⟨X8, S8⟩ := HC.out _ _ _ _ _ [] P8
        obtain ⟨e30, e31⟩ := X8.nums
        by_cases hlt : j < p.cn
        · obtain ⟨ad, hao, A8⟩ := S8.cloud.at j hlt
          have hlti : ((j : Nat) : Int) < (p.cn : Int) := by omega
          obtain ⟨s, Hs⟩ : ∃ s, Hid (p.P.cloud.getD j sn0 = s) := ⟨_, rfl⟩
          rw [Hs.out] at A8
          have HTk : Hid (p.P.cloud.take (j + 1) = p.P.cloud.take j ++ [s]) := by show _ = _; rw [take_snocS p.P.cloud j (by have := HKl.out; omega), Hs.out]
          obtain ⟨hLs, hLr⟩ := lst_at p.P.vec p.P.cloud HTr.out.1 j (by have := HKl.out; omega)
          obtain ⟨Tj, hTj⟩ : ∃ Tj, (stOf (trl p.P.vec) 0 (p.P.cloud.take j)).1 = Tj := ⟨_, rfl⟩
          obtain ⟨rj, hrj⟩ : ∃ rj, (stOf (trl p.P.vec) 0 (p.P.cloud.take j)).2 = rj := ⟨_, rfl⟩
          obtain ⟨s', hs'⟩ : ∃ s', p.P.cloud.getD (j - 1) sn0 = s' := ⟨_, rfl⟩
          have hok : TrlOk (trl p.P.vec) 0 (p.P.cloud.take j ++ [s]) := by
            rw [← HTk.out]
            exact (trlOk_append (p.P.cloud.take (j + 1)) (p.P.cloud.drop (j + 1)) _ _ (by rw [List.take_append_drop]; exact HTr.out.1)).1
          obtain ⟨hok1, hok2⟩ := trlOk_append _ _ _ _ hok
          obtain ⟨hr0, hTb⟩ := stOf_bd _ _ _ (Int.le_refl 0) hok1 HTr.out.2
          rw [hTj, hrj] at hok2
          rw [hTj] at hTb
          rw [hTj, hrj, hs'] at hLs
          rw [hrj, hs'] at hLr
          rw [hrj] at hr0
          have HR0 : Hid (j = 0 → rj = 0) := fun h => by rw [← hrj, h]; rfl
          obtain ⟨⟨q1, q2, q3⟩, q4, q5, q6, -⟩ := hok2
          obtain ⟨r, hr⟩ : ∃ r : Nat, s.rep = (r : Int) := ⟨s.rep.toNat, by omega⟩
          have hrn : s.rep.toNat = r := by omega
          rw [hrn] at q4
          have hT := hTb r
          have HSt : Hid (cloudB (trl p.P.vec) 0 (p.P.cloud.take (j + 1)) = cloudB (trl p.P.vec) 0 (p.P.cloud.take j) ++ (nB ((r : Int) - rj) ++ (nB (s.lo - (Tj r + 2)) ++ nB (s.hi - s.lo)))) := by
            show _ = _
            rw [HTk.out, cloudB_append, hTj, hrj]
            simp only [cloudB, hrn, List.append_nil]
            rw [hr]
          have HLn8 : Hid (m8 ≤ 90000000000000) := by
            show _ ≤ _
            have h1 := P8.r.len
            have h2 := cloudB_max (p.P.cloud.take j) (trl p.P.vec) 0 (Int.le_refl 0) hok1 (fun k => (HTr.out.2 k).1)
            have h3 := HB0.out.1
            rw [List.length_append] at h1
            rw [List.length_take] at h2
            omega
          obtain ⟨gs, hgs⟩ : ∃ gs, wv.heap.size = gs := ⟨_, rfl⟩
          obtain ⟨w9, hst9, X9, b9, -⟩ := madeS wv s gs hgs
          have P9 := P8.add b9 (g := gs) (by omega) X9
          have hld := run_ldS A8
          obtain ⟨Y9, S9⟩ := HC.out _ _ _ _ _ [_] P9
          obtain ⟨z30, z31⟩ := Y9.nums
          obtain ⟨y0, y1, y2⟩ := X9.at
          rw [hr] at y0
          rw [hao] at e31 z31
          have Hao := hide hao
          have HP9 := hide P9
          have HS9 := hide S9
          have HQ : Hid ((0 ≤ rj ∧ rj ≤ (r : Int)) ∧ Tj r + 2 ≤ s.lo ∧ s.lo ≤ s.hi ∧ s.hi ≤ 1000000000 ∧ (0 ≤ Tj r ∧ Tj r ≤ 1000000000) ∧ r < 16) := ⟨⟨hr0, by omega⟩, q4, q5, q6, hT, by omega⟩
          have Hlt := hide hlt
          have HR := hide hr
          have HTr0 := hide (HTr.out.2 r)
          obtain ⟨tr, htr⟩ : ∃ tr, trl p.P.vec r = tr := ⟨_, rfl⟩
          rw [htr] at HTr0
          have HTj : Hid (Tj r = if 0 < j ∧ (r : Int) = rj then s'.hi else tr) := by show _ = _; rw [← htr]; exact hLs r (by omega)
          have HLr := hide hLr
          have Hs' := hide hs'
          have Htr := hide htr
          clear P8 S8 A8 hok hok1 hTb hT q1 q2 q3 q4 q5 q6 hr0 X9 b9 P9 f30 f31 hTj hrj hrn hr HPj HP7 Y9 S9 X8 hLs hLr hao hs' htr
          go_upto_if 53 with fail
          clear hgs hst9 hld
          go_cut [8] (fun l wx => l = .int .i64 (tr + 2) ∧ wx = w9)
          case first =>
            by_cases hrv : r < p.vn
            · obtain ⟨adv, hav, qv⟩ := vsrc_at HS9.out.vec r hrv
              have hrvi : (r : Int) < (p.vn : Int) := by omega
              rw [hav] at z30
              have ht2 : p.P.vec.getD r 0 = tr := Htr.out
              rw [ht2] at qv
              have hb1 : 0 ≤ tr := HTr0.out.1
              have hb2 : tr ≤ 1000000000 := HTr0.out.2
              clear hav ht2
              go_wp2_with fail
              go_meet
              case rel => exact ⟨by first | rfl | (rw [U.w64 (by omega) (by omega)]), rfl⟩
            · have hrvi : ¬ (r : Int) < (p.vn : Int) := by omega
              have ht0 : tr = 0 := by
                rw [← Htr.out]
                unfold trl
                rw [List.getD_eq_getElem?_getD, List.getElem?_eq_none (by have := HVl.out; omega)]
                rfl
              go_wp2_with fail
              go_meet
              case rel => exact ⟨by rw [ht0]; rfl, rfl⟩
          case rest =>
            obtain ⟨rfl, hwe⟩ := hcut
            subst hwe
            rename World => w9
            obtain ⟨yl, hyl⟩ : ∃ yl : Int, Tj r + 2 = yl := ⟨_, rfl⟩
            obtain ⟨x1, hx1⟩ : ∃ x1 : Nat, ((r : Int) - rj).toNat = x1 := ⟨_, rfl⟩
            obtain ⟨x2, hx2⟩ : ∃ x2 : Nat, (s.lo - yl).toNat = x2 := ⟨_, rfl⟩
            obtain ⟨x3, hx3⟩ : ∃ x3 : Nat, (s.hi - s.lo).toNat = x3 := ⟨_, rfl⟩
            have HX : Hid ((x1 ≤ 1000000000 ∧ nB ((r : Int) - rj) = U.numB x1 ∧ (r : Int) - rj = (x1 : Int)) ∧ (x2 ≤ 1000000000 ∧ nB (s.lo - (Tj r + 2)) = U.numB x2 ∧ s.lo - yl = (x2 : Int)) ∧ (x3 ≤ 1000000000 ∧ nB (s.hi - s.lo) = U.numB x3 ∧ s.hi - s.lo = (x3 : Int))) := ⟨⟨by have := HQ.out; omega, by rw [← hx1]; rfl, by have := HQ.out; omega⟩, ⟨by have := HQ.out; omega, by rw [← hx2, ← hyl]; rfl, by have := HQ.out; omega⟩, ⟨by have := HQ.out; omega, by rw [← hx3]; rfl, by have := HQ.out; omega⟩⟩
            have HYl : Hid ((j = 0 ∨ ¬ (r : Int) = rj → yl = tr + 2) ∧ (0 < j → (r : Int) = rj → yl = s'.hi + 2)) := by
              have h1 := HTj.out
              refine ⟨fun h => ?_, fun h2 h3 => ?_⟩
              · rw [if_neg (by omega)] at h1
                omega
              · rw [if_pos ⟨h2, h3⟩] at h1
                omega
            have HYb : Hid (0 ≤ yl ∧ yl ≤ 1000000002) := ⟨by have := HQ.out; omega, by have := HQ.out; omega⟩
            clear hyl hx1 hx2 hx3
            go_upto_if 62 with fail
            go_cut [7, 8] (fun st l wx => st = .int .i64 (x1 : Int) ∧ l = .int .i64 yl ∧ Hid (GW w0 wx bo8 m8 cc8 (B0 ++ cloudB (trl p.P.vec) 0 (p.P.cloud.take j)) ((gs, .cells (SC s) 62) :: F2)))
            case first =>
              by_cases hj0 : 0 < j
              · have hji : (0 : Int) < (j : Int) := by omega
                obtain ⟨jj, hjj⟩ : ∃ jj : Nat, (j : Int) - 1 = (jj : Int) := ⟨j - 1, by omega⟩
                have Hjj : Hid (jj = j - 1 ∧ jj < p.cn) := ⟨by omega, by have := Hlt.out; omega⟩
                have A' := HS9.out.cloud.cell ad Hao.out jj Hjj.out.2
                rw [Hjj.out.1, Hs'.out, ← Hjj.out.1] at A'
                have c0 := A'.c0
                have c00 := snat_field A'
                rw [← HLr.out hj0] at c0 c00
                have hxr : (r : Int) - rj = (x1 : Int) := HX.out.1.2.2
                have hjl : (jj : Int) < (p.cn : Int) := by have := Hjj.out.2; omega
                have HA' := hide A'
                have hrb : rj ≤ (r : Int) := HQ.out.1.2
                have hrb0 : 0 ≤ rj := HQ.out.1.1
                have hrb1 : r < 16 := HQ.out.2.2.2.2.2
                clear A'
                go_wp2_with fail
                go_quiet (fail)
                have HPq := hide (HP9.out.below (U.below_drewN w9 nq))
                have A2 := (HC.out _ _ _ _ _ [_] HPq.out).2.cloud.cell ad Hao.out jj Hjj.out.2
                obtain ⟨k30, k31⟩ := (HC.out _ _ _ _ _ [_] HPq.out).1.nums
                rw [Hao.out] at k31
                rw [Hjj.out.1, Hs'.out, ← Hjj.out.1] at A2
                have c2 := A2.c2
                have c2b : (w9.drewN nq).cell? ⟨(ad.add (jj * 3)).block, (ad.add (jj * 3)).off + 2, none⟩ = some (.int .i64 s'.hi) := A2.c2
                clear A2 c0 c00 z30 z31 y0 y1 y2
                generalize w9.drewN nq = wq at HPq k30 k31 c2 c2b ⊢
                by_cases hx0 : x1 = 0
                · have Hy : Hid (yl = s'.hi + 2) := HYl.out.2 hj0 (by have := HX.out.1.2.2; omega)
                  have hbe : ((x1 : Int) == 0) = true := by simpa using hx0
                  have hsb : s'.hi ≤ 1000000000 := by have := HYb.out; have := Hy.out; omega
                  have hsc : -2 ≤ s'.hi := by have := HYb.out; have := Hy.out; omega
                  have Hx0 := hide hx0
                  clear hx0
                  go_wp2_with fail
                  go_meet
                  case rel => exact ⟨rfl, by rw [Hy.out], HPq.out⟩
                · have Hy : Hid (yl = tr + 2) := HYl.out.1 (.inr (by have := HX.out.1.2.2; omega))
                  have hbe : ((x1 : Int) == 0) = false := by simpa using hx0
                  clear hx0
                  go_wp2_with fail
                  go_meet
                  case rel => exact ⟨rfl, by rw [Hy.out], HPq.out⟩
              · have Hj1 : Hid (j = 0) := by show _ = _; omega
                have hji : ¬ (0 : Int) < (j : Int) := by omega
                clear hj0
                go_wp2_with fail
                go_meet
                case rel => exact ⟨by rw [← HX.out.1.2.2, HR0.out Hj1.out, Int.sub_zero], by rw [HYl.out.1 (.inl Hj1.out)], HP9.out⟩
            case rest =>
              obtain ⟨rfl, rfl, HPc⟩ := hcut
              rename World => wc
              have h2 : s.lo - yl = (x2 : Int) := HX.out.2.1.2.2
              have h3 : s.hi - s.lo = (x3 : Int) := HX.out.2.2.2.2
              have h2b : x2 ≤ 1000000000 := HX.out.2.1.1
              have h3b : x3 ≤ 1000000000 := HX.out.2.2.1
              clear z30 z31 y0 y1 y2 e30 e31
              go_wp2_with fail
              refine (U.refNum_any x1 _ (by have := HX.out; omega)).mono ?_
              rintro e wa ⟨ba, ca, rfl, hRa, hAa⟩
              have HPa := hide (HPc.out.below (U.NewB.of_ap hAa).1)
              have HRa := hide hRa
              have HLa : Hid ((U.numB x1).length ≤ 10) := by show _ ≤ _; have := U.numB_len 9 x1 (by have := HX.out; omega); omega
              clear hRa hAa
              go_wp2_with (at_builtin; refine HPa.out.r.appB HRa.out.bs (by have := HLn8.out; have := HLa.out; omega) rfl (.tmp 83) (.tmp 85) rfl rfl rfl ?_; intro b2 c2 v2 S2 A2; have HP2 := hide (HPa.out.ap S2 A2); clear S2 A2; have X2 : SBox v2 gs s := (HP2.out.keep (gs, .cells (SC s) 62) (by simp)).1; obtain ⟨p20, p21, p22⟩ := X2.at; clear X2)
              refine (U.refNum_any x2 _ (by have := HX.out; omega)).mono ?_
              rintro e wb ⟨bb, cb, rfl, hRb, hAb⟩
              have HPb := hide (HP2.out.below (U.NewB.of_ap hAb).1)
              have HRb := hide hRb
              have HLb : Hid ((U.numB x2).length ≤ 10) := by show _ ≤ _; have := U.numB_len 9 x2 (by have := HX.out; omega); omega
              clear hRb hAb
              go_wp2_with (at_builtin; refine HPb.out.r.appB HRb.out.bs (by have := HLn8.out; have := HLa.out; have := HLb.out; omega) rfl (.tmp 87) (.tmp 92) rfl rfl rfl ?_; intro b3 c3 v3 S3 A3; have HP3 := hide (HPb.out.ap S3 A3); clear S3 A3; have X3 : SBox v3 gs s := (HP3.out.keep (gs, .cells (SC s) 62) (by simp)).1; obtain ⟨p30, p31, p32⟩ := X3.at; clear X3)
              refine (U.refNum_any x3 _ (by have := HX.out; omega)).mono ?_
              rintro e wd ⟨bd, cd, rfl, hRd, hAd⟩
              have HPd := hide (HP3.out.below (U.NewB.of_ap hAd).1)
              have HRd := hide hRd
              have HLd : Hid ((U.numB x3).length ≤ 10) := by show _ ≤ _; have := U.numB_len 9 x3 (by have := HX.out; omega); omega
              clear hRd hAd
              go_wp2_with (at_builtin; refine HPd.out.r.appB HRd.out.bs (by have := HLn8.out; have := HLa.out; have := HLb.out; have := HLd.out; omega) rfl (.tmp 94) (.tmp 100) rfl rfl rfl ?_; intro b4 c4 v4 S4 A4; have HP4 := hide (HPd.out.ap S4 A4); clear S4 A4; have X4 : SBox v4 gs s := (HP4.out.keep (gs, .cells (SC s) 62) (by simp)).1; obtain ⟨p40, p41, p42⟩ := X4.at; clear X4)
              go_roundw
              case rel => exact ⟨j + 1, b4, _, c4, by have := Hlt.out; omega, by simp, rfl, by
                have h5 := HP4.out.sub (F' := F2) (fun x hx => List.mem_cons_of_mem _ hx)
                show GW _ _ _ _ _ _ _
                rw [HSt.out, HX.out.1.2.1, HX.out.2.1.2.1, HX.out.2.2.2.1]
                simp only [List.append_assoc] at h5
                exact h5⟩
              case measure => simp [intOf]; have := Hlt.out; omega
        · obtain rfl : j = p.cn := by omega
          have hlti : ¬ ((p.cn : Nat) : Int) < (p.cn : Int) := by omega
          have HE : Hid (GW w0 wv bo8 m8 cc8 (pastB p.P) []) := by
            have h1 := HKl.out.1
            rw [List.take_of_length_le (by omega), HB0.out.2] at P8
            exact P8.sub (fun x hx => by cases hx)
          clear P8 S8 X8 hlt HPj HP7 f30 f31
          go_wp2_with fail
          go_ret
          exact ⟨bo8, m8, cc8, rfl, HE.out⟩
end Go.Proofs.YtbmjiedpaffifaaGreat
