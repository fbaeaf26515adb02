/- FWq -/
import Derived.Test.YtphohmoibnoeaaaGreatPb19
import Derived.Test.YtphohmoibnoeaaaGreatPb14
namespace Go.Proofs.YtphohmoibnoeaaaGreat
open Go.RowKit
attribute [local go_sem ↓] ldS_eq stS_eq ldP_eq stP_eq
attribute [local go_sem] zero_SC cells_SV SC_size cells_PV PC_size

def stOf : (Nat → Int) → Int → List Sn → (Nat → Int) × Int
 | T, r0, [] => (T, r0)
 | T, _, s :: t => stOf (upd T s.rep.toNat s.hi) s.rep t
theorem cloudB_append : ∀ (L M : List Sn) (T : Nat → Int) (r0 : Int), cloudB T r0 (L ++ M) = cloudB T r0 L ++ cloudB (stOf T r0 L).1 (stOf T r0 L).2 M
 | [], _, _, _ => rfl
 | s :: t, M, T, r0 => by
  show cloudB T r0 (s :: (t ++ M)) = _
  simp only [cloudB, stOf, cloudB_append t M, List.append_assoc]
theorem trlOk_append : ∀ (L M : List Sn) (T : Nat → Int) (r0 : Int), TrlOk T r0 (L ++ M) → TrlOk T r0 L ∧ TrlOk (stOf T r0 L).1 (stOf T r0 L).2 M
 | [], _, _, _, h => ⟨trivial, h⟩
 | s :: t, M, T, r0, h => by
  obtain ⟨h1, h2, h3, h4, h5⟩ := h
  obtain ⟨g1, g2⟩ := trlOk_append t M _ _ h5
  exact ⟨⟨h1, h2, h3, h4, g1⟩, g2⟩
theorem stOf_append : ∀ (L M : List Sn) (T : Nat → Int) (r0 : Int), stOf T r0 (L ++ M) = stOf (stOf T r0 L).1 (stOf T r0 L).2 M
 | [], _, _, _ => rfl
 | s :: t, M, T, r0 => by
  show stOf T r0 (s :: (t ++ M)) = _
  simp only [stOf, stOf_append t M]
theorem stOf_bd : ∀ (L : List Sn) (T : Nat → Int) (r0 : Int), 0 ≤ r0 → TrlOk T r0 L → (∀ k, 0 ≤ T k ∧ T k ≤ 1000000000) → 0 ≤ (stOf T r0 L).2 ∧ ∀ k, 0 ≤ (stOf T r0 L).1 k ∧ (stOf T r0 L).1 k ≤ 1000000000
 | [], _, _, h0, _, hT => ⟨h0, hT⟩
 | s :: t, T, r0, _, h, hT => by
  obtain ⟨h1, h2, h3, h4, h5⟩ := h
  refine stOf_bd t _ _ h1.2.1 h5 (fun k => ?_)
  unfold upd
  have := hT s.rep.toNat
  split
  ·omega
  ·exact hT k
theorem nB_len {x : Int} (h : x ≤ 1000000000) : (nB x).length ≤ 5 := U.numB_len 4 x.toNat (by omega)
theorem vecB_snoc (V : List Int) (x : Int) : vecB (V ++ [x]) = vecB V ++ nB x := by simp [vecB]
theorem vecB_len {V : List Int} (h : ∀ x ∈ V, 0 ≤ x ∧ x ≤ 1000000000) : (vecB V).length ≤ 5 * V.length := by
 induction V with
 | nil => simp [vecB]
 | cons x t ih =>
  have h1 := nB_len (h x List.mem_cons_self).2
  have h2 := ih (fun y hy => h y (List.mem_cons_of_mem _ hy))
  show (nB x ++ vecB t).length ≤ _
  rw [List.length_append, List.length_cons]
  omega
theorem cloudB_max : ∀ (L : List Sn) (T : Nat → Int) (r0 : Int), 0 ≤ r0 → TrlOk T r0 L → (∀ k, 0 ≤ T k) → (cloudB T r0 L).length ≤ 15 * L.length
 | [], _, _, _, _, _ => Nat.le_refl _
 | s :: t, T, r0, h0, h, hT => by
  obtain ⟨h1, h2, h3, h4, h5⟩ := h
  have g := cloudB_max t (upd T s.rep.toNat s.hi) s.rep h1.2.1 h5 (fun k => by have := hT s.rep.toNat; unfold upd; split <;> first | omega | exact hT k)
  have g1 := nB_len (x := s.rep - r0) (by omega)
  have g2 := nB_len (x := s.lo - (T s.rep.toNat + 2)) (by have := hT s.rep.toNat; omega)
  have g3 := nB_len (x := s.hi - s.lo) (by have := hT s.rep.toNat; omega)
  simp only [cloudB, List.length_append, List.length_cons]
  omega
theorem PW.addB {w0 W W' : World} {gw : Nat} {ao : Option Addr} {n cap : Nat} {Z : List Int} {F : List (Nat × Obj)} (h : PW w0 W gw ao n cap Z F) (b : Below W.heap.size W W') {g : Nat} (hg : W.heap.size ≤ g) {ob : Obj} (hx : W'.heap[g]? = some ob) : PW w0 W' gw ao n cap Z ((g, ob) :: F) := by
 have hb := h.below b
 refine ⟨hb.wk, fun x hx' => ?_⟩
 rcases List.mem_cons.1 hx' with rfl | hx'
 ·exact ⟨hx, (fun e => by have e : g = gw := e; have := h.lt; omega), fun e => by have := h.row_lt g e; omega⟩
 ·exact hb.keep x hx'
set_option maxRecDepth 100000 in
set_option maxHeartbeats 3200000 in
theorem wpast_any {w0 W : World} {gw : Nat} {ao : Option Addr} {n cap : Nat} {Z : List Int} {F : List (Nat × Obj)} (h : PW w0 W gw ao n cap Z F) (p : Pv) (hS : PSrc w0 p) (hI : InForm p.P) (hn : n ≤ 50000000000000) :
  Calls Tryz.prog 31 #[.agg #[U.ptr gw], PV p] W fun e w' => e = .returned (.tuple #[]) ∧ ∃ bo m cc, PW w0 w' gw bo m cc (Z ++ pastB p.P) F := by
 have P1 := (h.add (.cells #[U.ptr gw] 68)).add (.cells (PC p) 25)
 rw [World.size_alloc] at P1
 obtain ⟨b2, hb2⟩ : ∃ b2, W.heap.size = b2 := ⟨_, rfl⟩
 obtain ⟨F2, hF2⟩ : ∃ F2, ((b2 + 1, Obj.cells (PC p) 25) :: (b2, Obj.cells #[U.ptr gw] 68) :: F) = F2 := ⟨_, rfl⟩
 obtain ⟨W1, hW1⟩ : ∃ W1, (W.alloc (.cells #[U.ptr gw] 68)).alloc (.cells (PC p) 25) = W1 := ⟨_, rfl⟩
 rw [hW1, hb2, hF2] at P1
 have HP1 := hide P1
 have HC : Hid (∀ V bo m cc Y G, PW w0 V gw bo m cc Y (G ++ F2) → V.cell? ⟨b2, 0, none⟩ = some (U.ptr gw) ∧ (V.cell? ⟨b2 + 1, 0, none⟩ = some (.slice p.vo p.vn p.vc) ∧ V.cell? ⟨b2 + 1, 1, none⟩ = some (.slice p.co p.cn p.cc)) ∧ PSrc V p) := fun V bo m cc Y G hV => by
  refine ⟨box_cell (hV.keep (b2, .cells #[U.ptr gw] 68) (by rw [← hF2]; simp)).1, PBox.nums (w := V) (g := b2 + 1) (p := p) (hV.keep (b2 + 1, .cells (PC p) 25) (by rw [← hF2]; simp)).1, hS.below hV.wk.bel⟩
 have HSub : Hid (∀ x ∈ F, x ∈ F2) := fun x hx => by rw [← hF2]; exact List.mem_cons_of_mem _ (List.mem_cons_of_mem _ hx)
 have HI := hide hI
 have HN := hide hn
 have HZl := hide h.wk.len
 have HVl : Hid (p.P.vec.length = p.vn ∧ p.vn ≤ 16) := by have h1 := hS.vec.1; have h2 := inf_len hI; exact ⟨h1, by omega⟩
 have HKl : Hid (p.P.cloud.length = p.cn ∧ p.cn ≤ 8000000016) := by have h1 := hS.cloud.len; have h2 := (canon_len (canon_iff.2 hI)).1; exact ⟨h1, by omega⟩
 obtain ⟨c2, ⟨c30, c31⟩, -⟩ := HC.out _ _ _ _ _ [] P1
 have hvn := HVl.out.2
 have hcn := HKl.out.2
 have hS0 := hS.vec.2.1
 clear P1 h hI hS hn
 obtain ⟨pvo, pvn, pvc, pco, pcn, pcc, pP⟩ := p
 dsimp only at HC HI HVl HKl c30 c31 hvn hcn hS0 ⊢
 go_enter Tryz.func31, Tryz.ntmps31
 go_wp2_with fail
 clear hW1
 refine (U.wnum_any ao n cap Z false pvn _ HP1.out.wk.w (fun e => by cases e) (by omega) (by have := HN.out; omega)).mono ?_
 rintro e W2 ⟨rfl, hp2⟩
 obtain ⟨bo, m, cc, P2⟩ := HP1.out.put hp2
 have HP2 := hide P2
 obtain ⟨d2, ⟨d30, d31⟩, -⟩ := HC.out _ _ _ _ _ [] P2
 clear c2 c30 c31 hp2 P2
 go_wp2_with fail
 go_loopw [18] (fun i wr => ∃ k : Nat, k ≤ pvn ∧ i = .int .i64 k ∧ Hid (∃ bo m cc, PW w0 wr gw bo m cc (Z ++ (U.numB pvn ++ vecB (pP.vec.take k))) F2)) (fun i _ => pvn - (intOf i).toNat)
 case atStart => exact ⟨0, Nat.zero_le _, rfl, bo, m, cc, by simpa [vecB] using HP2.out⟩
 case round =>
  obtain ⟨k, hk, rfl, HPk⟩ := hrel
  rename World => wr
  obtain ⟨bo1, m1, cc1, P3⟩ := HPk.out
  obtain ⟨e2, ⟨e30, e31⟩, S3⟩ := HC.out _ _ _ _ _ [] P3
  have HP3 := hide P3
  have HLn : Hid (m1 ≤ 50000000001000) := by
   show _ ≤ _
   have h1 := P3.wk.len
   have h2 := vecB_len (V := pP.vec.take k) (fun x hx => inf_bd HI.out x (List.mem_of_mem_take hx))
   have h3 := U.numB_len 9 pvn (by omega)
   have h4 := HZl.out
   have h5 := HN.out
   rw [List.length_append, List.length_append] at h1
   rw [List.length_take] at h2
   have := HVl.out
   omega
  by_cases hlt : k < pvn
  ·obtain ⟨ad, hao, q1⟩ := vsrc_at S3.vec k hlt
   have hao : pvo = some ad := hao
   subst hao
   have hx := inf_bd HI.out (pP.vec.getD k 0) (by rw [List.getD_eq_getElem?_getD, List.getElem?_eq_getElem (by have := HVl.out; omega)]; exact List.getElem_mem _)
   obtain ⟨y, hy⟩ : ∃ y : Nat, pP.vec.getD k 0 = (y : Int) := ⟨(pP.vec.getD k 0).toNat, by omega⟩
   rw [show (Pv.P ⟨some ad, pvn, pvc, pco, pcn, pcc, pP⟩).vec.getD k 0 = pP.vec.getD k 0 from rfl, hy] at q1
   rw [hy] at hx
   have HT : Hid (pP.vec.take (k + 1) = pP.vec.take k ++ [(y : Int)]) := by show _ = _; rw [take_snocI pP.vec k (by have := HVl.out; omega), hy]
   have Hlt := hide hlt
   clear d2 d30 d31 P3 S3 hy
   go_wp2_with fail
   refine (U.wnum_any bo1 m1 cc1 _ false y _ HP3.out.wk.w (fun e => by cases e) (by omega) (by have := HLn.out; omega)).mono ?_
   rintro e W4 ⟨rfl, hp4⟩
   obtain ⟨bo4, m4, cc4, P4⟩ := HP3.out.put hp4
   have HP4 : Hid (PW w0 W4 gw bo4 m4 cc4 (Z ++ (U.numB pvn ++ vecB (pP.vec.take (k + 1)))) F2) := by
    rw [HT.out, vecB_snoc]
    have := P4
    simp only [List.append_assoc] at this
    exact this
   clear hp4 P4 q1 e2 e30 e31 hx
   go_wp2_with fail
   go_roundw
   case rel => exact ⟨k + 1, by omega, by simp, bo4, m4, cc4, HP4.out⟩
   case measure => simp [intOf]; omega
  ·obtain rfl : k = pvn := by omega
   have HP5 : Hid (PW w0 wr gw bo1 m1 cc1 (Z ++ (U.numB k ++ vecB pP.vec)) F2) := by
    have h1 := HVl.out.1
    have h2 := HP3.out
    rw [List.take_of_length_le (by omega)] at h2
    exact h2
   clear d2 d30 d31 P3 hlt HPk HP3 HP2 HP1
   have HS3 := hide S3
   clear S3
   go_wp2_with fail
   refine (U.wnum_any bo1 m1 cc1 _ false pcn _ HP5.out.wk.w (fun e => by cases e) (by omega) (by have := HLn.out; omega)).mono ?_
   rintro e W6 ⟨rfl, hp6⟩
   obtain ⟨bo6, m6, cc6, P6⟩ := HP5.out.put hp6
   have HP6 := hide P6
   obtain ⟨f2, ⟨f30, f31⟩, S6⟩ := HC.out _ _ _ _ _ [] P6
   have HS6 := hide S6
   clear hp6 P6 e2 e30 e31 S6
   go_wp2_with fail
   refine (newTrail_any 2 pvo k pvc pP.vec _ HVl.out.1 HVl.out.2 (fun e => (hS0 e).1) (fun ad e t ht => HS6.out.vec.2.2 ad e t ht)).mono ?_
   rintro e W7 ⟨rfl, ht7, b7⟩
   have HP7 := hide (HP6.out.addB b7 (Nat.le_refl _) ht7)
   obtain ⟨gt, hgt⟩ : ∃ gt, W6.heap.size = gt := ⟨_, rfl⟩
   have Hgt : Hid (w0.heap.size ≤ gt ∧ b2 + 1 < gt) := by
    refine ⟨by rw [← hgt]; exact HP6.out.wk.bel.size, ?_⟩
    rw [← hgt]
    exact World.block_lt_of_cell? _ _ f30
   rw [hgt] at HP7
   obtain ⟨g2, ⟨g30, g31⟩, -⟩ := HC.out _ _ _ _ _ [_] HP7.out
   have HNe : Hid (∀ x ∈ F2, x.1 ≠ gt) := fun x hx e => by
    have h1 := (HP6.out.keep x hx).1
    have h2 := (Array.getElem?_eq_some_iff.1 h1).1
    omega
   obtain ⟨B0, hB0⟩ : ∃ B0, Z ++ (U.numB k ++ vecB pP.vec) ++ U.numB pcn = B0 := ⟨_, rfl⟩
   have HB0 : Hid (B0.length ≤ 50000000001100 ∧ B0 ++ cloudB (trl pP.vec) 0 pP.cloud = Z ++ pastB pP) := by
    have h1 := HP6.out.wk.len
    have h2 := vecB_len (V := pP.vec) (inf_bd HI.out)
    have h3 := U.numB_len 9 k (by omega)
    have h4 := U.numB_len 9 pcn (by omega)
    have h5 := HZl.out
    have h6 := HN.out
    have h7 := HVl.out
    refine ⟨?_, ?_⟩
    ·rw [← hB0]
     simp only [List.length_append]
     omega
    ·rw [← hB0]
     unfold pastB
     rw [HVl.out.1, HKl.out.1]
     simp only [List.append_assoc]
   rw [hB0] at HP7
   clear b7 ht7 f2 f30 f31 hB0 HP6 HP5
   rw [hgt]
   clear hgt
   have HTr : Hid (TrlOk (trl pP.vec) 0 pP.cloud ∧ (∀ k, 0 ≤ trl pP.vec k ∧ trl pP.vec k ≤ 1000000000)) := by
    refine ⟨inf_trl HI.out, fun j => ?_⟩
    unfold trl
    by_cases hj : j < pP.vec.length
    ·rw [List.getD_eq_getElem?_getD, List.getElem?_eq_getElem hj]
     exact inf_bd HI.out _ (List.getElem_mem hj)
    ·rw [List.getD_eq_getElem?_getD, List.getElem?_eq_none (by omega)]
     exact ⟨Int.le_refl 0, by decide⟩
   go_wp2_with fail
   go_loopw [39] (fun i wr => ∃ j : Nat, j ≤ pcn ∧ i = .int .i64 j ∧ Hid (∃ bo m cc, PW w0 wr gw bo m cc (B0 ++ cloudB (trl pP.vec) 0 (pP.cloud.take j)) ((gt, .cells (TC 2 (stOf (trl pP.vec) 0 (pP.cloud.take j)).2 (stOf (trl pP.vec) 0 (pP.cloud.take j)).1).toArray 133 (0, 0)) :: F2))) (fun i _ => pcn - (intOf i).toNat)
   case atStart => exact ⟨0, Nat.zero_le _, rfl, bo6, m6, cc6, by
    show PW w0 _ gw bo6 m6 cc6 (B0 ++ []) ((gt, .cells (TC 2 0 (trl pP.vec)).toArray 133 (0, 0)) :: F2)
    rw [List.append_nil]
    exact HP7.out⟩
   case round =>
    obtain ⟨j, hj, rfl, HPj⟩ := hrel
    rename World => wv
    obtain ⟨bo8, m8, cc8, P8⟩ := HPj.out
    obtain ⟨e2, ⟨e30, e31⟩, S8⟩ := HC.out _ _ _ _ _ [_] P8
    by_cases hlt : j < pcn
    ·obtain ⟨ad, hao, A8⟩ := S8.cloud.at j hlt
     have hao : pco = some ad := hao
     subst hao
     have A8 : SnAt wv (ad.add (j * 3)) (pP.cloud.getD j sn0) := A8
     obtain ⟨s, Hs⟩ : ∃ s, Hid (pP.cloud.getD j sn0 = s) := ⟨_, rfl⟩
     rw [Hs.out] at A8
     have HTk : Hid (pP.cloud.take (j + 1) = pP.cloud.take j ++ [s]) := by show _ = _; rw [take_snocS pP.cloud j (by have := HKl.out; omega), Hs.out]
     obtain ⟨Tj, hTj⟩ : ∃ Tj, (stOf (trl pP.vec) 0 (pP.cloud.take j)).1 = Tj := ⟨_, rfl⟩
     obtain ⟨rj, hrj⟩ : ∃ rj, (stOf (trl pP.vec) 0 (pP.cloud.take j)).2 = rj := ⟨_, rfl⟩
     have hok : TrlOk (trl pP.vec) 0 (pP.cloud.take j ++ [s]) := by
      rw [← HTk.out]
      exact (trlOk_append (pP.cloud.take (j + 1)) (pP.cloud.drop (j + 1)) _ _ (by rw [List.take_append_drop]; exact HTr.out.1)).1
     obtain ⟨hok1, hok2⟩ := trlOk_append _ _ _ _ hok
     obtain ⟨hr0, hTb⟩ := stOf_bd _ _ _ (Int.le_refl 0) hok1 HTr.out.2
     rw [hTj, hrj] at hok2
     rw [hTj] at hTb
     rw [hrj] at hr0
     obtain ⟨⟨q1, q2, q3⟩, q4, q5, q6, -⟩ := hok2
     obtain ⟨r, hr⟩ : ∃ r : Nat, s.rep = (r : Int) := ⟨s.rep.toNat, by omega⟩
     have hrn : s.rep.toNat = r := by omega
     rw [hrn] at q4
     have hT := hTb r
     have HSt : Hid (stOf (trl pP.vec) 0 (pP.cloud.take (j + 1)) = (upd Tj r s.hi, (r : Int)) ∧ cloudB (trl pP.vec) 0 (pP.cloud.take (j + 1)) = cloudB (trl pP.vec) 0 (pP.cloud.take j) ++ (nB ((r : Int) - rj) ++ (nB (s.lo - (Tj r + 2)) ++ nB (s.hi - s.lo)))) := by
      constructor
      ·rw [HTk.out, stOf_append, hTj, hrj]
       simp only [stOf, hr, Int.toNat_natCast]
      ·rw [HTk.out, cloudB_append, hTj, hrj]
       simp only [cloudB, hrn, List.append_nil]
       rw [hr]
     rw [hTj, hrj] at P8
     have HLn8 : Hid (m8 ≤ 90000000000000) := by
      show _ ≤ _
      have h1 := P8.wk.len
      have h2 := cloudB_max (pP.cloud.take j) (trl pP.vec) 0 (Int.le_refl 0) hok1 (fun k => (HTr.out.2 k).1)
      have h3 := HB0.out.1
      rw [List.length_append] at h1
      rw [List.length_take] at h2
      omega
     obtain ⟨gs, hgs⟩ : ∃ gs, wv.heap.size = gs := ⟨_, rfl⟩
     obtain ⟨w9, hst9, X9, b9, -⟩ := madeS wv s gs hgs
     have P9 := P8.addB b9 (g := gs) (by omega) X9
     have hld := run_ldS A8
     obtain ⟨x2, ⟨x30, x31⟩, -⟩ := HC.out _ _ _ _ _ [_, _] P9
     obtain ⟨y0, y1, y2⟩ := X9.at
     rw [hr] at y0
     have HP9 := hide P9
     have HQ : Hid ((0 ≤ rj ∧ rj ≤ (r : Int)) ∧ Tj r + 2 ≤ s.lo ∧ s.lo ≤ s.hi ∧ s.hi ≤ 1000000000 ∧ (0 ≤ Tj r ∧ Tj r ≤ 1000000000) ∧ r < 16) := ⟨⟨hr0, by omega⟩, q4, q5, q6, hT, by omega⟩
     have Hlt := hide hlt
     have HR := hide hr
     clear P8 S8 A8 hok hok1 hTb hT q1 q2 q3 q4 q5 q6 hr0 X9 b9 P9 g2 g30 g31 hTj hrj hrn hr e2 e30 e31 HPj HP7
     go_wp2_with fail
     refine (place_any HP9.out (gt := gt) (by simp) r HQ.out.2.2.2.2.2 s.lo HQ.out.1 HQ.out.2.1 HQ.out.2.2.2.2.1 (by have := HQ.out; omega) (by have := HLn8.out; omega)).mono ?_
     rintro e wa ⟨rfl, bo9, m9, cc9, Pa⟩
     have HPa := hide Pa
     obtain ⟨u2, -, -⟩ := HC.out _ _ _ _ _ [_, _] Pa
     have Xa : SBox wa gs s := (Pa.keep (gs, .cells (SC s) 59 (0, 0)) (by simp)).1
     obtain ⟨v0, v1, v2⟩ := Xa.at
     rw [HR.out] at v0
     have hw3 : wrap64 (s.hi - s.lo) = (((s.hi - s.lo).toNat : Nat) : Int) := by have := HQ.out; unfold wrap64; omega
     obtain ⟨x3, hx3⟩ : ∃ x3, (s.hi - s.lo).toNat = x3 := ⟨_, rfl⟩
     rw [hx3] at hw3
     have HX3 : Hid (x3 ≤ 1000000000 ∧ nB (s.hi - s.lo) = U.numB x3) := ⟨by have := HQ.out; omega, by rw [← hx3]; rfl⟩
     clear Pa Xa y0 y1 y2 x2 x30 x31 hst9 hld hx3
     go_wp2_with fail
     refine (U.wnum_any bo9 m9 cc9 _ false x3 _ HPa.out.wk.w (fun e => by cases e) (by have := HX3.out; omega) (by
      have h1 := HPa.out.wk.len
      have h2 := HP9.out.wk.len
      have h3 := nB_len (x := (r : Int) - rj) (by have := HQ.out; omega)
      have h4 := nB_len (x := s.lo - (Tj r + 2)) (by have := HQ.out; omega)
      have h5 := HLn8.out
      simp only [List.length_append] at h1 h2
      omega)).mono ?_
     rintro e wb ⟨rfl, hpb⟩
     obtain ⟨bob, mb, ccb, Pb⟩ := HPa.out.put hpb
     have HPb := hide Pb
     have Xb : SBox wb gs s := (Pb.keep (gs, .cells (SC s) 59 (0, 0)) (by simp)).1
     obtain ⟨z0, z1, z2⟩ := Xb.at
     rw [HR.out] at z0
     have HTb : Hid (TrB wb gt 2 rj Tj) := (Pb.keep (gt, .cells (TC 2 rj Tj).toArray 133 (0, 0)) (by simp)).1
     clear Pb Xb hpb v0 v1 v2 u2 hw3
     go_wp2_with fail
     refine (pass_any HTb.out r HQ.out.2.2.2.2.2 s.hi).mono ?_
     rintro e wc ⟨rfl, hTc, Kc⟩
     have HPc : Hid (PW w0 wc gw bob mb ccb (B0 ++ cloudB (trl pP.vec) 0 (pP.cloud.take (j + 1))) ((gt, .cells (TC 2 (stOf (trl pP.vec) 0 (pP.cloud.take (j + 1))).2 (stOf (trl pP.vec) 0 (pP.cloud.take (j + 1))).1).toArray 133 (0, 0)) :: F2)) := by
      rw [HSt.out.1, HSt.out.2, HX3.out.2]
      have := HPb.out.turn (g := gt) (o1 := .cells (TC 2 rj Tj).toArray 133 (0, 0)) (by simp) Hgt.out.1 Kc hTc (F' := (gt, .cells (TC 2 (r : Int) (upd Tj r s.hi)).toArray 133 (0, 0)) :: F2) (fun x hx => by
       rcases List.mem_cons.1 hx with rfl | hx
       ·exact .inl rfl
       ·refine .inr ⟨by simp [hx], HNe.out x hx⟩)
      simp only [List.append_assoc] at this
      exact this
     clear hTc Kc z0 z1 z2
     go_wp2_with fail
     go_roundw
     case rel => exact ⟨j + 1, by have := Hlt.out; omega, by simp, bob, mb, ccb, HPc.out⟩
     case measure => simp [intOf]; have := Hlt.out; omega
    ·obtain rfl : j = pcn := by omega
     have HFin : Hid (PW w0 wv gw bo8 m8 cc8 (Z ++ pastB pP) F) := by
      have h1 := P8
      rw [List.take_of_length_le (by have := HKl.out; omega), HB0.out.2] at h1
      exact h1.sub (fun x hx => List.mem_cons_of_mem _ (HSub.out x hx))
     clear P8 S8
     go_wp2_with fail
     go_end0
     exact ⟨rfl, bo8, m8, cc8, HFin.out⟩
end Go.Proofs.YtphohmoibnoeaaaGreat
