/- IWe FIr FJr FRs FRt -/
import Derived.Test.YtphohmoibnoeaaaGreatPb24
import Derived.Test.YtphohmoibnoeaaaGreatPb21
namespace Go.Proofs.YtphohmoibnoeaaaGreat
open Go.RowKit
attribute [local go_sem ↓] K.ld28_eq K.st28_eq
attribute [local go_sem] K.zero_EC K.cells_EV

theorem good_len {l : List UInt8} (h : K.good l = true) : 1 ≤ l.length ∧ l.length ≤ 24 := by
 unfold K.good K.ckE at h
 split at h
 ·simp at h
 ·split at h
  ·simp at h
  ·omega
def chE : K.En → List K.En → Prop
 | _, [] => True
 | a, c :: t => K.ceE c = 0 ∧ K.ahead a c = true ∧ chE c t
theorem ok_at {L : List K.En} (h : K.okN L L.length = true) (k : Nat) (hk : k < L.length) : K.ceE (L.getD k K.en0) = 0 ∧ (0 < k → K.ahead (L.getD (k - 1) K.en0) (L.getD k K.en0) = true) := by
 unfold K.okN at h
 have h1 := List.all_eq_true.1 h k (List.mem_range.2 hk)
 unfold K.okAt at h1
 simp only [Bool.and_eq_true, Bool.or_eq_true, decide_eq_true_eq, beq_iff_eq] at h1
 refine ⟨h1.1, fun h0 => ?_⟩
 rcases h1.2 with e | e
 ·omega
 ·exact e
theorem ok_chain {L : List K.En} (h : K.okN L L.length = true) : ∀ (t pre : List K.En) (a : K.En), L = pre ++ a :: t → chE a t
 | [], _, _, _ => trivial
 | c :: t, pre, a, e => by
  have h1 := ok_at h (pre.length + 1) (by rw [e]; simp)
  have g1 : L.getD (pre.length + 1) K.en0 = c := by rw [e, List.getD_eq_getElem?_getD, List.getElem?_append_right (by omega), show pre.length + 1 - pre.length = 1 by omega]; rfl
  have g2 : L.getD (pre.length + 1 - 1) K.en0 = a := by rw [e, Nat.add_sub_cancel, List.getD_eq_getElem?_getD, List.getElem?_append_right (Nat.le_refl _), Nat.sub_self]; rfl
  rw [g1, g2] at h1
  exact ⟨h1.1, h1.2 (by omega), ok_chain h t (pre ++ [a]) c (by rw [e]; simp)⟩
theorem chE_eok : ∀ (t : List K.En) (a : K.En) (T : Nat → Int), 0 ≤ a.rep → (∀ r : Nat, a.rep ≤ (r : Int) → r < 16 → T r = if (r : Int) = a.rep then a.num else 0) → chE a t → EOk T a.rep t
 | [], _, _, _, _, _ => trivial
 | c :: t, a, T, ha, hT, h => by
  obtain ⟨h1, h2, h3⟩ := h
  obtain ⟨c1, c2, c3, c4⟩ := ce_zero h1
  have hah : a.rep < c.rep ∨ (a.rep = c.rep ∧ a.num < c.num) := by
   unfold K.ahead at h2
   simpa using h2
  have e : ((c.rep.toNat : Nat) : Int) = c.rep := by omega
  have hTc := hT c.rep.toNat (by omega) (by omega)
  rw [e] at hTc
  have hlen := good_len c3
  have hT1 : T c.rep.toNat + 1 ≤ c.num := by
   rw [hTc]
   split <;> omega
  refine ⟨⟨by omega, c1.1, c1.2⟩, ⟨hT1, c2.2⟩, hlen.2, c4, chE_eok t c _ c1.1 (fun r hr h16 => ?_) h3⟩
  unfold upd
  by_cases er : r = c.rep.toNat
  ·subst er
   rw [if_pos rfl, e, if_pos rfl]
  ·rw [if_neg er, if_neg (by omega)]
   have := hT r (by omega) h16
   rw [this, if_neg (by omega)]
theorem ok_eok {L : List K.En} (h : K.okN L L.length = true) : EOk (fun _ => 0) 0 L ∧ ∀ e ∈ L, 1 ≤ e.sku.size := by
 refine ⟨?_, fun e he => ?_⟩
 ·cases L with
  | nil => exact trivial
  | cons a t =>
   have h0 := (ok_at h 0 (by simp)).1
   obtain ⟨c1, c2, c3, c4⟩ := ce_zero (e := a) h0
   refine ⟨⟨c1.1, c1⟩, ⟨by show (0 : Int) + 1 ≤ a.num; omega, c2.2⟩, (good_len c3).2, c4, chE_eok t a _ c1.1 (fun r hr h16 => ?_) (ok_chain h t [] a rfl)⟩
   unfold upd
   by_cases er : r = a.rep.toNat
   ·rw [if_pos er, if_pos (by omega)]
   ·rw [if_neg er, if_neg (by omega)]
 ·obtain ⟨k, hk, rfl⟩ := List.getElem_of_mem he
  have h1 := (ok_at h k hk).1
  rw [List.getD_eq_getElem?_getD, List.getElem?_eq_getElem hk] at h1
  exact (good_len (ce_zero h1).2.2.1).1
def stEn : (Nat → Int) → Int → List K.En → (Nat → Int) × Int
 | T, r0, [] => (T, r0)
 | T, _, s :: t => stEn (upd T s.rep.toNat s.num) s.rep t
theorem entB_append : ∀ (L M : List K.En) (T : Nat → Int) (r0 : Int), entB T r0 (L ++ M) = entB T r0 L ++ entB (stEn T r0 L).1 (stEn T r0 L).2 M
 | [], _, _, _ => rfl
 | s :: t, M, T, r0 => by
  show entB T r0 (s :: (t ++ M)) = _
  simp only [entB, stEn, entB_append t M, List.append_assoc]
theorem eOk_append : ∀ (L M : List K.En) (T : Nat → Int) (r0 : Int), EOk T r0 (L ++ M) → EOk T r0 L ∧ EOk (stEn T r0 L).1 (stEn T r0 L).2 M
 | [], _, _, _, h => ⟨trivial, h⟩
 | s :: t, M, T, r0, h => by
  obtain ⟨h1, h2, h3, h4, h5⟩ := h
  obtain ⟨g1, g2⟩ := eOk_append t M _ _ h5
  exact ⟨⟨h1, h2, h3, h4, g1⟩, g2⟩
theorem stEn_append : ∀ (L M : List K.En) (T : Nat → Int) (r0 : Int), stEn T r0 (L ++ M) = stEn (stEn T r0 L).1 (stEn T r0 L).2 M
 | [], _, _, _ => rfl
 | s :: t, M, T, r0 => by
  show stEn T r0 (s :: (t ++ M)) = _
  simp only [stEn, stEn_append t M]
theorem stEn_bd : ∀ (L : List K.En) (T : Nat → Int) (r0 : Int), 0 ≤ r0 → EOk T r0 L → (∀ k, 0 ≤ T k ∧ T k ≤ 1000000000) → 0 ≤ (stEn T r0 L).2 ∧ ∀ k, 0 ≤ (stEn T r0 L).1 k ∧ (stEn T r0 L).1 k ≤ 1000000000
 | [], _, _, h0, _, hT => ⟨h0, hT⟩
 | s :: t, T, r0, _, h, hT => by
  obtain ⟨h1, h2, h3, h4, h5⟩ := h
  refine stEn_bd t _ _ h1.2.1 h5 (fun k => ?_)
  unfold upd
  have := hT s.rep.toNat
  split
  ·omega
  ·exact hT k
theorem txB_len {s : ByteArray} (h : s.size ≤ 24) : (txB s).length ≤ 25 := by
 have h1 := U.numB_len 0 s.size (by omega)
 have h2 := U.strB_length s
 unfold txB
 rw [List.length_append]
 omega
theorem entB_max : ∀ (L : List K.En) (T : Nat → Int) (r0 : Int), 0 ≤ r0 → EOk T r0 L → (∀ k, 0 ≤ T k) → (entB T r0 L).length ≤ 40 * L.length
 | [], _, _, _, _, _ => Nat.le_refl _
 | s :: t, T, r0, h0, h, hT => by
  obtain ⟨h1, h2, h3, h4, h5⟩ := h
  have g := entB_max t (upd T s.rep.toNat s.num) s.rep h1.2.1 h5 (fun k => by have := hT s.rep.toNat; unfold upd; split <;> first | omega | exact hT k)
  have g1 := nB_len (x := s.rep - r0) (by omega)
  have g2 := nB_len (x := s.num - (T s.rep.toNat + 1)) (by have := hT s.rep.toNat; omega)
  have g3 := nB_len (x := s.qty - 1) (by omega)
  have g4 := txB_len h3
  simp only [entB, List.length_append, List.length_cons]
  omega
theorem ebox {w : World} {g : Nat} {T : TypeId} {e : K.En} (h : K.Box w g T e) : w.cell? ⟨g, 0, none⟩ = some (.int .i64 e.rep) ∧ w.cell? ⟨g, 1, none⟩ = some (.int .i64 e.num) ∧ w.cell? ⟨g, 2, none⟩ = some (.string e.sku) ∧ w.cell? ⟨g, 3, none⟩ = some (.int .i64 e.qty) := by
 unfold K.Box at h
 simp [World.cell?, h, K.EC]
theorem take_snocE (l : List K.En) (k : Nat) (h : k < l.length) : l.take (k + 1) = l.take k ++ [l.getD k K.en0] := by
 rw [List.take_add_one, List.getElem?_eq_getElem h, List.getD_eq_getElem?_getD, List.getElem?_eq_getElem h]; rfl
set_option maxRecDepth 100000 in
set_option maxHeartbeats 3200000 in
theorem wentries_any {w0 W : World} {gw : Nat} {ao : Option Addr} {n cap : Nat} {Z : List Int} {F : List (Nat × Obj)} (h : PW w0 W gw ao n cap Z F) (so : Option Addr) (sn sc : Nat) (L : List K.En) (hS : K.ESrc w0 so sn sc L) (hI : K.okN L L.length = true) (hn : n ≤ 50000000000000) :
  Calls Tryz.prog 35 #[.agg #[U.ptr gw], .slice so sn sc] W fun e w' => e = .returned (.tuple #[]) ∧ ∃ bo m cc, PW w0 w' gw bo m cc (Z ++ entsB L) F := by
 have P1 := h.add (.cells #[U.ptr gw] 68)
 obtain ⟨b2, hb2⟩ : ∃ b2, W.heap.size = b2 := ⟨_, rfl⟩
 obtain ⟨F2, hF2⟩ : ∃ F2, ((b2, Obj.cells #[U.ptr gw] 68) :: F) = F2 := ⟨_, rfl⟩
 obtain ⟨W1, hW1⟩ : ∃ W1, W.alloc (.cells #[U.ptr gw] 68) = W1 := ⟨_, rfl⟩
 rw [hW1, hb2, hF2] at P1
 have HP1 := hide P1
 have HC : Hid (∀ V bo m cc Y G, PW w0 V gw bo m cc Y (G ++ F2) → V.cell? ⟨b2, 0, none⟩ = some (U.ptr gw) ∧ K.ESrc V so sn sc L) := fun V bo m cc Y G hV => by
  refine ⟨box_cell (hV.keep (b2, .cells #[U.ptr gw] 68) (by rw [← hF2]; simp)).1, hS.below hV.wk.bel⟩
 have HSub : Hid (∀ x ∈ F, x ∈ F2) := fun x hx => by rw [← hF2]; exact List.mem_cons_of_mem _ hx
 obtain ⟨hE, hEs⟩ := ok_eok hI
 have HE := hide hE
 have HN := hide hn
 have HZl := hide h.wk.len
 have hroom := eOk_room L (fun _ => 0) 0 (Int.le_refl 0) (by decide) hE (fun k => ⟨Int.le_refl 0, by decide⟩)
 have hll := hS.1
 have HLl : Hid (L.length = sn ∧ sn ≤ 16000000015) := ⟨hll, by omega⟩
 have hsn := HLl.out.2
 obtain ⟨c2, -⟩ := HC.out _ _ _ _ _ [] P1
 clear P1 h hI hS hn hE hEs hroom hll
 go_enter Tryz.func35, Tryz.ntmps35
 go_wp2_with fail
 clear hW1
 refine (U.wnum_any ao n cap Z false sn _ HP1.out.wk.w (fun e => by cases e) (by omega) (by have := HN.out; omega)).mono ?_
 rintro e W2 ⟨rfl, hp2⟩
 obtain ⟨bo, m, cc, P2⟩ := HP1.out.put hp2
 have HP2 := hide P2
 obtain ⟨d2, -⟩ := HC.out _ _ _ _ _ [] P2
 clear c2 hp2 P2
 go_wp2_with fail
 refine (newTrail_any 1 none 0 0 [] _ rfl (by decide) (fun _ => rfl) (fun ad e => by cases e)).mono ?_
 rintro e W7 ⟨rfl, ht7, b7⟩
 have HP7 := hide (HP2.out.addB b7 (Nat.le_refl _) ht7)
 obtain ⟨gt, hgt⟩ : ∃ gt, W2.heap.size = gt := ⟨_, rfl⟩
 have Hgt : Hid (w0.heap.size ≤ gt ∧ b2 < gt) := by
  refine ⟨by rw [← hgt]; exact HP2.out.wk.bel.size, ?_⟩
  rw [← hgt]
  exact World.block_lt_of_cell? _ _ d2
 rw [hgt] at HP7
 have HNe : Hid (∀ x ∈ F2, x.1 ≠ gt) := fun x hx e => by
  have h1 := (HP2.out.keep x hx).1
  have h2 := (Array.getElem?_eq_some_iff.1 h1).1
  omega
 obtain ⟨B0, hB0⟩ : ∃ B0, Z ++ U.numB sn = B0 := ⟨_, rfl⟩
 have HB0 : Hid (B0.length ≤ 50000000001100 ∧ B0 ++ entB (fun _ => 0) 0 L = Z ++ entsB L) := by
  have h4 := U.numB_len 9 sn (by omega)
  have h5 := HZl.out
  have h6 := HN.out
  refine ⟨?_, ?_⟩
  ·rw [← hB0, List.length_append]
   omega
  ·rw [← hB0]
   unfold entsB
   rw [HLl.out.1, List.append_assoc]
 rw [hB0] at HP7
 obtain ⟨g2, -⟩ := HC.out _ _ _ _ _ [_] HP7.out
 clear b7 ht7 d2 hB0 HP2 HP1
 rw [hgt]
 clear hgt
 go_wp2_with fail
 go_loopw [15] (fun i wr => ∃ j : Nat, j ≤ sn ∧ i = .int .i64 j ∧ Hid (∃ bo m cc, PW w0 wr gw bo m cc (B0 ++ entB (fun _ => 0) 0 (L.take j)) ((gt, .cells (TC 1 (stEn (fun _ => 0) 0 (L.take j)).2 (stEn (fun _ => 0) 0 (L.take j)).1).toArray 133 (0, 0)) :: F2))) (fun i _ => sn - (intOf i).toNat)
 case atStart => exact ⟨0, Nat.zero_le _, rfl, bo, m, cc, by
  show PW w0 _ gw bo m cc (B0 ++ []) ((gt, .cells (TC 1 0 (fun _ => 0)).toArray 133 (0, 0)) :: F2)
  rw [List.append_nil]
  exact HP7.out⟩
 case round =>
  obtain ⟨j, hj, rfl, HPj⟩ := hrel
  rename World => wv
  obtain ⟨bo8, m8, cc8, P8⟩ := HPj.out
  obtain ⟨e2, S8⟩ := HC.out _ _ _ _ _ [_] P8
  by_cases hlt : j < sn
  ·obtain ⟨ad, rfl, A8⟩ := S8.at j hlt
   obtain ⟨s, Hs⟩ : ∃ s, Hid (L.getD j K.en0 = s) := ⟨_, rfl⟩
   rw [Hs.out] at A8
   have HTk : Hid (L.take (j + 1) = L.take j ++ [s]) := by show _ = _; rw [take_snocE L j (by have := HLl.out; omega), Hs.out]
   obtain ⟨Tj, hTj⟩ : ∃ Tj, (stEn (fun _ => 0) 0 (L.take j)).1 = Tj := ⟨_, rfl⟩
   obtain ⟨rj, hrj⟩ : ∃ rj, (stEn (fun _ => 0) 0 (L.take j)).2 = rj := ⟨_, rfl⟩
   have hok : EOk (fun _ => 0) 0 (L.take j ++ [s]) := by
    rw [← HTk.out]
    exact (eOk_append (L.take (j + 1)) (L.drop (j + 1)) _ _ (by rw [List.take_append_drop]; exact HE.out)).1
   obtain ⟨hok1, hok2⟩ := eOk_append _ _ _ _ hok
   obtain ⟨hr0, hTb⟩ := stEn_bd _ _ _ (Int.le_refl 0) hok1 (fun k => ⟨Int.le_refl 0, by decide⟩)
   rw [hTj, hrj] at hok2
   rw [hTj] at hTb
   rw [hrj] at hr0
   obtain ⟨⟨q1, q2, q3⟩, ⟨q4, q5⟩, q6, ⟨q7, q8⟩, -⟩ := hok2
   obtain ⟨r, hr⟩ : ∃ r : Nat, s.rep = (r : Int) := ⟨s.rep.toNat, by omega⟩
   have hrn : s.rep.toNat = r := by omega
   rw [hrn] at q4
   have hT := hTb r
   have HSt : Hid (stEn (fun _ => 0) 0 (L.take (j + 1)) = (upd Tj r s.num, (r : Int)) ∧ entB (fun _ => 0) 0 (L.take (j + 1)) = entB (fun _ => 0) 0 (L.take j) ++ (nB ((r : Int) - rj) ++ (nB (s.num - (Tj r + 1)) ++ (txB s.sku ++ nB (s.qty - 1))))) := by
    constructor
    ·rw [HTk.out, stEn_append, hTj, hrj]
     simp only [stEn, hr, Int.toNat_natCast]
    ·rw [HTk.out, entB_append, hTj, hrj]
     simp only [entB, hrn, List.append_nil]
     rw [hr]
   rw [hTj, hrj] at P8
   have HLn8 : Hid (m8 ≤ 90000000000000) := by
    show _ ≤ _
    have h1 := P8.wk.len
    have h2 := entB_max (L.take j) (fun _ => 0) 0 (Int.le_refl 0) hok1 (fun k => Int.le_refl 0)
    have h3 := HB0.out.1
    rw [List.length_append] at h1
    rw [List.length_take] at h2
    omega
   obtain ⟨gs, hgs⟩ : ∃ gs, wv.heap.size = gs := ⟨_, rfl⟩
   obtain ⟨w9, hst9, X9, b9, -⟩ := K.made wv s gs hgs
   have P9 := P8.addB b9 (g := gs) (by omega) X9
   have hld := K.run_ld28 A8
   obtain ⟨x2, -⟩ := HC.out _ _ _ _ _ [_, _] P9
   obtain ⟨y0, y1, y2, y3⟩ := ebox X9
   rw [hr] at y0
   have HP9 := hide P9
   have HQ : Hid ((0 ≤ rj ∧ rj ≤ (r : Int)) ∧ (Tj r + 1 ≤ s.num ∧ s.num ≤ 1000000000) ∧ s.sku.size ≤ 24 ∧ (1 ≤ s.qty ∧ s.qty ≤ 1000000) ∧ (0 ≤ Tj r ∧ Tj r ≤ 1000000000) ∧ r < 16) := ⟨⟨hr0, by omega⟩, ⟨q4, q5⟩, q6, ⟨q7, q8⟩, hT, by omega⟩
   have Hlt := hide hlt
   have HR := hide hr
   clear P8 S8 A8 hok hok1 hTb hT q1 q2 q3 q4 q5 q6 q7 q8 hr0 X9 b9 P9 g2 hTj hrj hrn hr e2 HPj HP7
   go_wp2_with fail
   refine (placeG_any HP9.out (gap := 1) (by decide) (gt := gt) (by simp) r HQ.out.2.2.2.2.2 s.num HQ.out.1 HQ.out.2.1.1 HQ.out.2.2.2.2.1 (by have := HQ.out; omega) (by have := HLn8.out; omega)).mono ?_
   rintro e wa ⟨rfl, bo9, m9, cc9, Pa⟩
   have HPa := hide Pa
   obtain ⟨u2, -⟩ := HC.out _ _ _ _ _ [_, _] Pa
   have Xa : K.Box wa gs 57 s := (Pa.keep (gs, .cells (K.EC s) 57 (0, 0)) (by simp)).1
   obtain ⟨v0, v1, v2, v3⟩ := ebox Xa
   have HL9 : Hid (m9 ≤ 90000000000010) := by
    show _ ≤ _
    have h1 := HPa.out.wk.len
    have h2 := HP9.out.wk.len
    have h3 := nB_len (x := (r : Int) - rj) (by have := HQ.out; omega)
    have h4 := nB_len (x := s.num - (Tj r + 1)) (by have := HQ.out; omega)
    have h5 := HLn8.out
    simp only [List.length_append] at h1 h2
    omega
   clear Pa Xa y0 y1 y2 y3 x2 hst9 hld
   go_wp2_with fail
   refine (U.wtext_any bo9 m9 cc9 _ false s.sku _ HPa.out.wk.w (fun e => by cases e) (by have := HL9.out; have := HQ.out; omega)).mono ?_
   rintro e wt ⟨rfl, hpt⟩
   obtain ⟨bot, mt, cct, Pt⟩ := HPa.out.put hpt
   have HPt := hide Pt
   obtain ⟨t2, -⟩ := HC.out _ _ _ _ _ [_, _] Pt
   have Xt : K.Box wt gs 57 s := (Pt.keep (gs, .cells (K.EC s) 57 (0, 0)) (by simp)).1
   obtain ⟨p0, p1, p2, p3⟩ := ebox Xt
   have hw3 : wrap64 (s.qty - 1) = (((s.qty - 1).toNat : Nat) : Int) := by have := HQ.out; unfold wrap64; omega
   obtain ⟨x3, hx3⟩ : ∃ x3, (s.qty - 1).toNat = x3 := ⟨_, rfl⟩
   rw [hx3] at hw3
   have HX3 : Hid (x3 ≤ 1000000000 ∧ nB (s.qty - 1) = U.numB x3) := ⟨by have := HQ.out; omega, by rw [← hx3]; rfl⟩
   have HLt : Hid (mt ≤ 90000000000100) := by
    show _ ≤ _
    have h1 := HPt.out.wk.len
    have h2 := HPa.out.wk.len
    have h3 := txB_len (s := s.sku) (by have := HQ.out; omega)
    have h5 := HL9.out
    unfold txB at h3
    simp only [List.length_append] at h1 h2 h3
    omega
   clear Pt Xt v0 v1 v2 v3 u2 hpt hx3
   go_wp2_with fail
   refine (U.wnum_any bot mt cct _ false x3 _ HPt.out.wk.w (fun e => by cases e) (by have := HX3.out; omega) (by have := HLt.out; omega)).mono ?_
   rintro e wb ⟨rfl, hpb⟩
   obtain ⟨bob, mb, ccb, Pb⟩ := HPt.out.put hpb
   have HPb := hide Pb
   have Xb : K.Box wb gs 57 s := (Pb.keep (gs, .cells (K.EC s) 57 (0, 0)) (by simp)).1
   obtain ⟨z0, z1, z2, z3⟩ := ebox Xb
   rw [HR.out] at z0
   have HTb : Hid (TrB wb gt 1 rj Tj) := (Pb.keep (gt, .cells (TC 1 rj Tj).toArray 133 (0, 0)) (by simp)).1
   clear Pb Xb hpb p0 p1 p2 p3 t2 hw3
   go_wp2_with fail
   refine (pass_any HTb.out r HQ.out.2.2.2.2.2 s.num).mono ?_
   rintro e wc ⟨rfl, hTc, Kc⟩
   have HPc : Hid (PW w0 wc gw bob mb ccb (B0 ++ entB (fun _ => 0) 0 (L.take (j + 1))) ((gt, .cells (TC 1 (stEn (fun _ => 0) 0 (L.take (j + 1))).2 (stEn (fun _ => 0) 0 (L.take (j + 1))).1).toArray 133 (0, 0)) :: F2)) := by
    rw [HSt.out.1, HSt.out.2, HX3.out.2]
    have := HPb.out.turn (g := gt) (o1 := .cells (TC 1 rj Tj).toArray 133 (0, 0)) (by simp) Hgt.out.1 Kc hTc (F' := (gt, .cells (TC 1 (r : Int) (upd Tj r s.num)).toArray 133 (0, 0)) :: F2) (fun x hx => by
     rcases List.mem_cons.1 hx with rfl | hx
     ·exact .inl rfl
     ·refine .inr ⟨by simp [hx], HNe.out x hx⟩)
    simp only [List.append_assoc] at this
    unfold txB
    simp only [List.append_assoc]
    exact this
   clear hTc Kc z0 z1 z2 z3
   go_wp2_with fail
   go_roundw
   case rel => exact ⟨j + 1, by have := Hlt.out; omega, by simp, bob, mb, ccb, HPc.out⟩
   case measure => simp [intOf]; have := Hlt.out; omega
  ·obtain rfl : j = sn := by omega
   have HFin : Hid (PW w0 wv gw bo8 m8 cc8 (Z ++ entsB L) F) := by
    have h1 := P8
    rw [List.take_of_length_le (by have := HLl.out; omega), HB0.out.2] at h1
    exact h1.sub (fun x hx => List.mem_cons_of_mem _ (HSub.out x hx))
   clear P8 S8
   go_wp2_with fail
   go_end0
   exact ⟨rfl, bo8, m8, cc8, HFin.out⟩
end Go.Proofs.YtphohmoibnoeaaaGreat
namespace Go.Proofs.YtphohmoibnoeaaaGreat.I
open Go.RowKit
variable {w w' w2 : World} {g : Nat}
def bcs (L : List Int) : List Value := L.map (Value.int .i64)
theorem bcs_append (L M : List Int) : bcs (L ++ M) = bcs L ++ bcs M := by simp [bcs]
theorem bcs_length (L : List Int) : (bcs L).length = L.length := by simp [bcs]
theorem bcs_one (L : List Int) : ∀ u ∈ bcs L, u.oneCell' = true := by
 intro u hu
 obtain ⟨z, _, rfl⟩ := List.mem_map.1 hu
 rfl
theorem bcs_at (L : List Int) (t : Nat) (ht : t < L.length) : (bcs L)[t]? = some (.int .i64 (L.getD t 0)) := by
 simp [bcs, ht, List.getD]
def BR (w : World) (ao : Option Addr) (n cap : Nat) (Z : List Int) : Prop := w.ownsRow 0 3 1 (.slice ao n cap) n (bcs Z)
theorem BR.len {ao : Option Addr} {n cap : Nat} {Z : List Int} (h : BR w ao n cap Z) : Z.length = n := by
 have := h.1
 rw [bcs_length] at this
 omega
theorem BR.nil (w : World) : BR w none 0 0 [] := World.ownsRow_nil _ _ _ _
theorem infoB : (Tryz.prog.info? 3).map (fun i => (i.zero, i.size, i.bytes)) = some (some (.int .i64 0), 1, 8) := by kernel_rfl
theorem BR.out {n : Nat} {Z : List Int} {v : Value} (h : w.ownsRow 0 3 1 v n (bcs Z)) : ∃ ao cap, v = .slice ao n cap ∧ BR w ao n cap Z := by
 rcases h.2 with ⟨h0, h00⟩ | ⟨q, cap2, cur, hv, r⟩
 ·subst h0 h00
  exact ⟨none, 0, rfl, h⟩
 ·subst hv
  exact ⟨_, _, rfl, h⟩
theorem BR.app {ao : Option Addr} {n cap : Nat} {Z Y : List Int} (h : BR w ao n cap Z) (ad : Addr) (m c : Nat) (hY : Y.length = m) (hc : ∀ t, t < m → w.cell? (ad.add t) = some (.int .i64 (Y.getD t 0))) (hb : n + m ≤ 17592186044416)
  {ops : Array Oper} {rest : List Oper} {o : Oper} {a : Act} {Q : Exit → Act → World → Prop} (hgd : o.guard = none) (s y : Operand) (ho : o.op = .call { callee := .builtin .append, args := #[s, y], argTypes := #[22, 22] })
  (hs : a.eval s = .slice ao n cap) (hy : a.eval y = .slice (some ad) m c)
  (hK : ∀ (bo : Option Addr) (cap2 : Nat) (w2 : World), BR w2 bo (n + m) cap2 (Z ++ Y) → U.Ap w w2 ao bo → wpList Tryz.prog ops Q rest (a.put o.dst (.slice bo (n + m) cap2)) w2) :
  wpList Tryz.prog ops Q (o :: rest) a w := by
 obtain ⟨i0, hi, hz0, hz1, hz2⟩ := info_parts infoB
 refine wpList_append_own_at _ hgd s y 22 ho 0 3 i0 (.int .i64 0) 1 8 Tryz.underlying22 hi hz0 hz1 hz2 rfl (by decide) _ n (bcs Z) hs h ad m c (bcs Y) hy (by rw [bcs_length, hY, Nat.mul_one]) (fun j u hj => ?_) (bcs_one Y) (by unfold maxLen; omega) (by omega) (Nat.zero_le _) ?_
 ·have hl : j < Y.length := by rw [← bcs_length]; exact (List.getElem?_eq_some_iff.1 hj).1
  rw [bcs_at Y j hl] at hj
  rw [hc j (by omega)]
  exact hj
 ·intro v' w2 hown hgrow _ hat
  rw [← bcs_append] at hown
  obtain ⟨bo, c2, rfl, hB⟩ := BR.out hown
  rw [U.ownBlock_blk] at hgrow
  rw [U.ownBlock_blk, U.ownBlock_blk] at hat
  refine hK bo c2 w2 hB ⟨hgrow, ?_⟩
  rcases hat with e | e
  ·exact Or.inl e
  ·exact Or.inr ⟨_, e, Nat.le_refl _⟩
theorem BR.keep {ao : Option Addr} {n cap : Nat} {Z : List Int} (h : BR w ao n cap Z) (hk : ∀ k, U.blk ao = some k → w'.heap[k]? = w.heap[k]?) : BR w' ao n cap Z := by
 refine ⟨h.1, ?_⟩
 rcases h.2 with h0 | ⟨q, cap2, cur, hv, hq, hh, r⟩
 ·exact Or.inl h0
 ·simp only [Value.slice.injEq, true_and] at hv
  obtain ⟨rfl, rfl⟩ := hv
  exact Or.inr ⟨q, cap, cur, rfl, hq, (hk q rfl).trans hh, r⟩
theorem BR.lt {ao : Option Addr} {n cap : Nat} {Z : List Int} (h : BR w ao n cap Z) (k : Nat) (hk : U.blk ao = some k) : k < w.heap.size := by
 rcases h.2 with h0 | ⟨q, cap2, cur, hv, hq, hh, r⟩
 ·simp only [Value.slice.injEq] at h0
  rw [h0.1.1] at hk
  cases hk
 ·simp only [Value.slice.injEq, true_and] at hv
  obtain ⟨rfl, rfl⟩ := hv
  have : q = k := Option.some.inj hk
  subst this
  exact (Array.getElem?_eq_some_iff.1 hh).1
theorem BR.new {ao : Option Addr} {n cap : Nat} {Z : List Int} (h : BR w ao n cap Z) (o : Obj) : BR (w.alloc o) ao n cap Z := h.keep fun k hk => Below.heap_alloc w o k (h.lt k hk)
theorem BR.app1 {ao : Option Addr} {n cap : Nat} {Z : List Int} (h : BR w ao n cap Z) (x : Int) (hb : n + 1 ≤ 17592186044416)
  {ops : Array Oper} {rest : List Oper} {o : Oper} {a : Act} {Q : Exit → Act → World → Prop} (hgd : o.guard = none) (s y : Operand) (ho : o.op = .call { callee := .builtin .append, args := #[s, y], argTypes := #[22, 22] })
  (hs : a.eval s = .slice ao n cap) (hy : a.eval y = .slice (some ⟨w.heap.size, 0, none⟩) 1 1)
  (hK : ∀ (bo : Option Addr) (cap2 : Nat) (w2 : World), BR w2 bo (n + 1) cap2 (Z ++ [x]) → U.Ap w w2 ao bo → wpList Tryz.prog ops Q rest (a.put o.dst (.slice bo (n + 1) cap2)) w2) :
  wpList Tryz.prog ops Q (o :: rest) a (w.alloc (.cells #[.int .i64 x] 3)) := by
 refine (h.new (.cells #[.int .i64 x] 3)).app ⟨w.heap.size, 0, none⟩ 1 1 (Y := [x]) rfl (fun t ht => ?_) hb hgd s y ho hs hy fun bo c2 w2 hB hA => hK bo c2 w2 hB ((U.Ap.new w _ ao).trans hA)
 obtain rfl : t = 0 := by omega
 exact cell_one_new w _ _ 0 _ rfl

theorem BR.at {ao : Option Addr} {n cap : Nat} {Z : List Int} (h : BR w ao n cap Z) : (ao = none → n = 0 ∧ cap = 0) ∧ ∀ ad, ao = some ad → ∀ t, t < n → w.cell? (ad.add t) = some (.int .i64 (Z.getD t 0)) := by
 have hl := h.len
 rcases h.2 with ⟨h0, h00⟩ | ⟨q, cap2, cur, hv, r⟩
 ·simp only [Value.slice.injEq] at h0
  obtain ⟨rfl, e0, rfl⟩ := h0
  exact ⟨fun _ => ⟨h00, rfl⟩, fun ad h => by cases h⟩
 ·simp only [Value.slice.injEq, true_and] at hv
  obtain ⟨rfl, rfl⟩ := hv
  refine ⟨fun h => (by cases h), fun ad e t ht => ?_⟩
  obtain rfl := Option.some.inj e
  rw [Addr.add_lit, Nat.zero_add, World.ownsRow.cellAt (show w.ownsRow 0 3 1 (.slice (some ⟨q, 0, none⟩) n cap) n (bcs Z) from h) t (by omega), bcs_at Z t (by omega)]
end Go.Proofs.YtphohmoibnoeaaaGreat.I
namespace Go.Proofs.YtphohmoibnoeaaaGreat.J
open Go.RowKit
variable {w w' w2 : World} {g : Nat}
def BR (w : World) (ao : Option Addr) (n cap : Nat) (Z : List Sn) : Prop := w.ownsRow 0 59 3 (.slice ao n cap) n (scs Z)
theorem scs_len3 (Z : List Sn) : (scs Z).length = Z.length * 3 := by induction Z with
 | nil => rfl
 | cons a t ih => simp [scs, SC] at ih ⊢; omega
theorem BR.len {ao : Option Addr} {n cap : Nat} {Z : List Sn} (h : BR w ao n cap Z) : Z.length = n := by
 have := h.1
 rw [scs_len3] at this
 omega
theorem BR.nil (w : World) : BR w none 0 0 [] := World.ownsRow_nil _ _ _ _
theorem BR.out {n : Nat} {Z : List Sn} {v : Value} (h : w.ownsRow 0 59 3 v n (scs Z)) : ∃ ao cap, v = .slice ao n cap ∧ BR w ao n cap Z := by
 rcases h.2 with ⟨h0, h00⟩ | ⟨q, cap2, cur, hv, r⟩
 ·subst h0 h00
  exact ⟨none, 0, rfl, h⟩
 ·subst hv
  exact ⟨_, _, rfl, h⟩
theorem BR.keep {ao : Option Addr} {n cap : Nat} {Z : List Sn} (h : BR w ao n cap Z) (hk : ∀ k, U.blk ao = some k → w'.heap[k]? = w.heap[k]?) : BR w' ao n cap Z := by
 refine ⟨h.1, ?_⟩
 rcases h.2 with h0 | ⟨q, cap2, cur, hv, hq, hh, r⟩
 ·exact Or.inl h0
 ·simp only [Value.slice.injEq, true_and] at hv
  obtain ⟨rfl, rfl⟩ := hv
  exact Or.inr ⟨q, cap, cur, rfl, hq, (hk q rfl).trans hh, r⟩
theorem BR.lt {ao : Option Addr} {n cap : Nat} {Z : List Sn} (h : BR w ao n cap Z) (k : Nat) (hk : U.blk ao = some k) : k < w.heap.size := by
 rcases h.2 with h0 | ⟨q, cap2, cur, hv, hq, hh, r⟩
 ·simp only [Value.slice.injEq] at h0
  rw [h0.1.1] at hk
  cases hk
 ·simp only [Value.slice.injEq, true_and] at hv
  obtain ⟨rfl, rfl⟩ := hv
  have : q = k := Option.some.inj hk
  subst this
  exact (Array.getElem?_eq_some_iff.1 hh).1
theorem BR.new {ao : Option Addr} {n cap : Nat} {Z : List Sn} (h : BR w ao n cap Z) (o : Obj) : BR (w.alloc o) ao n cap Z := h.keep fun k hk => Below.heap_alloc w o k (h.lt k hk)
theorem BR.app1 {ao : Option Addr} {n cap : Nat} {Z : List Sn} (h : BR w ao n cap Z) (e : Sn) (C : Array Value) (hC : C = SC e) (hb : n + 1 ≤ 5864062014805)
  {ops : Array Oper} {rest : List Oper} {o : Oper} {a : Act} {Q : Exit → Act → World → Prop} (hgd : o.guard = none) (s y : Operand) (ho : o.op = .call { callee := .builtin .append, args := #[s, y], argTypes := #[23, 23] })
  (hs : a.eval s = .slice ao n cap) (hy : a.eval y = .slice (some ⟨w.heap.size, 0, none⟩) 1 1)
  (hK : ∀ (bo : Option Addr) (cap2 : Nat) (w2 : World), BR w2 bo (n + 1) cap2 (Z ++ [e]) → U.Ap w w2 ao bo → wpList Tryz.prog ops Q rest (a.put o.dst (.slice bo (n + 1) cap2)) w2) :
  wpList Tryz.prog ops Q (o :: rest) a (w.alloc (.cells C 59)) := by
 subst hC
 obtain ⟨i0, hi, hz0, hz1, hz2⟩ := info_parts infoS3
 refine wpList_append_own_at _ hgd s y 23 ho 0 59 i0 (.agg #[.int .i64 0, .int .i64 0, .int .i64 0]) 3 24 Tryz.underlying23 hi hz0 hz1 hz2 rfl (by decide) _ n (scs Z) hs (h.new _) ⟨w.heap.size, 0, none⟩ 1 1 (SC e).toList hy (by simp [SC]) ?_ ?_ (by unfold maxLen; omega) (by omega) (Nat.zero_le _) ?_
 ·intro j u hj
  rw [Addr.add_lit, Nat.zero_add, World.cell?_alloc_new]
  simpa using hj
 ·intro u hu
  exact SC_one e u hu
 ·intro v' w2 hown hgrow _ hat
  have e1 : scs Z ++ (SC e).toList = scs (Z ++ [e]) := by rw [scs_append, scs_one]
  rw [e1] at hown
  obtain ⟨bo, c2, rfl, hB⟩ := BR.out hown
  rw [U.ownBlock_blk] at hgrow
  rw [U.ownBlock_blk, U.ownBlock_blk] at hat
  refine hK bo c2 w2 hB ((U.Ap.new w _ ao).trans ⟨hgrow, ?_⟩)
  rcases hat with x | x
  ·exact Or.inl x
  ·exact Or.inr ⟨_, x, Nat.le_refl _⟩
theorem BR.src {ao : Option Addr} {n cap : Nat} {Z : List Sn} (h : BR w ao n cap Z) (hb : n ≤ 5864062014805) : SSrc w ao n cap Z := by
 have hl := h.len
 subst hl
 exact (OwnS.src (B0 := 0) (B := 0) (w := w) ⟨h, Below.refl _ _, Nat.zero_le _, Nat.le_refl _⟩ hb).1
end Go.Proofs.YtphohmoibnoeaaaGreat.J
namespace Go.Proofs.YtphohmoibnoeaaaGreat
open Go.RowKit
variable {w w' w2 W W' W2 w0 : World} {g b3 : Nat} {Z : List Int} {B : Option Nat}

theorem I.BR.runs1 {ao : Option Addr} {n cap : Nat} {Z : List Int} (h : I.BR w ao n cap Z) (x : Int) (hb : n + 1 ≤ 17592186044316) (ty : TypeId) :
  ∃ bo c2 w2, (Builtin.append_ #[22, 22] ty #[.slice ao n cap, .slice (some ⟨w.heap.size, 0, none⟩) 1 1]).run Tryz.prog (w.alloc (.cells #[.int .i64 x] 3)) = .ok (.slice bo (n + 1) c2) w2 ∧ I.BR w2 bo (n + 1) c2 (Z ++ [x]) ∧ U.Ap w w2 ao bo := by
 obtain ⟨i0, hi, hz0, hz1, hz2⟩ := info_parts I.infoB
 have hk := h.new (.cells #[.int .i64 x] 3)
 obtain ⟨v', w2, hrun, hown, hgrow, hnil, hat⟩ := run_append_own_at (P := Tryz.prog) (w.alloc (.cells #[.int .i64 x] 3)) 0 22 ty 3 i0 (.int .i64 0) 1 8 Tryz.underlying22 hi hz0 hz1 hz2 rfl (by decide) (.slice ao n cap) n (I.bcs Z) hk ⟨w.heap.size, 0, none⟩ 1 1 (I.bcs [x]) rfl (fun j u hj => by
  have hl : j < 1 := (List.getElem?_eq_some_iff.1 hj).1
  obtain rfl : j = 0 := by omega
  rw [cell_one_new w _ _ 0 _ rfl]
  exact hj) (I.bcs_one [x]) (by unfold maxLen; omega) (by omega) (Nat.zero_le _)
 rw [← I.bcs_append] at hown
 obtain ⟨bo, c2, rfl, hP⟩ := I.BR.out hown
 rw [U.ownBlock_blk] at hgrow
 rw [U.ownBlock_blk, U.ownBlock_blk] at hat
 refine ⟨bo, c2, w2, hrun, hP, (U.Ap.new w _ ao).trans ⟨hgrow, ?_⟩⟩
 rcases hat with e | e
 ·exact Or.inl e
 ·exact Or.inr ⟨_, e, Nat.le_refl _⟩
theorem step_appI {ops : Array Oper} {o : Oper} {a : Act} {K : Act → World → Prop} {Q : Exit → Act → World → Prop} {E : Prop} {v1 v2 v' : Value} (hgd : o.guard = none) (s x : Operand) (ho : o.op = .call { callee := .builtin .append, args := #[s, x], argTypes := #[22, 22] })
  (hs : a.eval s = v1) (hx : a.eval x = v2) (hrun : (Builtin.append_ #[22, 22] o.type #[v1, v2]).run Tryz.prog W = .ok v' w2) (hK : K (a.put o.dst v') w2) :
  if Region.wanted o (yielded ops a.tmps) = true then Oper.wp Tryz.prog o a W K Q else E := by
 have hw : Region.wanted o (yielded ops a.tmps) = true := by simp [Region.wanted, hgd]
 rw [if_pos hw]
 unfold Oper.wp
 simp [execOp, ho, resolve, invoke, builtin, hs, hx, hrun, Result.andThen]
 exact hK
theorem RB.keep (R : RB W g Z B) (hg : W'.heap[g]? = W.heap[g]?) (hB : ∀ k, B = some k → W'.heap[k]? = W.heap[k]?) : RB W' g Z B := by
 obtain ⟨ro, rn, rc, R, e⟩ := R
 refine ⟨ro, rn, rc, ⟨hg.trans R.r, ⟨R.s.1, R.s.2.1, fun ad ea t ht => ?_, R.s.2.2.2⟩, R.cap, R.big, R.ne⟩, e⟩
 rw [World.cell?_of_block (w := W) (by rw [U.block_of_add]; exact hB _ (by rw [← e (fun ez => by have := R.s.1; rw [ez] at this; simp at this; omega), ea]; rfl))]
 exact R.s.2.2.1 ad ea t ht
structure RP (w0 W : World) (g : Nat) (Z : List Int) (B : Option Nat) (b3 : Nat) (vo : Option Addr) (vn vc : Nat) (V : List Int) (co : Option Addr) (cn cc : Nat) (C : List Sn) (F : List (Nat × Obj)) : Prop where
 r : RB W g Z B
 gl : g < w0.heap.size
 bl : ∀ k, B = some k → k < w0.heap.size
 k : U.Kg w0 W g
 box : W.heap[b3]? = some (.cells #[.slice vo vn vc, .slice co cn cc] 25 (0, 0))
 b3n : w0.heap.size ≤ b3
 v : I.BR W vo vn vc V
 c : J.BR W co cn cc C
 vnew : ∀ k, U.blk vo = some k → w0.heap.size ≤ k ∧ k ≠ b3 ∧ ∀ x ∈ F, x.1 ≠ k
 cnew : ∀ k, U.blk co = some k → w0.heap.size ≤ k ∧ k ≠ b3 ∧ U.blk vo ≠ some k ∧ ∀ x ∈ F, x.1 ≠ k
 keep : ∀ x ∈ F, W.heap[x.1]? = some x.2 ∧ w0.heap.size ≤ x.1 ∧ x.1 ≠ b3
variable {vo co : Option Addr} {vn vc cn cc : Nat} {V : List Int} {C : List Sn} {F : List (Nat × Obj)}
theorem some_lt {W : World} {k : Nat} {o : Obj} (h : W.heap[k]? = some o) : k < W.heap.size := (Array.getElem?_eq_some_iff.1 h).1
theorem RP.num (h : RP w0 W g Z B b3 vo vn vc V co cn cc C F) (K : U.Kg W W' g) {Z' : List Int} (R : RB W' g Z' B) : RP w0 W' g Z' B b3 vo vn vc V co cn cc C F := by
 have hg := h.gl
 have hb := h.b3n
 refine ⟨R, h.gl, h.bl, h.k.trans K, (K.block b3 (some_lt h.box) (by omega)).trans h.box, h.b3n, h.v.keep fun k e => K.block k (h.v.lt k e) (by have := (h.vnew k e).1; omega), h.c.keep fun k e => K.block k (h.c.lt k e) (by have := (h.cnew k e).1; omega), h.vnew, h.cnew, fun x hx => ?_⟩
 obtain ⟨k1, k2, k3⟩ := h.keep x hx
 exact ⟨(K.block x.1 (some_lt k1) (by omega)).trans k1, k2, k3⟩
theorem RP.below (h : RP w0 W g Z B b3 vo vn vc V co cn cc C F) (b : Below W.heap.size W W') : RP w0 W' g Z B b3 vo vn vc V co cn cc C F := h.num (U.Kg.of_below b) (h.r.below b)
theorem RP.add (h : RP w0 W g Z B b3 vo vn vc V co cn cc C F) (b : Below W.heap.size W W') {q : Nat} {o : Obj} (hq : W.heap.size ≤ q) (ho : W'.heap[q]? = some o) : RP w0 W' g Z B b3 vo vn vc V co cn cc C ((q, o) :: F) := by
 have h2 := h.below b
 have hs := h.k.size
 have h3 := some_lt h.box
 refine ⟨h2.r, h2.gl, h2.bl, h2.k, h2.box, h2.b3n, h2.v, h2.c, fun k e => ⟨(h.vnew k e).1, (h.vnew k e).2.1, fun x hx => ?_⟩, fun k e => ⟨(h.cnew k e).1, (h.cnew k e).2.1, (h.cnew k e).2.2.1, fun x hx => ?_⟩, fun x hx => ?_⟩
 ·rcases List.mem_cons.1 hx with rfl | hx
  ·have := h.v.lt k e; show q ≠ k; omega
  ·exact (h.vnew k e).2.2 x hx
 ·rcases List.mem_cons.1 hx with rfl | hx
  ·have := h.c.lt k e; show q ≠ k; omega
  ·exact (h.cnew k e).2.2.2 x hx
 ·rcases List.mem_cons.1 hx with rfl | hx
  ·exact ⟨ho, by show _ ≤ q; omega, by show q ≠ b3; omega⟩
  ·exact h2.keep x hx
theorem RP.turn (h : RP w0 W g Z B b3 vo vn vc V co cn cc C F) {q : Nat} {o1 o2 : Obj} (h1 : (q, o1) ∈ F) (K : U.Kg W W' q) (h2 : W'.heap[q]? = some o2) {F' : List (Nat × Obj)} (hF : ∀ x ∈ F', x = (q, o2) ∨ (x ∈ F ∧ x.1 ≠ q)) : RP w0 W' g Z B b3 vo vn vc V co cn cc C F' := by
 obtain ⟨q1, q2, q3⟩ := h.keep _ h1
 have hg := h.gl
 have hk := h.k
 have e1 : ∀ k, k < W.heap.size → k ≠ q → W'.heap[k]? = W.heap[k]? := fun k hk hn => K.block k hk hn
 have hin : ∀ x ∈ F', ∃ y ∈ F, y.1 = x.1 := fun x hx => by
  rcases hF x hx with rfl | ⟨hx, _⟩
  ·exact ⟨_, h1, rfl⟩
  ·exact ⟨x, hx, rfl⟩
 simp only at q1 q2 q3
 refine ⟨h.r.keep (e1 g h.r.lt (by omega)) (fun k e => ?_), h.gl, h.bl, ⟨K.os.trans hk.os, K.tape.trans hk.tape, K.output.trans hk.output, Nat.le_trans hk.size K.size, fun k hk1 hn => (e1 k (Nat.lt_of_lt_of_le hk1 hk.size) (by omega)).trans (hk.block k hk1 hn)⟩, (e1 b3 (some_lt h.box) (fun e => q3 e.symm)).trans h.box, h.b3n, h.v.keep fun k e => e1 k (h.v.lt k e) (fun x => (h.vnew k e).2.2 _ h1 x.symm), h.c.keep fun k e => e1 k (h.c.lt k e) (fun x => (h.cnew k e).2.2.2 _ h1 x.symm), fun k e => ⟨(h.vnew k e).1, (h.vnew k e).2.1, fun x hx => ?_⟩, fun k e => ⟨(h.cnew k e).1, (h.cnew k e).2.1, (h.cnew k e).2.2.1, fun x hx => ?_⟩, fun x hx => ?_⟩
 ·have := h.bl k e
  have := hk.size
  exact e1 k (by omega) (by omega)
 ·obtain ⟨y, hy, ey⟩ := hin x hx; rw [← ey]; exact (h.vnew k e).2.2 y hy
 ·obtain ⟨y, hy, ey⟩ := hin x hx; rw [← ey]; exact (h.cnew k e).2.2.2 y hy
 ·rcases hF x hx with rfl | ⟨hx, hn⟩
  ·exact ⟨h2, q2, q3⟩
  ·obtain ⟨k1, k2, k3⟩ := h.keep x hx
   exact ⟨(e1 x.1 (some_lt k1) hn).trans k1, k2, k3⟩
theorem RP.appV (h : RP w0 W g Z B b3 vo vn vc V co cn cc C F) {bo : Option Addr} {n2 c2 : Nat} {V2 : List Int} (A : U.Ap W W2 vo bo) (h2 : I.BR W2 bo n2 c2 V2) : RP w0 (W2.setCell ⟨b3, 0, none⟩ (.slice bo n2 c2)) g Z B b3 bo n2 c2 V2 co cn cc C F := by
 have hg := h.gl
 have hb := h.b3n
 have hk := h.k
 have hsz := A.grown.size
 have hvo : ∀ k, k < W.heap.size → U.blk vo ≠ some k → W2.heap[k]? = W.heap[k]? := fun k hk hn => A.grown.block k hk (fun e => hn e.symm)
 have nb3 : U.blk vo ≠ some b3 := fun e => (h.vnew b3 e).2.1 rfl
 have nlow : ∀ k, k < w0.heap.size → U.blk vo ≠ some k := fun k hk e => by have := (h.vnew k e).1; omega
 have e1 : ∀ k, k < W.heap.size → k ≠ b3 → U.blk vo ≠ some k → (W2.setCell ⟨b3, 0, none⟩ (.slice bo n2 c2)).heap[k]? = W.heap[k]? := fun k hk h3 hn => (U.set_other W2 b3 0 k _ h3).trans (hvo k hk hn)
 have hbo : ∀ k, U.blk bo = some k → U.blk vo = some k ∨ W.heap.size ≤ k := fun k e => by
  rcases A.lies with x | ⟨j, x, hj⟩
  ·exact .inl (x ▸ e)
  ·rw [x] at e; exact .inr (by have := Option.some.inj e; omega)
 have hbox : W2.heap[b3]? = some (.cells #[.slice vo vn vc, .slice co cn cc] 25 (0, 0)) := (hvo b3 (some_lt h.box) nb3).trans h.box
 have hb3 := some_lt h.box
 have bne : ∀ k, U.blk bo = some k → k ≠ b3 := fun k e e3 => by
  rcases hbo k e with x | x
  ·exact nb3 (e3 ▸ x)
  ·omega
 refine ⟨h.r.keep (e1 g h.r.lt (by omega) (nlow g hg)) (fun k e => ?_), h.gl, h.bl, ⟨?_, ?_, ?_, ?_, fun k hk1 hn => ?_⟩, U.set_heap W2 b3 _ _ _ 0 _ hbox, h.b3n, h2.keep fun k e => U.set_other W2 b3 0 k _ (bne k e), h.c.keep fun k e => e1 k (h.c.lt k e) (h.cnew k e).2.1 (h.cnew k e).2.2.1, fun k e => ⟨?_, bne k e, fun x hx => ?_⟩, fun k e => ⟨(h.cnew k e).1, (h.cnew k e).2.1, fun e2 => ?_, (h.cnew k e).2.2.2⟩, fun x hx => ?_⟩
 ·have := h.bl k e
  have := hk.size
  exact e1 k (by omega) (by omega) (nlow k (h.bl k e))
 ·rw [U.setCell_os]; exact A.grown.os.trans hk.os
 ·rw [U.setCell_tape]; exact A.grown.tape.trans hk.tape
 ·rw [U.setCell_output]; exact A.grown.output.trans hk.output
 ·rw [U.set_size]; exact Nat.le_trans hk.size hsz
 ·exact (e1 k (Nat.lt_of_lt_of_le hk1 hk.size) (by omega) (nlow k hk1)).trans (hk.block k hk1 hn)
 ·rcases hbo k e with x | x
  ·exact (h.vnew k x).1
  ·have := hk.size; omega
 ·rcases hbo k e with y | y
  ·exact (h.vnew k y).2.2 x hx
  ·have := some_lt (h.keep x hx).1; omega
 ·rcases hbo k e2 with y | y
  ·exact (h.cnew k e).2.2.1 y
  ·have := h.c.lt k e; omega
 ·obtain ⟨k1, k2, k3⟩ := h.keep x hx
  exact ⟨(e1 x.1 (some_lt k1) k3 (fun e => (h.vnew _ e).2.2 x hx rfl)).trans k1, k2, k3⟩
theorem RP.appC (h : RP w0 W g Z B b3 vo vn vc V co cn cc C F) {bo : Option Addr} {n2 c2 : Nat} {C2 : List Sn} (A : U.Ap W W2 co bo) (h2 : J.BR W2 bo n2 c2 C2) : RP w0 (W2.setCell ⟨b3, 1, none⟩ (.slice bo n2 c2)) g Z B b3 vo vn vc V bo n2 c2 C2 F := by
 have hg := h.gl
 have hb := h.b3n
 have hk := h.k
 have hsz := A.grown.size
 have hvo : ∀ k, k < W.heap.size → U.blk co ≠ some k → W2.heap[k]? = W.heap[k]? := fun k hk hn => A.grown.block k hk (fun e => hn e.symm)
 have nb3 : U.blk co ≠ some b3 := fun e => (h.cnew b3 e).2.1 rfl
 have nlow : ∀ k, k < w0.heap.size → U.blk co ≠ some k := fun k hk e => by have := (h.cnew k e).1; omega
 have e1 : ∀ k, k < W.heap.size → k ≠ b3 → U.blk co ≠ some k → (W2.setCell ⟨b3, 1, none⟩ (.slice bo n2 c2)).heap[k]? = W.heap[k]? := fun k hk h3 hn => (U.set_other W2 b3 1 k _ h3).trans (hvo k hk hn)
 have hbo : ∀ k, U.blk bo = some k → U.blk co = some k ∨ W.heap.size ≤ k := fun k e => by
  rcases A.lies with x | ⟨j, x, hj⟩
  ·exact .inl (x ▸ e)
  ·rw [x] at e; exact .inr (by have := Option.some.inj e; omega)
 have hbox : W2.heap[b3]? = some (.cells #[.slice vo vn vc, .slice co cn cc] 25 (0, 0)) := (hvo b3 (some_lt h.box) nb3).trans h.box
 have hb3 := some_lt h.box
 have bne : ∀ k, U.blk bo = some k → k ≠ b3 := fun k e e3 => by
  rcases hbo k e with x | x
  ·exact nb3 (e3 ▸ x)
  ·omega
 have nvc : ∀ k, U.blk vo = some k → U.blk co ≠ some k := fun k e e2 => (h.cnew k e2).2.2.1 e
 refine ⟨h.r.keep (e1 g h.r.lt (by omega) (nlow g hg)) (fun k e => ?_), h.gl, h.bl, ⟨?_, ?_, ?_, ?_, fun k hk1 hn => ?_⟩, U.set_heap W2 b3 _ _ _ 1 _ hbox, h.b3n, h.v.keep fun k e => e1 k (h.v.lt k e) (h.vnew k e).2.1 (nvc k e), h2.keep fun k e => U.set_other W2 b3 1 k _ (bne k e), h.vnew, fun k e => ⟨?_, bne k e, fun e2 => ?_, fun x hx => ?_⟩, fun x hx => ?_⟩
 ·have := h.bl k e
  have := hk.size
  exact e1 k (by omega) (by omega) (nlow k (h.bl k e))
 ·rw [U.setCell_os]; exact A.grown.os.trans hk.os
 ·rw [U.setCell_tape]; exact A.grown.tape.trans hk.tape
 ·rw [U.setCell_output]; exact A.grown.output.trans hk.output
 ·rw [U.set_size]; exact Nat.le_trans hk.size hsz
 ·exact (e1 k (Nat.lt_of_lt_of_le hk1 hk.size) (by omega) (nlow k hk1)).trans (hk.block k hk1 hn)
 ·rcases hbo k e with x | x
  ·exact (h.cnew k x).1
  ·have := hk.size; omega
 ·rcases hbo k e with y | y
  ·exact nvc k e2 y
  ·have := h.v.lt k e2; omega
 ·rcases hbo k e with y | y
  ·exact (h.cnew k y).2.2.2 x hx
  ·have := some_lt (h.keep x hx).1; omega
 ·obtain ⟨k1, k2, k3⟩ := h.keep x hx
  exact ⟨(e1 x.1 (some_lt k1) k3 (fun e => (h.cnew _ e).2.2.2 x hx rfl)).trans k1, k2, k3⟩
end Go.Proofs.YtphohmoibnoeaaaGreat
namespace Go.Proofs.YtphohmoibnoeaaaGreat
open Go.RowKit
variable {w w' w2 W W' W2 w0 : World} {g b3 : Nat} {Z : List Int} {B : Option Nat}
variable {vo co : Option Addr} {vn vc cn cc : Nat} {V : List Int} {C : List Sn} {F : List (Nat × Obj)}

theorem RP.start (R : RB w0 g Z B) (hB : ∀ k, B = some k → k < w0.heap.size) (b : Below w0.heap.size w0 W) (hF : ∀ x ∈ F, W.heap[x.1]? = some x.2 ∧ w0.heap.size ≤ x.1) :
  RP w0 (W.alloc (.cells #[.slice none 0 0, .slice none 0 0] 25)) g Z B W.heap.size none 0 0 [] none 0 0 [] F := by
 have hn := U.below_new W (.cells #[.slice none 0 0, .slice none 0 0] 25)
 have b2 := b.trans (hn.mono b.size)
 have hs := b.size
 refine ⟨R.below b2, R.lt, hB, U.Kg.of_below b2, heap_alloc_new W _, b.size, I.BR.nil _, J.BR.nil _, fun k e => (by cases e), fun k e => (by cases e), fun x hx => ?_⟩
 obtain ⟨k1, k2⟩ := hF x hx
 have h1 := some_lt k1
 exact ⟨(hn.block x.1 h1).trans k1, k2, by omega⟩
theorem RP.heldV (h : RP w0 W g Z B b3 vo vn vc V co cn cc C F) {bo : Option Addr} (A : U.Ap W W2 vo bo) : W2.heap[b3]? = some (.cells #[.slice vo vn vc, .slice co cn cc] 25 (0, 0)) ∧ ∀ x ∈ F, W2.heap[x.1]? = some x.2 :=
 ⟨(A.grown.block b3 (some_lt h.box) (fun e => (h.vnew b3 e.symm).2.1 rfl)).trans h.box, fun x hx => (A.grown.block x.1 (some_lt (h.keep x hx).1) (fun e => (h.vnew x.1 e.symm).2.2 x hx rfl)).trans (h.keep x hx).1⟩
theorem RP.heldC (h : RP w0 W g Z B b3 vo vn vc V co cn cc C F) {bo : Option Addr} (A : U.Ap W W2 co bo) : W2.heap[b3]? = some (.cells #[.slice vo vn vc, .slice co cn cc] 25 (0, 0)) ∧ ∀ x ∈ F, W2.heap[x.1]? = some x.2 :=
 ⟨(A.grown.block b3 (some_lt h.box) (fun e => (h.cnew b3 e.symm).2.1 rfl)).trans h.box, fun x hx => (A.grown.block x.1 (some_lt (h.keep x hx).1) (fun e => (h.cnew x.1 e.symm).2.2.2 x hx rfl)).trans (h.keep x hx).1⟩
theorem pbox_c0 {W : World} {b : Nat} {x y : Value} (h : W.heap[b]? = some (.cells #[x, y] 25 (0, 0))) : W.cell? ⟨b, 0, none⟩ = some x ∧ W.cell? ⟨b, 1, none⟩ = some y ∧ ∀ j, W.frozen? ⟨b, j, none⟩ = false :=
 ⟨by simp [World.cell?, h], by simp [World.cell?, h], fun j => by simp [World.frozen?, h]⟩
theorem rdVec_bad {n : Nat} (h : U.pNum 1000000000 Z = none) : rdVec (n + 1) Z = none := by rw [rdVec, h]
theorem rdVec_next {n v : Nat} {Z1 V : List Int} (h : U.pNum 1000000000 Z = some (v, Z1)) : (rdVec (n + 1) Z).map (fun x => (V ++ x.1, x.2)) = (rdVec n Z1).map (fun x => ((V ++ [(v : Int)]) ++ x.1, x.2)) := by
 rw [rdVec, h]
 simp only
 cases rdVec n Z1 with
 | none => rfl
 | some y => obtain ⟨a, b⟩ := y; simp
theorem rdCloud_bad {n : Nat} {T : Nat → Int} {r0 : Int} (h : plF T r0 Z = none) : rdCloud (n + 1) T r0 Z = none := by
 rw [rdCloud]
 unfold plF at h
 cases h1 : U.pNum (15 - r0) Z with
 | none => rfl
 | some y =>
  obtain ⟨a, Z1⟩ := y
  rw [h1] at h
  simp only at h ⊢
  cases h2 : U.pNum (1000000000 - (T (r0 + a).toNat + 2)) Z1 with
  | none => rfl
  | some y => rw [h2] at h; cases h
theorem plF_some {T : Nat → Int} {r0 a b : Int} {Z2 : List Int} (h : plF T r0 Z = some (a, b, Z2)) : r0 ≤ a ∧ a ≤ 15 ∧ T a.toNat + 2 ≤ b ∧ b ≤ 1000000000 := by
 unfold plF at h
 cases h1 : U.pNum (15 - r0) Z with
 | none => rw [h1] at h; cases h
 | some y =>
  obtain ⟨x, Z1⟩ := y
  rw [h1] at h
  simp only at h
  have l1 := pNum_le h1
  cases h2 : U.pNum (1000000000 - (T (r0 + x).toNat + 2)) Z1 with
  | none => rw [h2] at h; cases h
  | some y =>
   obtain ⟨z, Z3⟩ := y
   rw [h2] at h
   have l2 := pNum_le h2
   simp only [Option.some.injEq, Prod.mk.injEq] at h
   obtain ⟨rfl, rfl, _⟩ := h
   exact ⟨by omega, by omega, by omega, by omega⟩
theorem rdCloud_at {n : Nat} {T : Nat → Int} {r0 a b : Int} {Z2 : List Int} (h : plF T r0 Z = some (a, b, Z2)) : rdCloud (n + 1) T r0 Z = match U.pNum (1000000000 - b) Z2 with
  | none => none
  | some (c, Z3) => match rdCloud n (upd T a.toNat (b + c)) a Z3 with
   | none => none
   | some (L, R) => some (⟨a, b, b + c⟩ :: L, R) := by
 rw [rdCloud]
 unfold plF at h
 cases h1 : U.pNum (15 - r0) Z with
 | none => rw [h1] at h; cases h
 | some y =>
  obtain ⟨x, Z1⟩ := y
  rw [h1] at h
  simp only at h ⊢
  cases h2 : U.pNum (1000000000 - (T (r0 + x).toNat + 2)) Z1 with
  | none => rw [h2] at h; cases h
  | some y =>
   obtain ⟨z, Z3⟩ := y
   rw [h2] at h
   simp only [Option.some.injEq, Prod.mk.injEq] at h
   obtain ⟨rfl, rfl, rfl⟩ := h
   rfl
theorem rdCloud_bad2 {n : Nat} {T : Nat → Int} {r0 a b : Int} {Z2 : List Int} (h : plF T r0 Z = some (a, b, Z2)) (h2 : U.pNum (1000000000 - b) Z2 = none) : rdCloud (n + 1) T r0 Z = none := by rw [rdCloud_at h, h2]
theorem rdCloud_next {n c : Nat} {T : Nat → Int} {r0 a b : Int} {Z2 Z3 : List Int} {C : List Sn} (h : plF T r0 Z = some (a, b, Z2)) (h2 : U.pNum (1000000000 - b) Z2 = some (c, Z3)) :
  (rdCloud (n + 1) T r0 Z).map (fun x => (C ++ x.1, x.2)) = (rdCloud n (upd T a.toNat (b + c)) a Z3).map (fun x => ((C ++ [⟨a, b, b + c⟩]) ++ x.1, x.2)) := by
 rw [rdCloud_at h, h2]
 simp only
 cases rdCloud n (upd T a.toNat (b + c)) a Z3 with
 | none => rfl
 | some y => obtain ⟨L, R⟩ := y; simp
theorem room_next {T : Nat → Int} {r0 a b : Int} {cn c : Nat} (h : (cn : Int) ≤ r0 * 1000000001 + T r0.toNat) (hT : T r0.toNat ≤ 1000000000) (h0 : 0 ≤ r0) (h1 : r0 ≤ a) (h2 : T a.toNat + 2 ≤ b) (h3 : 0 ≤ b) : ((cn + 1 : Nat) : Int) ≤ a * 1000000001 + upd T a.toNat (b + c) a.toNat := by
 have e : upd T a.toNat (b + c) a.toNat = b + c := by unfold upd; rw [if_pos rfl]
 rw [e]
 by_cases x : a = r0
 ·subst x; omega
 ·omega
end Go.Proofs.YtphohmoibnoeaaaGreat
