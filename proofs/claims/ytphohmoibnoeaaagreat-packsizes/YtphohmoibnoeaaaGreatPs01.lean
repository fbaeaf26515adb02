/- PackSizes: the law. -/
import Derived.Test.YtphohmoibnoeaaaGreatTk
import Derived.Test.YtphohmoibnoeaaaGreatPb40
import Derived.Test.YtphohmoibnoeaaaGreatPb41
import Derived.Deep.CutRange
namespace Go.Proofs.YtphohmoibnoeaaaGreat
open Go.RowKit
attribute [local go_sem ↓] ldP_eq stP_eq
attribute [local go_sem] zero_PC cells_PV PC_size cells_CsV CsC_size
variable {w w' w2 W W' : World} {g gv gr : Nat} {Z : List Int}

structure CsP (w : World) (m : Cs) (E F : List K.En) : Prop where
 p : PSrc w m.p
 q : PSrc w m.q
 e : K.ESrc w m.eo m.en m.ec E
 f : K.ESrc w m.fo m.fn m.fc F
theorem vec_form {P : Pst} (h : InForm P) : InForm ⟨P.vec, []⟩ := ⟨h.1, trivial⟩
theorem vecB_min : ∀ V : List Int, V.length ≤ (vecB V).length
 | [] => Nat.zero_le _
 | x :: V => by
  have h1 := vecB_min V
  have h2 := numB_pos x.toNat
  unfold vecB at h1 ⊢
  rw [List.flatMap_cons, List.length_append, List.length_cons]
  unfold nB
  unfold nB at h1
  omega
theorem vec_size {P : Pst} (h : InForm P) : 2 + P.vec.length ≤ (pastB ⟨P.vec, []⟩).length ∧ (pastB ⟨P.vec, []⟩).length ≤ 2 + 5 * P.vec.length := by
 have h1 := inf_len h
 have h2 := vecB_min P.vec
 have h3 := vecB_len (V := P.vec) (inf_bd h)
 unfold pastB
 simp only [List.length_append, cloudB, List.length_nil]
 rw [U.numB_lt (by omega), U.numB_lt (by decide)]
 simp only [List.length_cons, List.length_nil]
 omega
theorem canon_form {P : Pst} {G : Nat → List Rn} (h : CanonOf G P) : InForm P := canon_iff.1 h.canon
structure SZc (w W : World) (G : Nat) (m : Cs) : Prop where
 box : CsBox W G m
 bel : Below w.heap.size w W
theorem SZc.below {G : Nat} {m : Cs} (h : SZc w W G m) (b : Below W.heap.size W W') : SZc w W' G m := ⟨h.box.below b, h.bel.trans (b.mono h.bel.size)⟩
def sumS : List K.En → Int
 | [] => 0
 | e :: t => 10 + (e.sku.size : Int) + sumS t
theorem sumS_snoc : ∀ (L : List K.En) (e : K.En), sumS (L ++ [e]) = sumS L + (10 + (e.sku.size : Int))
 | [], e => by simp [sumS]
 | a :: L, e => by have := sumS_snoc L e; simp only [List.cons_append, sumS]; omega
theorem ESpot {w : World} {ad : Addr} {n c : Nat} {L : List K.En} (h : K.ESrc w (some ad) n c L) (hn : 0 < n) : ∃ b o, ad = ⟨b, o, none⟩ := by
 have A := h.2.2.1 ad rfl 0 hn
 have hsp := World.cell?_spot A.c0
 rw [Nat.zero_mul, add_zero] at hsp
 obtain ⟨b, o, sp⟩ := ad
 have hsp : sp = none := hsp
 subst hsp
 exact ⟨b, o, rfl⟩
theorem EFlat {w : World} {b o : Nat} {e : K.En} (A : K.EnAt w ⟨b, o, none⟩ e) : w.cell? ⟨b, o, none⟩ = some (.int .i64 e.rep) ∧ w.cell? ⟨b, o + 1, none⟩ = some (.int .i64 e.num) ∧ w.cell? ⟨b, o + 2, none⟩ = some (.string e.sku) ∧ w.cell? ⟨b, o + 3, none⟩ = some (.int .i64 e.qty) := by
 have h1 := A.c1
 have h2 := A.c2
 have h3 := A.c3
 rw [Addr.add_lit] at h1 h2 h3
 exact ⟨A.c0, h1, h2, h3⟩
theorem EOne {w : World} {a : Addr} {e : K.En} (A : K.EnAt w a e) (hs : e.sku.size ≤ maxLen) : K.ESrc w (some a) 1 1 [e] := by
 refine ⟨rfl, (fun h => by cases h), fun ad h t ht => ?_, (fun x hx => by rw [List.mem_singleton.1 hx]; exact hs), by decide⟩
 obtain rfl := Option.some.inj h
 obtain rfl : t = 0 := by omega
 rw [Nat.zero_mul, add_zero]
 exact A
theorem sumS_bd : ∀ (L : List K.En), (∀ e ∈ L, e.sku.size ≤ 24) → 0 ≤ sumS L ∧ sumS L ≤ 34 * (L.length : Int)
 | [], _ => by simp [sumS]
 | a :: L, h => by
  have h1 := sumS_bd L (fun e he => h e (List.mem_cons_of_mem _ he))
  have h2 := h a List.mem_cons_self
  simp only [sumS, List.length_cons]
  omega
theorem ent_size : ∀ (L : List K.En) (T : Nat → Int) (r0 : Int), 0 ≤ r0 → EOk T r0 L → (∀ k, 0 ≤ T k) → ((entB T r0 L).length : Int) ≤ sumS L
 | [], _, _, _, _, _ => by simp [entB, sumS]
 | e :: t, T, r0, h0, h, hT => by
  obtain ⟨h1, h2, h3, h4, h5⟩ := h
  have i1 := ent_size t _ _ (by omega) h5 (fun k => by
   unfold upd
   split
   ·have := hT e.rep.toNat; omega
   ·exact hT k)
  have i2 := hT e.rep.toNat
  have j1 := U.numB_len 0 (e.rep - r0).toNat (by omega)
  have j2 := U.numB_len 4 (e.num - (T e.rep.toNat + 1)).toNat (by omega)
  have j3 := U.numB_len 2 (e.qty - 1).toNat (by omega)
  have j4 := U.numB_len 0 e.sku.size (by omega)
  have j5 : (U.strB e.sku).length = e.sku.size := by rw [← strS_len, strB_str]
  simp only [entB, nB, txB, sumS, List.length_append]
  omega
theorem ents_size {L : List K.En} (h : K.okN L L.length = true) : ((entsB L).length : Int) ≤ 10 + sumS L ∧ (L.length = 1 → ((entsB L).length : Int) ≤ 1 + sumS L) := by
 have h1 := (ok_eok h).1
 have h2 := ent_size L (fun _ => 0) 0 (Int.le_refl 0) h1 (fun k => Int.le_refl 0)
 have h3 := eOk_room L (fun _ => 0) 0 (Int.le_refl 0) (by decide) h1 (fun k => ⟨Int.le_refl 0, by decide⟩)
 have h4 := U.numB_len 8 L.length (by omega)
 have h5 : L.length = 1 → (U.numB L.length).length ≤ 1 := fun e => by rw [e]; exact U.numB_len 0 1 (by decide)
 unfold entsB
 rw [List.length_append]
 refine ⟨by omega, fun e => ?_⟩
 have := h5 e
 omega
theorem ok_one {L : List K.En} {n k : Nat} (h : K.okN L n = true) (hk : k < n) : K.okN [L.getD k K.en0] 1 = true := by
 unfold K.okN at h ⊢
 rw [List.all_eq_true] at h
 have h1 := h k (by simpa using hk)
 unfold K.okAt at h1
 simp only [List.range_one, List.all_cons, List.all_nil, Bool.and_true]
 unfold K.okAt
 simp at h1 ⊢
 exact h1.1
theorem sameE_iff {L M : List K.En} {y : Bool} (h2 : K.okN L L.length = true) (h3 : K.okN M M.length = true) (hy : y = true ↔ L = M) : ((strOfNums (entsB L)).toList == (strOfNums (entsB M)).toList) = y := by
 rw [Bool.eq_iff_iff, hy, beq_iff_eq]
 constructor
 ·intro h
  refine entsB_inj h2 h3 ?_
  have h1 := congrArg U.strB (list_ext h)
  rwa [strB_of (ob_ents _).oc, strB_of (ob_ents _).oc] at h1
 ·intro h; rw [h]
theorem same_iff {P Q N2 N3 N4 N5 : Pst} {y : Bool} (h2 : CanonOf (runsAt P) N2) (h3 : CanonOf (runsAt Q) N3) (h4 : CanonOf (runsAt P) N4) (h5 : CanonOf (runsAt Q) N5) (hy : y = true ↔ N4 = N5) : ((strOfNums (pastB N2)).toList == (strOfNums (pastB N3)).toList) = y := by
 have e4 : N4 = N2 := CanonOf.unique h4 h2 (fun _ _ _ => Iff.rfl)
 have e5 : N5 = N3 := CanonOf.unique h5 h3 (fun _ _ _ => Iff.rfl)
 rw [e4, e5] at hy
 rw [Bool.eq_iff_iff, hy, beq_iff_eq]
 constructor
 ·intro h
  refine pastB_inj (canon_form h2) (canon_form h3) ?_
  have h1 := congrArg U.strB (list_ext h)
  rwa [strB_of (ob_past _).oc, strB_of (ob_past _).oc] at h1
 ·intro h; rw [h]
set_option maxRecDepth 100000 in
set_option maxHeartbeats 8000000 in
theorem packSizes_any (m : Cs) (E F : List K.En) (w : World) (hS : CsP w m E F) (hcap : m.en ≤ m.ec) (hsl : ∀ e ∈ E, e.sku.size ≤ 140737488355328) :
  Calls Tryz.prog 7 #[CsV m] w fun e w' => e = .returned (.bool true) ∧ Below w.heap.size w w' := by
 have HS := hide hS
 have HSL := hide hsl
 have HX := hide (CsBox_new w m)
 have HB := hide (below_new w (.cells (CsC m) 30))
 clear hS hsl
 obtain ⟨wk, hwk⟩ : ∃ wk, w.alloc (.cells (CsC m) 30) = wk := ⟨_, rfl⟩
 obtain ⟨G, hG⟩ : ∃ G, w.heap.size = G := ⟨_, rfl⟩
 have HGw : Hid (G < wk.heap.size ∧ w.heap.size ≤ G) := ⟨by rw [← hwk, World.size_alloc]; omega, by omega⟩
 rw [hwk] at HX HB
 rw [hG] at HX
 go_enter Tryz.func7, Tryz.ntmps7
 go_wp2_with fail
 refine (fixed_any _).mono ?_
 rintro e w2 ⟨rfl, b2⟩
 have HK2 : Hid (SZc w w2 G m) := ⟨HX.out.below b2, HB.out.trans (b2.mono HB.out.size)⟩
 clear b2 HX HB hwk hG
 have l2 := run_ldP HK2.out.box.p
 go_wp2_with fail
 refine (refNorm_any m.p w2 (HS.out.p.below HK2.out.bel)).mono ?_
 rintro e w3 ⟨N, rfl, hN, hNn, b3, hC⟩
 have HF : Hid (InForm N.P) := canon_form hC
 obtain ⟨g3, hg3⟩ : ∃ g3, w3.heap.size = g3 := ⟨_, rfl⟩
 obtain ⟨w4, hr4, B4, b4, s4⟩ := madeP w3 N g3 hg3
 have HK4 := hide (HK2.out.below (b3.trans (b4.mono b3.size)))
 have c1 : w4.cell? ⟨g3, 1, none⟩ = some (.slice N.co N.cn N.cc) := by have := B4.at.c1; rwa [Addr.add_lit] at this
 have b5 : Below w3.heap.size w3 (w4.setCell ⟨g3, 1, none⟩ (.slice none 0 0)) := b4.trans ⟨U.setCell_os _ _ _, U.setCell_tape _ _ _, U.setCell_output _ _ _, by rw [U.set_size]; exact Nat.le_refl _, fun j hj => U.set_other w4 g3 1 j _ (by omega)⟩
 have B5 : PBox (w4.setCell ⟨g3, 1, none⟩ (.slice none 0 0)) g3 ⟨N.vo, N.vn, N.vc, none, 0, 0, ⟨N.P.vec, []⟩⟩ := U.set_heap w4 g3 _ _ _ 1 _ B4
 have S5 : PSrc (w4.setCell ⟨g3, 1, none⟩ (.slice none 0 0)) ⟨N.vo, N.vn, N.vc, none, 0, 0, ⟨N.P.vec, []⟩⟩ := ⟨hN.vec.below b5, SSrc.empty _, hN.big⟩
 have f1 : w4.frozen? ⟨g3, 1, none⟩ = false := by unfold PBox at B4; simp [World.frozen?, B4]
 obtain ⟨w5, hw5⟩ : ∃ w5, w4.setCell ⟨g3, 1, none⟩ (.slice none 0 0) = w5 := ⟨_, rfl⟩
 rw [hw5] at b5 B5 S5
 obtain ⟨N1, hN1⟩ : ∃ N1 : Pv, (⟨N.vo, N.vn, N.vc, none, 0, 0, ⟨N.P.vec, []⟩⟩ : Pv) = N1 := ⟨_, rfl⟩
 have hv1 : N1.P = ⟨N.P.vec, []⟩ ∧ N1.vn = N.P.vec.length := by rw [← hN1]; exact ⟨rfl, hN.vec.1.symm⟩
 rw [hN1] at B5 S5
 have HV := hide hv1
 have HX5 := hide B5
 have HS5 := hide S5
 have l5 := run_ldP B5.at
 have HK5 := hide (HK2.out.below (b3.trans (b5.mono b3.size)))
 clear hN hNn hC b4 b3 l2 b5 B5 S5 HK4 B4 hv1 hN1
 go_wp2_with fail
 clear hg3 hr4 c1 f1 hw5 s4
 refine (putPast_any N1 w5 HS5.out).mono ?_
 rintro e w6 (⟨hno, -, -⟩ | ⟨-, bo, cc, rfl, hR, hNw⟩)
 ·exact absurd (by rw [HV.out.1]; exact vec_form HF.out) hno
 have HK6 := hide (HK5.out.below hNw.1)
 have c0 : w6.cell? ⟨g3, 0, none⟩ = some (.slice N1.vo N1.vn N1.vc) := (HX5.out.below hNw.1).at.c0
 have hsz := vec_size HF.out
 rw [← HV.out.1, ← HV.out.2] at hsz
 have hv16 := inf_len HF.out
 rw [← HV.out.2] at hv16
 obtain ⟨n6, hn6⟩ : ∃ n6, (pastB N1.P).length = n6 := ⟨_, rfl⟩
 obtain ⟨v6, hv6⟩ : ∃ v6, N1.vn = v6 := ⟨_, rfl⟩
 rw [hn6] at hsz ⊢
 rw [hv6] at hsz hv16 c0
 have q1 : ¬ ((n6 : Nat) : Int) > 2 + 5 * (v6 : Int) := by omega
 have q2 : ¬ ((n6 : Nat) : Int) < 2 + (v6 : Int) := by omega
 have l6 := run_ldP HK6.out.box.p
 clear hR hNw hn6 hsz l5 hv6
 go_wp2_with fail
 clear c0 q1 q2 hv16
 refine (refNorm_any m.p w6 (HS.out.p.below HK6.out.bel)).mono ?_
 rintro e w7 ⟨N2, rfl, hN2, -, b7, hC2⟩
 have HK7 := hide (HK6.out.below b7)
 have HC2 := hide hC2
 have HP := hide (putPast_any N2 w7 hN2)
 clear hN2 b7 hC2 l6
 go_wp2_with fail
 refine HP.out.mono ?_
 rintro e w8 (⟨hno, -, -⟩ | ⟨-, bo8, cc8, rfl, hR, hNw⟩)
 ·exact absurd (canon_form HC2.out) hno
 have HK8 := hide (HK7.out.below hNw.1)
 have HR8 := hide hR
 have l8 := run_ldP HK8.out.box.q
 obtain ⟨n8, hn8⟩ : ∃ n8, (pastB N2.P).length = n8 := ⟨_, rfl⟩
 rw [hn8] at HR8 ⊢
 clear hR hNw hn8 HP
 go_wp2_with fail
 refine (refNorm_any m.q w8 (HS.out.q.below HK8.out.bel)).mono ?_
 rintro e w7b ⟨N3, rfl, hN3, -, b7, hC3⟩
 have HK7b := hide (HK8.out.below b7)
 have HC3 := hide hC3
 have HP := hide (putPast_any N3 w7b hN3)
 have HR8b := hide (HR8.out.below b7)
 clear hN3 b7 hC3 l8 HR8
 go_wp2_with fail
 refine HP.out.mono ?_
 rintro e w9 (⟨hno, -, -⟩ | ⟨-, bo9, cc9, rfl, hR, hNw⟩)
 ·exact absurd (canon_form HC3.out) hno
 have HK9 := hide (HK7b.out.below hNw.1)
 have HR9 := hide hR
 have HR8 := hide (HR8b.out.below hNw.1)
 obtain ⟨n9, hn9⟩ : ∃ n9, (pastB N3.P).length = n9 := ⟨_, rfl⟩
 rw [hn9] at HR9 ⊢
 clear hR hNw hn9 HP HR8b HK8 HK7 HK7b HK6 HK5 HX5 HS5 HV HF HK2
 go_upto_region 10 with fail
 go_cut [80] from 16 to 176 (fun x wx => x = .bool false ∧ Hid (SZc w wx G m))
 case first =>
  refine wp_region_held_drew (S := fun v => (ldP (.pointer (some ⟨G, 0, none⟩))).run Tryz.prog v = .ok (PV m.p) v ∧ (ldP (.pointer (some ⟨G, 2, none⟩))).run Tryz.prog v = .ok (PV m.q) v) (by kernel_rfl) (⟨run_ldP (HK9.out.box.below (below_drew1 w9)).p, run_ldP (HK9.out.box.below (below_drew1 w9)).q⟩) (fun hHeld => ?_)
  refine wTk 0 ⟨some 62, .move (.tmp 5), 32, "law.go:187", #[], none⟩ rfl ?_
  refine wTk 1 ⟨some 63, .binOp .neq 32 (.tmp 62) (.const (.int .i64 0)) 32, 4, "law.go:187", #[⟨0, .data⟩], none⟩ rfl ?_
  refine wTk 2 ⟨some 64, .move (.tmp 63), 4, "law.go:187", #[⟨1, .data⟩], none⟩ rfl ?_
  refine wTk 3 ⟨some 65, .move (.tmp 8), 32, "law.go:187", #[⟨2, .guard⟩], some (2, false)⟩ rfl ?_
  refine wTk 4 ⟨some 66, .binOp .neq 32 (.tmp 65) (.const (.int .i64 0)) 32, 4, "law.go:187", #[⟨3, .data⟩, ⟨2, .guard⟩], some (2, false)⟩ rfl ?_
  refine wTk 5 ⟨some 67, .pick (.tmp 64) (.const (.bool true)) (.tmp 66), 4, "law.go:187", #[⟨2, .data⟩, ⟨4, .data⟩], none⟩ rfl ?_
  refine wTk 6 ⟨some 68, .move (.tmp 67), 4, "law.go:187", #[⟨5, .data⟩, ⟨2, .chain⟩], none⟩ rfl ?_
  refine wTk 7 ⟨some 69, .move (.tmp 6), 28, "law.go:187", #[⟨6, .guard⟩], some (6, false)⟩ rfl ?_
  refine wTk 8 ⟨some 70, .move (.tmp 7), 28, "law.go:187", #[⟨6, .guard⟩], some (6, false)⟩ rfl ?_
  refine wTk 10 ⟨some 72, .fieldAddr 30 (.tmp 1) 0, 0, "law.go:187", #[⟨6, .guard⟩], some (6, false)⟩ rfl ?_
  refine wTk 11 ⟨some 73, .load 25 (.tmp 72), 25, "law.go:187", #[⟨10, .data⟩, ⟨6, .guard⟩], some (6, false)⟩ rfl ?_
  refine wTk 13 ⟨some 75, .fieldAddr 30 (.tmp 1) 1, 0, "law.go:187", #[⟨6, .guard⟩], some (6, false)⟩ rfl ?_
  refine wTk 14 ⟨some 76, .load 25 (.tmp 75), 25, "law.go:187", #[⟨13, .data⟩, ⟨6, .guard⟩], some (6, false)⟩ rfl ?_
  refine wpAnyH_ready (rs := [9]) (by kernel_rfl) (by simp) (.cons rfl (fun K hK => ?_) .nil)
  go_simp
  go_wp2_with fail
  refine (sameBytes_any bo8 bo9 n8 n9 cc8 cc9 _ _ _ (HR8.out.below (below_drew1 w9)).bs (HR9.out.below (below_drew1 w9)).bs).mono ?_
  rintro e w10 ⟨rfl, rfl⟩
  refine hK.out _ _ (⟨run_ldP (HK9.out.box.below (below_drew1 w9)).p, run_ldP (HK9.out.box.below (below_drew1 w9)).q⟩) (fun hHeld => ?_)
  clear hK K
  refine wpAnyH_ready (rs := [12]) (by kernel_rfl) (by simp) (.cons rfl (fun K hK => ?_) .nil)
  go_simp
  go_wp2_with fail
  refine (refNorm_any m.p _ (HS.out.p.below (HK9.out.bel.trans ((below_drew1 w9).mono HK9.out.bel.size)))).mono ?_
  rintro e w11 ⟨N4, rfl, hN4, -, b11, hC4⟩
  have hB11 : Below w9.heap.size w9 w11 := (below_drew1 w9).trans b11
  have HB11 := hide hB11
  have HN4 := hide hN4
  have HC4 := hide hC4
  refine hK.out _ _ (⟨run_ldP (HK9.out.box.below (hB11)).p, run_ldP (HK9.out.box.below (hB11)).q⟩) (fun hHeld => ?_)
  clear hK K hN4 b11 hC4 hB11
  refine wpAnyH_ready (rs := [15]) (by kernel_rfl) (by simp) (.cons rfl (fun K hK => ?_) .nil)
  go_simp
  go_wp2_with fail
  refine (refNorm_any m.q _ (HS.out.q.below (HK9.out.bel.trans (HB11.out.mono HK9.out.bel.size)))).mono ?_
  rintro e w12 ⟨N5, rfl, hN5, -, b12, hC5⟩
  have hB12 : Below w9.heap.size w9 w12 := HB11.out.trans (b12.mono HB11.out.size)
  have HB12 := hide hB12
  have HN5 := hide hN5
  have HC5 := hide hC5
  have HN4b := hide (HN4.out.below b12)
  refine hK.out _ _ (⟨run_ldP (HK9.out.box.below (hB12)).p, run_ldP (HK9.out.box.below (hB12)).q⟩) (fun hHeld => ?_)
  clear hK K hN5 b12 hC5 hB12
  refine wpAnyH_ready (rs := [16]) (by kernel_rfl) (by simp) (.cons rfl (fun K hK => ?_) .nil)
  go_simp
  go_wp2_with fail
  refine (samePast_any N4 N5 _ HN4b.out HN5.out).mono ?_
  rintro e w13 ⟨y, rfl, hy, b13⟩
  have hB13 : Below w9.heap.size w9 w13 := HB12.out.trans (b13.mono HB12.out.size)
  have HK13 := hide (HK9.out.below hB13)
  have hxy : ((strOfNums (pastB N2.P)).toList == (strOfNums (pastB N3.P)).toList) = y := same_iff (HC2.out) (HC3.out) HC4.out HC5.out hy
  refine hK.out _ _ (⟨run_ldP (HK9.out.box.below (hB13)).p, run_ldP (HK9.out.box.below (hB13)).q⟩) (fun hHeld => ?_)
  clear hK K b13 hB13
  rw [hxy]
  clear hxy hy
  cases y with
  | true =>
   refine wTk 17 ⟨some 79, .binOp .neq 4 (.tmp 71) (.tmp 78) 4, 4, "law.go:187", #[⟨9, .data⟩, ⟨16, .data⟩, ⟨6, .guard⟩], some (6, false)⟩ rfl ?_
   refine wTk 18 ⟨some 80, .pick (.tmp 68) (.const (.bool true)) (.tmp 79), 4, "law.go:187", #[⟨6, .data⟩, ⟨17, .data⟩], none⟩ rfl ?_
   refine wpAnyH_done (by kernel_rfl) ?_ _
   clear hHeld
   go_wp2_with fail
   go_meet
   case rel => exact ⟨rfl, HK13⟩
  | false =>
   refine wTk 17 ⟨some 79, .binOp .neq 4 (.tmp 71) (.tmp 78) 4, 4, "law.go:187", #[⟨9, .data⟩, ⟨16, .data⟩, ⟨6, .guard⟩], some (6, false)⟩ rfl ?_
   refine wTk 18 ⟨some 80, .pick (.tmp 68) (.const (.bool true)) (.tmp 79), 4, "law.go:187", #[⟨6, .data⟩, ⟨17, .data⟩], none⟩ rfl ?_
   refine wpAnyH_done (by kernel_rfl) ?_ _
   clear hHeld
   go_wp2_with fail
   go_meet
   case rel => exact ⟨rfl, HK13⟩
 case rest =>
  rename World => wz
  obtain ⟨rfl, HKz⟩ := hcut
  clear HK9 HR8 HR9 HC2 HC3
  go_wp2_with fail
  go_loopw [9, 10, 11, 12, 13] (fun s i _ _ _ wr => ∃ (x : Int) (k : Nat), s = .int .i64 x ∧ i = .int .i64 k ∧ k ≤ m.en ∧ Hid ((K.okN E m.en = true → x = sumS (E.take k)) ∧ SZc w wr G m)) (fun _ i _ _ _ _ => m.en - (intOf i).toNat)
  case atStart => exact ⟨0, 0, rfl, rfl, Nat.zero_le _, fun _ => rfl, HKz.out⟩
  case round =>
   obtain ⟨x, k, rfl, rfl, hk, HW⟩ := hrel
   rename World => wr
   have hbig := HS.out.e.2.2.2.2
   by_cases hlt : k < m.en
   ·have hlti : ((k : Nat) : Int) < (m.en : Int) := by omega
    obtain ⟨ad, had, hA⟩ := (HS.out.e.below HW.out.2.bel).at k hlt
    obtain ⟨b, o, rfl⟩ := ESpot (by have := HS.out.e.below HW.out.2.bel; rw [had] at this; exact this) (by omega)
    rw [Addr.add_lit] at hA
    have hF := EFlat hA
    have S1 := EOne hA
    have hsk := HS.out.e.sku k hlt
    obtain ⟨e, he⟩ : ∃ e, E.getD k K.en0 = e := ⟨_, rfl⟩
    rw [he] at S1 hF hsk
    have HE := hide he
    have HD := hide had
    have c4 := HW.out.2.box.e
    rw [had] at c4
    have HA := hide hA
    have cs := hF.2.2.1
    have HP := hide (putE_any (some ⟨b, o + k * 4, none⟩) 1 1 [e] wr (S1 hsk))
    have HS1 := hide (S1 hsk)
    have hc1 : k + 1 ≤ m.ec := by have := hcap; omega
    clear S1 hA he had
    go_wp2_with fail
    refine HP.out.mono ?_
    rintro e' w4 h4
    obtain ⟨e4, bo4, n4, cc4, rfl, b4, H4⟩ : ∃ (e4 : Int) (bo4 : Option Addr) (n4 cc4 : Nat), e' = .returned (.tuple #[.slice bo4 n4 cc4, .int .i64 e4]) ∧ Below wr.heap.size wr w4 ∧ Hid ((K.okN [e] 1 = true ∧ e4 = 0 ∧ (n4 : Int) ≤ 11 + (e.sku.size : Int)) ∨ (K.okN [e] 1 = false ∧ e4 = 1)) := by
     rcases h4 with ⟨hno, rfl, b4⟩ | ⟨hy, bo4, cc4, rfl, hR, hN⟩
     ·exact ⟨1, _, _, _, rfl, b4, .inr ⟨by simpa using hno, rfl⟩⟩
     ·refine ⟨0, bo4, _, cc4, rfl, hN.1, .inl ⟨hy, rfl, ?_⟩⟩
      have := (ents_size hy).2 rfl
      simp only [sumS] at this
      omega
    have HK4 := hide (HW.out.2.below b4)
    have HS4 := hide (HS1.out.below b4)
    have HA4 := hide (HA.out.on b4)
    clear h4 b4 HP c4 cs hF
    go_wp2_with fail
    refine (K.refEntries7_any _ 1 1 [e] w4 HS4.out).mono ?_
    rintro e' w5 ⟨rfl, b5⟩
    have HK5 := hide (HK4.out.below b5)
    have hF := EFlat (HA4.out.on b5)
    rw [HE.out] at hF
    have cs := hF.2.2.1
    have c4 := HK5.out.box.e
    rw [HD.out] at c4
    have hsz : e.sku.size ≤ 140737488355328 := HSL.out e (by rw [← HE.out, List.getD_eq_getElem?_getD, List.getElem?_eq_getElem (by rw [HS.out.e.1]; exact hlt)]; exact List.getElem_mem _)
    have hTk : Hid (E.take (k + 1) = E.take k ++ [e]) := by
     show _ = _
     rw [← HE.out]
     exact take_snocE E k (by rw [HS.out.e.1]; exact hlt)
    clear b5 HK4 HS4 HA4 HS1 HA hF hsk
    by_cases hall : K.okN E m.en = true
    ·have h1 : K.okN [e] 1 = true := by rw [← HE.out]; exact ok_one hall hlt
     have hx := HW.out.1 hall
     have hE24 : ∀ y ∈ E.take k, y.sku.size ≤ 24 := fun y hy => eOk_sku E _ _ (ok_eok (by rw [HS.out.e.1]; exact hall)).1 y (List.mem_of_mem_take hy)
     have hxb := sumS_bd _ hE24
     rw [← hx, List.length_take, HS.out.e.1] at hxb
     have hx1 : 0 ≤ x := hxb.1
     have hx2 : x ≤ 34 * 3518437208883 := by omega
     have hs24 : e.sku.size ≤ 24 := by
      have := eOk_sku E _ _ (ok_eok (by rw [HS.out.e.1]; exact hall)).1 e (by rw [← HE.out, List.getD_eq_getElem?_getD, List.getElem?_eq_getElem (by rw [HS.out.e.1]; exact hlt)]; exact List.getElem_mem _)
      exact this
     obtain ⟨rfl, h3⟩ : e4 = 0 ∧ (n4 : Int) ≤ 11 + (e.sku.size : Int) := by
      rcases H4.out with ⟨-, h2, h3⟩ | ⟨h2, -⟩
      ·exact ⟨h2, h3⟩
      ·rw [h1] at h2; cases h2
     rw [h1]
     have q : ¬ 11 + (e.sku.size : Int) < ((n4 : Nat) : Int) := by omega
     have HX := hide hx
     clear hall h1 hx hE24 hxb h3
     go_wp2_with fail
     all_goals try (exfalso; omega)
     exact ⟨⟨x + (10 + (e.sku.size : Int)), k + 1, rfl, rfl, by omega, ⟨fun _ => by rw [hTk.out, sumS_snoc, HX.out], HK5.out⟩⟩, by show m.en - (k + 1) < m.en - k; omega⟩
    ·have HNo := hide hall
     clear hall
     rcases H4.out with ⟨h1, rfl, h3⟩ | ⟨h1, rfl⟩
     ·rw [h1]
      have q : ¬ 11 + (e.sku.size : Int) < ((n4 : Nat) : Int) := by omega
      clear h1 h3
      go_wp2_with fail
      all_goals try (exfalso; omega)
      exact ⟨⟨_, k + 1, rfl, rfl, by omega, ⟨fun h => absurd h HNo.out, HK5.out⟩⟩, by show m.en - (k + 1) < m.en - k; omega⟩
     ·rw [h1]
      clear h1
      go_wp2_with fail
      exact ⟨⟨_, k + 1, rfl, rfl, by omega, ⟨fun h => absurd h HNo.out, HK5.out⟩⟩, by show m.en - (k + 1) < m.en - k; omega⟩
   ·have hlti : ¬ ((k : Nat) : Int) < (m.en : Int) := by omega
    have hke : k = m.en := by omega
    have HSum : Hid (K.okN E m.en = true → x = sumS E) := fun h => by
     have := HW.out.1 h
     rwa [hke, List.take_of_length_le (by rw [HS.out.e.1]; exact Nat.le_refl _)] at this
    have HKw : Hid (SZc w wr G m) := HW.out.2
    have c4 := HKw.out.box.e
    clear HW
    go_wp2_with fail
    refine (putE_any m.eo m.en m.ec E wr (HS.out.e.below HKw.out.bel)).mono ?_
    rintro e w3 h3
    obtain ⟨e3, bo3, n3, cc3, rfl, b3, H3⟩ : ∃ (e3 : Int) (bo3 : Option Addr) (n3 cc3 : Nat), e = .returned (.tuple #[.slice bo3 n3 cc3, .int .i64 e3]) ∧ Below wr.heap.size wr w3 ∧ Hid ((K.okN E m.en = true ∧ e3 = 0 ∧ (entsB E).length = n3 ∧ U.BR w3 bo3 n3 cc3 (entsB E)) ∨ (K.okN E m.en = false ∧ e3 = 1)) := by
     rcases h3 with ⟨hno, rfl, b3⟩ | ⟨hy, bo3, cc3, rfl, hR, hN⟩
     ·rw [HS.out.e.1] at hno
      exact ⟨1, _, _, _, rfl, b3, .inr ⟨by simpa using hno, rfl⟩⟩
     ·exact ⟨0, bo3, _, cc3, rfl, hN.1, .inl ⟨by rw [← HS.out.e.1]; exact hy, rfl, rfl, hR⟩⟩
    have HK3 := hide (HKw.out.below b3)
    have c5 := HK3.out.box.f
    clear h3 b3 HKw c4
    go_wp2_with fail
    refine (putE_any m.fo m.fn m.fc F w3 (HS.out.f.below HK3.out.bel)).mono ?_
    rintro e w4 h4
    obtain ⟨e4, bo4, n4, cc4, rfl, b4, H4⟩ : ∃ (e4 : Int) (bo4 : Option Addr) (n4 cc4 : Nat), e = .returned (.tuple #[.slice bo4 n4 cc4, .int .i64 e4]) ∧ Below w3.heap.size w3 w4 ∧ Hid ((K.okN F m.fn = true ∧ e4 = 0 ∧ U.BR w4 bo4 n4 cc4 (entsB F)) ∨ (K.okN F m.fn = false ∧ e4 = 1)) := by
     rcases h4 with ⟨hno, rfl, b4⟩ | ⟨hy, bo4, cc4, rfl, hR, hN⟩
     ·rw [HS.out.f.1] at hno
      exact ⟨1, _, _, _, rfl, b4, .inr ⟨by simpa using hno, rfl⟩⟩
     ·exact ⟨0, bo4, _, cc4, rfl, hN.1, .inl ⟨by rw [← HS.out.f.1]; exact hy, rfl, hR⟩⟩
    have HK4 := hide (HK3.out.below b4)
    have HB4 := hide b4
    have c4 := HK4.out.box.e
    clear h4 b4 HK3 c5
    go_wp2_with fail
    refine (K.refEntries7_any m.eo m.en m.ec E w4 (HS.out.e.below HK4.out.bel)).mono ?_
    rintro e w5 ⟨rfl, b5⟩
    have HK5 := hide (HK4.out.below b5)
    rcases H3.out with ⟨h1, rfl, h3, h3r⟩ | ⟨h1, rfl⟩
    ·rw [h1]
     have HOE : Hid (K.okN E E.length = true) := by show _ = _; rw [HS.out.e.1]; exact h1
     have HR3 := hide ((h3r.below HB4.out).below b5)
     have H5 : Hid ((K.okN F m.fn = true ∧ e4 = 0 ∧ U.BR w5 bo4 n4 cc4 (entsB F)) ∨ (K.okN F m.fn = false ∧ e4 = 1)) := by
      rcases H4.out with ⟨a1, a2, a3⟩ | a
      ·exact .inl ⟨a1, a2, a3.below b5⟩
      ·exact .inr a
     have hx := HSum.out h1
     have hsz := (ents_size HOE.out).1
     have hbd := sumS_bd E (fun y hy => eOk_sku E _ _ (ok_eok HOE.out).1 y hy)
     have hlE := HS.out.e.1
     rw [← hx] at hsz hbd
     rw [h3] at hsz
     have hx1 : 0 ≤ x := hbd.1
     have hx2 : x ≤ 34 * 3518437208883 := by omega
     have q : ¬ 10 + x < ((n3 : Nat) : Int) := by omega
     clear h1 h3 h3r b5 H3 H4 HK4 HB4 c4 hx hsz hbd hlE
     go_upto_region 27 with fail
     all_goals try (exfalso; omega)
     clear q
     refine wp_region_held_drew (S := fun v => v.cell? ⟨G, 4, none⟩ = some (.slice m.eo m.en m.ec) ∧ v.cell? ⟨G, 5, none⟩ = some (.slice m.fo m.fn m.fc)) (by kernel_rfl) (⟨(HK5.out.box.below (below_drew1 w5)).e, (HK5.out.box.below (below_drew1 w5)).f⟩) (fun hHeld => ?_)
     refine wTk 0 ⟨some 157, .fieldAddr 30 (.tmp 1) 3, 0, "law.go:207", #[], none⟩ rfl ?_
     refine wTk 1 ⟨some 158, .load 26 (.tmp 157), 26, "law.go:207", #[⟨0, .data⟩], none⟩ rfl ?_
     refine wpAnyH_ready (rs := [2]) (by kernel_rfl) (by simp) (.cons rfl (fun K hK => ?_) .nil)
     go_simp
     go_wp2_with fail
     refine (Go.Proofs.YtphohmoibnoeaaaGreat.K.refEntries7_any m.fo m.fn m.fc F _ (HS.out.f.below (HK5.out.bel.trans ((below_drew1 w5).mono HK5.out.bel.size)))).mono ?_
     rintro e w6 ⟨rfl, b6⟩
     have hB6 : Below w5.heap.size w5 w6 := (below_drew1 w5).trans b6
     have HB6 := hide hB6
     refine hK.out _ _ (⟨(HK5.out.box.below (hB6)).e, (HK5.out.box.below (hB6)).f⟩) (fun hHeld => ?_)
     clear hK K b6 hB6
     rcases H5.out with ⟨h1, rfl, h3⟩ | ⟨h1, rfl⟩
     ·have HOF : Hid (K.okN F F.length = true) := by show _ = _; rw [HS.out.f.1]; exact h1
      have HR4 := hide h3
      rw [h1]
      clear h1 h3 H5
      refine wTk 3 ⟨some 160, .unOp .not 4 (.tmp 159), 4, "law.go:207", #[⟨2, .data⟩], none⟩ rfl ?_
      refine wTk 4 ⟨some 161, .move (.tmp 160), 4, "law.go:207", #[⟨3, .data⟩, ⟨2, .chain⟩], none⟩ rfl ?_
      refine wTk 5 ⟨some 162, .move (.tmp 8), 32, "law.go:207", #[⟨4, .guard⟩], some (4, false)⟩ rfl ?_
      refine wTk 6 ⟨some 163, .binOp .eql 32 (.tmp 162) (.const (.int .i64 0)) 32, 4, "law.go:207", #[⟨5, .data⟩, ⟨4, .guard⟩], some (4, false)⟩ rfl ?_
      refine wTk 7 ⟨some 164, .move (.tmp 163), 4, "law.go:207", #[⟨6, .data⟩, ⟨4, .chain⟩, ⟨4, .guard⟩], some (4, false)⟩ rfl ?_
      refine wTk 8 ⟨some 165, .move (.tmp 14), 28, "law.go:207", #[⟨7, .guard⟩], some (7, true)⟩ rfl ?_
      refine wTk 9 ⟨some 166, .move (.tmp 15), 28, "law.go:207", #[⟨7, .guard⟩], some (7, true)⟩ rfl ?_
      refine wTk 11 ⟨some 168, .fieldAddr 30 (.tmp 1) 2, 0, "law.go:207", #[⟨7, .guard⟩], some (7, true)⟩ rfl ?_
      refine wTk 12 ⟨some 169, .load 26 (.tmp 168), 26, "law.go:207", #[⟨11, .data⟩, ⟨7, .guard⟩], some (7, true)⟩ rfl ?_
      refine wTk 13 ⟨some 170, .fieldAddr 30 (.tmp 1) 3, 0, "law.go:207", #[⟨7, .guard⟩], some (7, true)⟩ rfl ?_
      refine wTk 14 ⟨some 171, .load 26 (.tmp 170), 26, "law.go:207", #[⟨13, .data⟩, ⟨7, .guard⟩], some (7, true)⟩ rfl ?_
      refine wpAnyH_ready (rs := [10]) (by kernel_rfl) (by simp) (.cons rfl (fun K hK => ?_) .nil)
      go_simp
      go_wp2_with fail
      refine (sameBytes_any bo3 bo4 n3 n4 cc3 cc4 _ _ _ (HR3.out.below HB6.out).bs (HR4.out.below HB6.out).bs).mono ?_
      rintro e w7 ⟨rfl, rfl⟩
      refine hK.out _ _ (⟨(HK5.out.box.below (HB6.out)).e, (HK5.out.box.below (HB6.out)).f⟩) (fun hHeld => ?_)
      clear hK K
      refine wpAnyH_ready (rs := [15]) (by kernel_rfl) (by simp) (.cons rfl (fun K hK => ?_) .nil)
      go_simp
      go_wp2_with fail
      refine (sameEntries_any m.eo m.fo m.en m.fn m.ec m.fc E F _ (HS.out.e.below (HK5.out.bel.trans (HB6.out.mono HK5.out.bel.size))) (HS.out.f.below (HK5.out.bel.trans (HB6.out.mono HK5.out.bel.size)))).mono ?_
      rintro e w8 ⟨y, rfl, hy, b8⟩
      have hB8 : Below w5.heap.size w5 w8 := HB6.out.trans (b8.mono HB6.out.size)
      have HK8 := hide (HK5.out.below hB8)
      have hxy := sameE_iff HOE.out HOF.out hy
      refine hK.out _ _ (⟨(HK5.out.box.below (hB8)).e, (HK5.out.box.below (hB8)).f⟩) (fun hHeld => ?_)
      clear hK K b8 hB8
      rw [hxy]
      clear hxy hy
      cases y with
      | true =>
       refine wTk 16 ⟨some 173, .binOp .eql 4 (.tmp 167) (.tmp 172) 4, 4, "law.go:207", #[⟨10, .data⟩, ⟨15, .data⟩, ⟨7, .guard⟩], some (7, true)⟩ rfl ?_
       refine wTk 17 ⟨some 174, .pick (.tmp 164) (.tmp 173) (.const (.bool false)), 4, "law.go:207", #[⟨7, .data⟩, ⟨16, .data⟩, ⟨4, .guard⟩], some (4, false)⟩ rfl ?_
       refine wTk 18 ⟨some 175, .pick (.tmp 161) (.const (.bool true)) (.tmp 174), 4, "law.go:207", #[⟨4, .data⟩, ⟨17, .data⟩], none⟩ rfl ?_
       refine wTk 19 ⟨some 2, .assign (.tmp 175), 4, "law.go:207", #[⟨18, .data⟩, ⟨15, .chain⟩, ⟨0, .phase⟩, ⟨1, .phase⟩, ⟨2, .phase⟩, ⟨3, .phase⟩, ⟨4, .phase⟩, ⟨5, .phase⟩, ⟨6, .phase⟩, ⟨7, .phase⟩, ⟨8, .phase⟩, ⟨9, .phase⟩, ⟨10, .phase⟩, ⟨11, .phase⟩, ⟨12, .phase⟩, ⟨13, .phase⟩, ⟨14, .phase⟩, ⟨15, .phase⟩, ⟨16, .phase⟩, ⟨17, .phase⟩, ⟨18, .phase⟩], none⟩ rfl ?_
       refine wpAnyH_done (by kernel_rfl) ?_ _
       clear hHeld
       go_wp2_with fail
       go_ret
       exact ⟨rfl, HK8.out.bel⟩
      | false =>
       refine wTk 16 ⟨some 173, .binOp .eql 4 (.tmp 167) (.tmp 172) 4, 4, "law.go:207", #[⟨10, .data⟩, ⟨15, .data⟩, ⟨7, .guard⟩], some (7, true)⟩ rfl ?_
       refine wTk 17 ⟨some 174, .pick (.tmp 164) (.tmp 173) (.const (.bool false)), 4, "law.go:207", #[⟨7, .data⟩, ⟨16, .data⟩, ⟨4, .guard⟩], some (4, false)⟩ rfl ?_
       refine wTk 18 ⟨some 175, .pick (.tmp 161) (.const (.bool true)) (.tmp 174), 4, "law.go:207", #[⟨4, .data⟩, ⟨17, .data⟩], none⟩ rfl ?_
       refine wTk 19 ⟨some 2, .assign (.tmp 175), 4, "law.go:207", #[⟨18, .data⟩, ⟨15, .chain⟩, ⟨0, .phase⟩, ⟨1, .phase⟩, ⟨2, .phase⟩, ⟨3, .phase⟩, ⟨4, .phase⟩, ⟨5, .phase⟩, ⟨6, .phase⟩, ⟨7, .phase⟩, ⟨8, .phase⟩, ⟨9, .phase⟩, ⟨10, .phase⟩, ⟨11, .phase⟩, ⟨12, .phase⟩, ⟨13, .phase⟩, ⟨14, .phase⟩, ⟨15, .phase⟩, ⟨16, .phase⟩, ⟨17, .phase⟩, ⟨18, .phase⟩], none⟩ rfl ?_
       refine wpAnyH_done (by kernel_rfl) ?_ _
       clear hHeld
       go_wp2_with fail
       go_ret
       exact ⟨rfl, HK8.out.bel⟩
     ·have HK6 := hide (HK5.out.below HB6.out)
      rw [h1]
      clear h1 H5
      refine wTk 3 ⟨some 160, .unOp .not 4 (.tmp 159), 4, "law.go:207", #[⟨2, .data⟩], none⟩ rfl ?_
      refine wTk 4 ⟨some 161, .move (.tmp 160), 4, "law.go:207", #[⟨3, .data⟩, ⟨2, .chain⟩], none⟩ rfl ?_
      refine wSk 5 ⟨some 162, .move (.tmp 8), 32, "law.go:207", #[⟨4, .guard⟩], some (4, false)⟩ rfl ?_
      refine wSk 6 ⟨some 163, .binOp .eql 32 (.tmp 162) (.const (.int .i64 0)) 32, 4, "law.go:207", #[⟨5, .data⟩, ⟨4, .guard⟩], some (4, false)⟩ rfl ?_
      refine wSk 7 ⟨some 164, .move (.tmp 163), 4, "law.go:207", #[⟨6, .data⟩, ⟨4, .chain⟩, ⟨4, .guard⟩], some (4, false)⟩ rfl ?_
      refine wSk 8 ⟨some 165, .move (.tmp 14), 28, "law.go:207", #[⟨7, .guard⟩], some (7, true)⟩ rfl ?_
      refine wSk 9 ⟨some 166, .move (.tmp 15), 28, "law.go:207", #[⟨7, .guard⟩], some (7, true)⟩ rfl ?_
      refine wSk 10 ⟨some 167, .call ⟨.value (.func 11), #[.tmp 165, .tmp 166], #[28, 28]⟩, 4, "law.go:207", #[⟨8, .data⟩, ⟨9, .data⟩, ⟨7, .chain⟩, ⟨7, .guard⟩], some (7, true)⟩ rfl ?_
      refine wSk 11 ⟨some 168, .fieldAddr 30 (.tmp 1) 2, 0, "law.go:207", #[⟨7, .guard⟩], some (7, true)⟩ rfl ?_
      refine wSk 12 ⟨some 169, .load 26 (.tmp 168), 26, "law.go:207", #[⟨11, .data⟩, ⟨7, .guard⟩], some (7, true)⟩ rfl ?_
      refine wSk 13 ⟨some 170, .fieldAddr 30 (.tmp 1) 3, 0, "law.go:207", #[⟨7, .guard⟩], some (7, true)⟩ rfl ?_
      refine wSk 14 ⟨some 171, .load 26 (.tmp 170), 26, "law.go:207", #[⟨13, .data⟩, ⟨7, .guard⟩], some (7, true)⟩ rfl ?_
      refine wSk 15 ⟨some 172, .call ⟨.value (.func 22), #[.tmp 169, .tmp 171], #[26, 26]⟩, 4, "law.go:207", #[⟨12, .data⟩, ⟨14, .data⟩, ⟨10, .chain⟩, ⟨7, .guard⟩], some (7, true)⟩ rfl ?_
      refine wSk 16 ⟨some 173, .binOp .eql 4 (.tmp 167) (.tmp 172) 4, 4, "law.go:207", #[⟨10, .data⟩, ⟨15, .data⟩, ⟨7, .guard⟩], some (7, true)⟩ rfl ?_
      refine wSk 17 ⟨some 174, .pick (.tmp 164) (.tmp 173) (.const (.bool false)), 4, "law.go:207", #[⟨7, .data⟩, ⟨16, .data⟩, ⟨4, .guard⟩], some (4, false)⟩ rfl ?_
      refine wTk 18 ⟨some 175, .pick (.tmp 161) (.const (.bool true)) (.tmp 174), 4, "law.go:207", #[⟨4, .data⟩, ⟨17, .data⟩], none⟩ rfl ?_
      refine wTk 19 ⟨some 2, .assign (.tmp 175), 4, "law.go:207", #[⟨18, .data⟩, ⟨15, .chain⟩, ⟨0, .phase⟩, ⟨1, .phase⟩, ⟨2, .phase⟩, ⟨3, .phase⟩, ⟨4, .phase⟩, ⟨5, .phase⟩, ⟨6, .phase⟩, ⟨7, .phase⟩, ⟨8, .phase⟩, ⟨9, .phase⟩, ⟨10, .phase⟩, ⟨11, .phase⟩, ⟨12, .phase⟩, ⟨13, .phase⟩, ⟨14, .phase⟩, ⟨15, .phase⟩, ⟨16, .phase⟩, ⟨17, .phase⟩, ⟨18, .phase⟩], none⟩ rfl ?_
      refine wpAnyH_done (by kernel_rfl) ?_ _
      clear hHeld
      go_wp2_with fail
      go_ret
      exact ⟨rfl, HK6.out.bel⟩
    ·rw [h1]
     clear h1 b5 c4
     go_wp2_with fail
     go_ret
     exact ⟨rfl, HK5.out.bel⟩
end Go.Proofs.YtphohmoibnoeaaaGreat
