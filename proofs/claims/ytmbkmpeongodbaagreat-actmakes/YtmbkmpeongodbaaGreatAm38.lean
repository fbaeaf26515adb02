/- EKl -/
import Derived.Test.YtmbkmpeongodbaaGreatTk
import Derived.Test.YtmbkmpeongodbaaGreatAm33
import Derived.Test.YtmbkmpeongodbaaGreatAm34
import Derived.Test.YtmbkmpeongodbaaGreatAm37
import Derived.Test.YtmbkmpeongodbaaGreatAm09
import Derived.Deep.OwnRows
namespace Go.Proofs.YtmbkmpeongodbaaGreat
open Go.RowKit
theorem run_bldA1 (k : Int) (w : World) : (bldA #[(0, .int .i64 k)]).run Tryz.prog w = .ok (.agg (AcC (mkA k ⟨#[]⟩ 0 pv0))) w := by kernel_rfl
theorem run_bldA2 (k : Int) (p : Pv) (w : World) : (bldA #[(0, .int .i64 k), (3, .agg (PC p))]).run Tryz.prog w = .ok (.agg (AcC (mkA k ⟨#[]⟩ 0 p))) w := by kernel_rfl
theorem run_bldA4 (k : Int) (s : ByteArray) (p : Pv) (w : World) : (bldA #[(0, .int .i64 k), (1, .string s), (3, .agg (PC p))]).run Tryz.prog w = .ok (.agg (AcC (mkA k s 0 p))) w := by kernel_rfl
theorem zero_Ac1 : (#[.int .i64 0, .string ⟨#[]⟩, .int .i64 0, .slice none 0 0, .slice none 0 0] : Array Value) = AcC ac0 := rfl
def bsP (a : Array (Nat × Value)) : Sem Value := Instr.buildSlice 108 2 a
theorem bsP_eq (a : Array (Nat × Value)) : Instr.buildSlice 108 2 a = bsP a := rfl
theorem run_bsP (p q : Pv) (w : World) : (bsP #[(0, .agg (PC p)), (1, .agg #[.slice q.vo q.vn q.vc, .slice none 0 0])]).run Tryz.prog w = .ok (.slice (some ⟨w.heap.size, 0, none⟩) 2 2) (w.alloc (.cells #[.slice p.vo p.vn p.vc, .slice p.co p.cn p.cc, .slice q.vo q.vn q.vc, .slice none 0 0] 26)) := by kernel_rfl
def mkIn (a b : Value) : Sem Value := Instr.makeSlice 23 a b
theorem mkIn_eq (a b : Value) : Instr.makeSlice 23 a b = mkIn a b := rfl
def befZ (r : Nat) (v : Int) : List Int := (List.replicate (r + 1) 0).set r v
theorem run_mkIn (w : World) (q : Nat) (hq : q ≤ 17) : (mkIn (.int .i64 (q : Int)) (.int .i64 (q : Int))).run Tryz.prog w = .ok (.slice (some ⟨w.heap.size, 0, none⟩) q q) (w.alloc (.cells ((List.replicate q (0 : Int)).map (Value.int .i64)).toArray 3)) := by
 rw [← V.madeZeros]
 have hinfo : (Tryz.prog.info? 3).map (fun i => (i.zero, i.size, i.bytes)) = some (some (.int .i64 0), 1, 8) := by kernel_rfl
 exact run_make_row' (P := Tryz.prog) 23 3 (.int .i64 0) 8 Tryz.underlying23 hinfo rfl .i64 .i64 q (by omega) (by omega) w
theorem set_heapM (w : World) (g : Nat) (cs : Array Value) (t : TypeId) (f : Nat × Nat) (j : Nat) (v : Value) (h : w.heap[g]? = some (.cells cs t f)) : (w.setCell ⟨g, j, none⟩ v).heap[g]? = some (.cells (cs.setIfInBounds j v) t f) := by
 simp [World.setCell, h, Array.getElem?_modify, Array.setIfInBounds]
theorem befZ_at (r t : Nat) (v : Int) : (befZ r v).getD t 0 = if t = r then v else 0 := by
 unfold befZ
 by_cases e : t = r
 ·subst e
  rw [if_pos rfl]
  simp [List.getD]
 ·rw [if_neg e]
  simp only [List.getD, List.getElem?_set, if_neg (Ne.symm e)]
  by_cases h : t < r + 1
  ·simp [h]
  ·simp [h]
theorem bef_src (w : World) (g r : Nat) (v : Int) (hg : w.heap.size = g) : V.Src ((w.alloc (.cells ((List.replicate (r + 1) (0 : Int)).map (Value.int .i64)).toArray 3)).setCell ⟨g, r, none⟩ (.int .i64 v)) (some ⟨g, 0, none⟩) (r + 1) (r + 1) (befZ r v) := by
 subst hg
 refine ⟨by simp [befZ], (fun h => by cases h), fun ad h t ht => ?_⟩
 obtain rfl := Option.some.inj h
 have h1 := set_heapM _ w.heap.size _ _ _ r (.int .i64 v) (heap_alloc_new w (.cells ((List.replicate (r + 1) (0 : Int)).map (Value.int .i64)).toArray 3))
 rw [Addr.add_lit, Nat.zero_add, befZ_at]
 simp only [World.cell?, h1]
 by_cases e : t = r
 ·subst e; simp
 ·simp [e, Ne.symm e, ht]
theorem mem_app (a b : List Rn) (n : Int) : mem (a ++ b) n ↔ mem a n ∨ mem b n := by
 constructor
 ·rintro ⟨h1, h2, r, hr, h3⟩
  rcases List.mem_append.1 hr with hr | hr
  ·exact .inl ⟨h1, h2, r, hr, h3⟩
  ·exact .inr ⟨h1, h2, r, hr, h3⟩
 ·rintro (⟨h1, h2, r, hr, h3⟩ | ⟨h1, h2, r, hr, h3⟩)
  ·exact ⟨h1, h2, r, List.mem_append.2 (.inl hr), h3⟩
  ·exact ⟨h1, h2, r, List.mem_append.2 (.inr hr), h3⟩
def befP (g r : Nat) (v : Int) : Pv := ⟨some ⟨g, 0, none⟩, r + 1, r + 1, none, 0, 0, ⟨befZ r v, []⟩⟩
theorem join_mem {p : Pv} {g r : Nat} {v : Int} {Q : Pst} (h : CanonOf (runsOf [p, befP g r v]) Q) (y : Nat) (hy : y < 16) (n : Int) : mem (runsAt Q y) n ↔ mem (runsAt p.P y) n ∨ ((y : Int) = (r : Int) ∧ 1 ≤ n ∧ n ≤ 1000000000 ∧ n ≤ v) := by
 rw [canon_mem h y hy]
 show mem (runsAt p.P y ++ (runsAt (befP g r v).P y ++ [])) n ↔ _
 rw [List.append_nil, mem_app, mem_runs (befP g r v).P y hy]
 show _ ∨ (1 ≤ n ∧ n ≤ 1000000000 ∧ (n ≤ (befZ r v).getD y 0 ∨ ∃ c, c ∈ ([] : List Sn) ∧ _)) ↔ _
 rw [befZ_at]
 constructor
 ·rintro (h1 | ⟨h1, h2, h3 | ⟨c, hc, -⟩⟩)
  ·exact .inl h1
  ·by_cases e : y = r
   ·rw [if_pos e] at h3; exact .inr ⟨by rw [e], h1, h2, h3⟩
   ·rw [if_neg e] at h3; omega
  ·cases hc
 ·rintro (h1 | ⟨h0, h1, h2, h3⟩)
  ·exact .inl h1
  ·refine .inr ⟨h1, h2, .inl ?_⟩
   rw [if_pos (by omega)]; exact h3
theorem boxE_cs {w : World} {g : Nat} {T : TypeId} {e : K.En} (h : K.Box w g T e) : w.cell? ⟨g, 0, none⟩ = some (.int .i64 e.rep) ∧ w.cell? ⟨g, 1, none⟩ = some (.int .i64 e.num) ∧ w.cell? ⟨g, 2, none⟩ = some (.string e.sku) ∧ w.cell? ⟨g, 3, none⟩ = some (.int .i64 e.qty) := by
 unfold K.Box at h
 refine ⟨?_, ?_, ?_, ?_⟩ <;> simp [World.cell?, h, K.EC]
theorem rep_conv (x : Int) : RepOk (wrap64 ((IntKind.u64.wrap x).tmod 16)) := by
 have h0 : 0 ≤ IntKind.u64.wrap x := by rw [IntKind.wrap_u64]; omega
 have h1 := Int.tmod_nonneg 16 h0
 have h2 := Int.tmod_lt_of_pos (IntKind.u64.wrap x) (show (0 : Int) < 16 by decide)
 have h3 : wrap64 ((IntKind.u64.wrap x).tmod 16) = (IntKind.u64.wrap x).tmod 16 := by unfold wrap64; omega
 rw [h3]
 exact ⟨h1, h2⟩
attribute [local go_sem ↓] ldP_eq stP_eq ldFa_eq stFa_eq ldAc_eq stAc_eq ldD_eq stD_eq K.ld28_eq K.st28_eq bldA_eq bldP_eq bldE_eq bldLm_eq bsE_eq bsP_eq mkIn_eq
attribute [local go_sem] zero_PC cells_PV PC_size fold_PC cells_FaV FaC_size zero_Fa0 cells_AcV AcC_size zero_Ac1 cells_RV RC_size K.cells_EV K.EC_size K.zero_EC run_bldA1 run_bldA2 run_bldA3 run_bldA4 run_bldP1 run_bldEd run_bldLm run_bsE run_bsP
set_option maxRecDepth 100000 in
set_option maxHeartbeats 12800000 in
theorem actMakes_law (f : Fc) (rp : Int) (w : World) (hF : FcOk w f) :
  Calls Tryz.prog 5 #[FaV (mkF f), .int .i64 rp] w fun e w' => e = .returned (.bool true) ∧ Below w.heap.size w w' := by
 have HX := hide (FaBox_new w (mkF f))
 have HBK := hide (below_new w (.cells (FaC (mkF f)) 36))
 have HF := hide (hF.below HBK.out)
 have HFl : Hid (f.es.length = f.an ∧ f.rs.length = f.rn) := ⟨hF.es.1, hF.rs.len⟩
 clear hF
 obtain ⟨wk, hwk⟩ : ∃ wk, w.alloc (.cells (FaC (mkF f)) 36) = wk := ⟨_, rfl⟩
 obtain ⟨G, hG⟩ : ∃ G, w.heap.size = G := ⟨_, rfl⟩
 rw [hwk] at HX HBK HF
 rw [hG] at HX
 go_enter Tryz.func5, Tryz.ntmps5
 go_wp2_with fail
 clear hwk hG
 refine (known_any wk).mono ?_
 rintro e w1 ⟨rfl, b1⟩
 have HB1 := hide b1
 clear b1
 have l1 := run_ldP (HX.out.below HB1.out).past
 go_wp2_with fail
 clear l1
 refine (dots300_any f.p w1 (HF.out.p.below HB1.out)).mono ?_
 rintro e w2 ⟨ao, n, c, D, b, rfl, S2, hn, b2, hb⟩
 have HB2 := hide (HB1.out.trans (b2.mono HB1.out.size))
 have HD := hide S2
 have HDb := hide hb
 have HLn : Hid (D.length = n) := S2.len
 have Hn := hide hn
 clear S2 b2 hb HB1
 have lf := run_ldFa (HX.out.below HB2.out)
 go_wp2_with fail
 clear lf
 refine (refEvent_any f w2 (HF.out.below HB2.out)).mono ?_
 rintro e w3 ⟨z, rfl, hz, b3⟩
 have HB3 := hide (HB2.out.trans (b3.mono HB2.out.size))
 have HW3 := hide b3
 have HZ := hide hz
 clear b3 hz
 by_cases hz0 : z = 0
 rotate_left
 ·have hzb : (z != 0) = true := by simp [hz0]
  have lf := run_ldFa (HX.out.below HB3.out)
  go_wp2_with fail
  clear lf
  refine (actEvent_any f w3 (HF.out.below HB3.out)).mono ?_
  rintro e w4 ⟨z', rfl, hz', b4⟩
  obtain rfl : z' = z := hz'.unique HZ.out
  have HBf := hide (HBK.out.trans ((HB3.out.trans (b4.mono HB3.out.size)).mono HBK.out.size))
  clear hz' b4
  go_wp2_with fail
  go_ret
  exact ⟨rfl, HBf.out⟩
 subst hz0
 cases b with
 | false =>
  have lf := run_ldFa (HX.out.below HB3.out)
  go_wp2_with fail
  clear lf
  refine (actEvent_any f w3 (HF.out.below HB3.out)).mono ?_
  rintro e w4 ⟨z', rfl, hz', b4⟩
  obtain rfl : z' = 0 := hz'.unique HZ.out
  have HBf := hide (HBK.out.trans ((HB3.out.trans (b4.mono HB3.out.size)).mono HBK.out.size))
  clear hz' b4
  go_wp2_with fail
  go_ret
  exact ⟨rfl, HBf.out⟩
 | true =>
  have HDs := hide (HDb.out rfl)
  have HEv := hide (ev_form HZ.out)
  obtain ⟨gA, hgA⟩ : ∃ gA, w3.heap.size = gA := ⟨_, rfl⟩
  obtain ⟨w4, hst4, X4, B4, Z4⟩ := madeAc w3 (mkA 5 ⟨#[]⟩ 0 pv0) gA hgA
  have HB4 := hide (HB3.out.trans (B4.mono HB3.out.size))
  have HW4 := hide (HW3.out.trans (B4.mono HW3.out.size))
  have HXA := hide X4
  obtain ⟨gP, hgP⟩ : ∃ gP, w4.heap.size = gP := ⟨_, rfl⟩
  have l4 := run_ldP (HX.out.below HB4.out).past
  obtain ⟨w5, hst5, X5, B5, Z5⟩ := madeP w4 f.p gP hgP
  have HB5 := hide (HB4.out.trans (B5.mono HB4.out.size))
  have HW5 := hide (HW4.out.trans (B5.mono HW4.out.size))
  have HXA5 := hide (HXA.out.below B5)
  have HXP := hide X5
  have HgA : Hid (w2.heap.size ≤ gA ∧ gA < gP ∧ gP < w5.heap.size) := ⟨by have := HW3.out.size; omega, by omega, by omega⟩
  clear X4 B4 X5 B5 HXA Z4 Z5
  have HRv := hide (rep_conv rp)
  obtain ⟨c0, c3⟩ := (HX.out.below HB5.out).cs
  obtain ⟨hfo, hone⟩ := HEv.out
  have HFo := hide hfo
  rcases hone with ⟨han, hrn⟩ | ⟨han, hrn, k0, hk0, hlt0⟩ | ⟨han, hrn, hem⟩
  ·skip
   have hes : f.es = [] := List.length_eq_zero_iff.1 (by rw [HFl.out.1, han])
   have hrs : f.rs = [] := List.length_eq_zero_iff.1 (by rw [HFl.out.2, hrn])
   have HDD := hide (mk_clear (q := 0) (t := ⟨#[]⟩) (A := pv0.P) (s := ⟨#[65]⟩) HDs.out (by rw [HLn.out]; exact Hn.out) kn_good HFo.out.2.1 HRv.out hes hrs)
   rw [han] at c0
   rw [hrn] at c3
   clear hes hrs han hrn hfo
   go_wp2_with fail
   clear hst4 hgA hst5 hgP l4 c0 c3
   have HAt : Hid (∀ W, Below w5.heap.size w5 W → ∀ m, m < n → ∃ ad, ao = some ad ∧ RnAt W (ad.add (m * 2)) (D.getD m rn0)) := fun W hW m hm => ((HD.out.below HW5.out).below hW).at m hm
   go_loopw [13, 14] (fun v i wr => ∃ (m : Nat) (ap : Option Addr) (cc : Nat), m ≤ n ∧ v = .slice ap m cc ∧ i = .int .i64 (m : Int) ∧ Hid (K.OwnE w5.heap.size w5.heap.size w5 wr ap cc (mkL D ⟨#[65]⟩ m))) (fun _ i _ => n - (intOf i).toNat)
   case atStart => exact ⟨0, none, 0, Nat.zero_le _, rfl, rfl, K.OwnE.nil (Below.refl _ _) (Nat.le_refl _) (Nat.le_refl _)⟩
   case round =>
    obtain ⟨m, ap, cc, hm, rfl, rfl, HO⟩ := hrel
    rename World => wr
    have hml : (mkL D ⟨#[65]⟩ m).length = m := by unfold mkL; simp
    have hn3 := Hn.out
    by_cases hlt : m < n
    ·have hlti : (m : Int) < (n : Int) := Int.ofNat_lt.2 hlt
     obtain ⟨ad, hao, A0⟩ := HAt.out wr HO.out.below m hlt
     subst hao
     have ld := run_ldD A0
     obtain ⟨d, Hd⟩ : ∃ d, Hid (D.getD m rn0 = d) := ⟨_, rfl⟩
     have HSu := hide (mkL_succ D ⟨#[65]⟩ m)
     rw [show mkE D ⟨#[65]⟩ m = ⟨d.lo, d.hi, ⟨#[65]⟩, 1 + (m : Int)⟩ by unfold mkE; rw [Hd.out]] at HSu
     rw [Hd.out] at ld
     obtain ⟨acc, Hacc⟩ : ∃ acc, Hid (mkL D ⟨#[65]⟩ m = acc) := ⟨_, rfl⟩
     rw [Hacc.out] at HO HSu hml
     have HLa := hide hml
     have Hlt := hide hlt
     clear A0 hml hlt
     go_wp2_with (at_builtin; refine HO.out.append ⟨d.lo, d.hi, ⟨#[65]⟩, 1 + (m : Int)⟩ _ rfl (by have := HLa.out; omega) rfl (.tmp 119) (.tmp 128) rfl m HLa.out rfl rfl ?_; intro g4 c4 w4' O4 hk4; have HO4 := hide O4; clear O4 hk4)
     clear ld
     go_roundw
     case rel => exact ⟨m + 1, some ⟨g4, 0, none⟩, c4, Hlt.out, rfl, by simp, by rw [HSu.out]; exact HO4⟩
     case measure => simp [intOf]; have := Hlt.out; omega
    ·have hlti : ¬ (m : Int) < (n : Int) := by omega
     obtain rfl : m = n := by omega
     obtain ⟨hsr, -⟩ := HO.out.src (fun e he => by rw [(mkL_in he).1]; exact (by decide)) (by rw [hml]; omega)
     rw [hml] at hsr
     have HSr := hide hsr
     have HBr := hide (HB5.out.trans (HO.out.below.mono HB5.out.size))
     have lp := run_ldP (HXP.out.below HO.out.below).at
     have la := run_ldAc (HXA5.out.below HO.out.below)
     have HDc := hide (decide_any ap m cc (mkL D ⟨#[65]⟩ m) f.p (wrap64 ((IntKind.u64.wrap rp).tmod 16)) 1 1000000000 5 ⟨#[]⟩ 0 pv0 wr HSr.out ((HF.out.p.below HB5.out).below HO.out.below) ((PSrc.zero w5).below HO.out.below) (by decide) ⟨by decide, by decide⟩)
     clear hsr hml
     go_wp2_with fail
     clear lp la
     refine HDc.out.mono ?_
     rintro e wd ⟨g, er, rfl, Fd, -, bd, Dd⟩
     rw [← HLn.out] at Dd
     obtain ⟨rfl, hsf⟩ := Dd.one HDD.out
     have HSf := hide hsf
     obtain ⟨gd, hgd⟩ : ∃ gd, wd.heap.size = gd := ⟨_, rfl⟩
     obtain ⟨we, hste, Xe, Be, -⟩ := madeFa wd (mkF g) gd hgd
     have HBe := hide (HBr.out.trans ((bd.trans (Be.mono bd.size)).mono HBr.out.size))
     have HFd := hide (Fd.below Be)
     have lg := run_ldFa Xe
     have lh := run_ldFa (HX.out.below HBe.out)
     clear Fd bd Dd Xe Be hsf
     go_wp2_with fail
     clear hste hgd lg lh
     refine (facts_true g f we HFd.out (HF.out.below HBe.out) HSf.out).mono ?_
     rintro e wf ⟨rfl, bf⟩
     have HBf := hide (HBK.out.trans ((HBe.out.trans (bf.mono HBe.out.size)).mono HBK.out.size))
     clear bf
     go_wp2_with fail
     go_ret
     exact ⟨rfl, HBf.out⟩
  ·skip
   obtain ⟨e1, hes⟩ : ∃ e1, f.es = [e1] := by
    match hq : f.es, (by rw [HFl.out.1, han] : f.es.length = 1) with
    | [x], _ => exact ⟨x, rfl⟩
   have hrs : f.rs = [] := List.length_eq_zero_iff.1 (by rw [HFl.out.2, hrn])
   have hce : K.ceE e1 = 0 := chk_ce (chk_of HFl.out.1 HFo.out.1) e1 (by rw [hes]; exact List.mem_singleton.2 rfl)
   rw [hes] at hk0 hlt0
   replace hk0 : LastOf f.p.P e1.rep k0 := hk0
   replace hlt0 : k0 < e1.num := hlt0
   obtain ⟨ad, hao, A0⟩ := (HF.out.es.below HB5.out).at 0 (by rw [han]; decide)
   rw [hes, Nat.zero_mul, K.add_zero] at A0
   replace A0 : K.EnAt w5 ad e1 := A0
   have hsp := World.cell?_spot A0.c0
   obtain ⟨bb, oo, sp⟩ := ad
   have hsp2 : sp = none := hsp
   subst hsp2
   have HSku : Hid (e1.sku.size ≤ maxLen) := HF.out.es.2.2.2.1 e1 (by rw [hes]; exact List.mem_singleton.2 rfl)
   have hdo := ce_dot hce
   unfold okD dotOf V.isR at hdo
   simp only [Bool.and_eq_true, decide_eq_true_eq] at hdo
   obtain ⟨rN, hrN⟩ : ∃ rN : Nat, e1.rep = (rN : Int) := ⟨e1.rep.toNat, by omega⟩
   have hr16 : rN < 16 := by omega
   have HMk := hide (fun (Q : Pst) (hQ : InForm Q) hm => mk_set (A := pv0.P) (Q := Q) HDs.out (by rw [HLn.out]; exact Hn.out) HFo.out.2.1 hes hrs hce hk0 hlt0 hQ hm)
   have ld0 := K.run_ld28 A0
   obtain ⟨g6, hg6⟩ : ∃ g6, w5.heap.size = g6 := ⟨_, rfl⟩
   obtain ⟨w6, hst6, X6, B6, Z6⟩ := K.made w5 e1 g6 hg6
   rw [han, hao] at c0
   have HXA6 := HXA5.out.below B6
   obtain ⟨w7, hw7⟩ : ∃ w7, w6.setRow gA (AcC (mkA 1 e1.sku e1.qty pv0)) = w7 := ⟨_, rfl⟩
   have sta := run_stAc (m' := mkA 1 e1.sku e1.qty pv0) HXA6
   rw [hw7] at sta
   have HB7 : Hid (Below wk.heap.size wk w7) := by rw [← hw7]; exact below_setRow (HB5.out.trans (B6.mono HB5.out.size)) (by have := HB2.out.size; have := HgA.out.1; omega)
   have HW7 : Hid (Below w2.heap.size w2 w7) := by rw [← hw7]; exact below_setRow (HW5.out.trans (B6.mono HW5.out.size)) HgA.out.1
   have HXA7 : Hid (AcBox w7 gA (mkA 1 e1.sku e1.qty pv0)) := by rw [← hw7]; exact HXA6.setRow
   have HXP7 : Hid (PBox w7 gP f.p) := by rw [← hw7]; exact (setRow_other _ _ _ _ (by have := HgA.out; omega)).trans ((B6.block gP HgA.out.2.2).trans HXP.out)
   have X7 : K.Box w7 g6 46 e1 := by rw [← hw7]; exact (setRow_other _ _ _ _ (by have := HgA.out; omega)).trans X6
   have HX7 := hide X7
   have Hg7 : Hid (gP < w7.heap.size ∧ g6 < w7.heap.size) := ⟨HXP7.out.lt, X7.lt⟩
   obtain ⟨-, -, c62, c63⟩ := boxE_cs X6
   obtain ⟨c70, c71, c72, -⟩ := boxE_cs X7
   rw [hrN] at c70
   have hnum : 1 ≤ e1.num ∧ e1.num ≤ 1000000000 := hdo.2
   obtain ⟨g8, hg8⟩ : ∃ g8, w7.heap.size = g8 := ⟨_, rfl⟩
   obtain ⟨w8, hw8⟩ : ∃ w8, w7.alloc (.cells ((List.replicate (rN + 1) (0 : Int)).map (Value.int .i64)).toArray 3) = w8 := ⟨_, rfl⟩
   have hmk := run_mkIn w7 (rN + 1) (by omega)
   rw [hg8, hw8, show ((rN + 1 : Nat) : Int) = (rN : Int) + 1 by simp] at hmk
   have b8 : Below w7.heap.size w7 w8 := by rw [← hw8]; exact below_new w7 _
   obtain ⟨w9, hw9⟩ : ∃ w9, w8.setCell ⟨g8, rN, none⟩ (.int .i64 (e1.num - 1)) = w9 := ⟨_, rfl⟩
   have S9 : V.Src w9 (some ⟨g8, 0, none⟩) (rN + 1) (rN + 1) (befZ rN (e1.num - 1)) := by rw [← hw9, ← hw8]; exact bef_src w7 g8 rN _ hg8
   have c8 : w8.cell? ⟨g8, rN, none⟩ = some (.int .i64 0) := by rw [← hw8, ← hg8, World.cell?_alloc_new]; simp
   have z8 : w8.frozen? ⟨g8, rN, none⟩ = false := by rw [← hw8, ← hg8]; exact (World.rowIs_alloc w7 _ _ (fun _ => .int .i64 0) (fun i hi => by simp at hi; simp [show i < rN + 1 by omega])).frozen rN
   have b9 : Below w7.heap.size w7 w9 := by rw [← hw9]; exact V.below_setCell b8 (by show w7.heap.size ≤ g8; omega)
   have c81 := (b8.cell (World.block_lt_of_cell? _ _ c71)).trans c71
   have HB9 := hide (HB7.out.trans (b9.mono HB7.out.size))
   have HW9 := hide (HW7.out.trans (b9.mono HW7.out.size))
   have HXA9 := hide (HXA7.out.below b9)
   have HXP9 := hide (HXP7.out.below b9)
   have HS9 := hide S9
   have l9 := run_ldP (HX.out.below HB9.out).past
   obtain ⟨g10, hg10⟩ : ∃ g10, w9.heap.size = g10 := ⟨_, rfl⟩
   obtain ⟨w10, hw10⟩ : ∃ w10, w9.alloc (.cells #[.slice f.p.vo f.p.vn f.p.vc, .slice f.p.co f.p.cn f.p.cc, .slice (some ⟨g8, 0, none⟩) (rN + 1) (rN + 1), .slice none 0 0] 26) = w10 := ⟨_, rfl⟩
   have lbs := run_bsP f.p (befP g8 rN (e1.num - 1)) w9
   replace lbs : (bsP #[(0, .agg (PC f.p)), (1, .agg #[.slice (some ⟨g8, 0, none⟩) (rN + 1) (rN + 1), .slice none 0 0])]).run Tryz.prog w9 = .ok (.slice (some ⟨g10, 0, none⟩) 2 2) w10 := by rw [← hw10, ← hg10]; exact lbs
   have b10 : Below w9.heap.size w9 w10 := by rw [← hw10]; exact below_new w9 _
   have HRow : Hid (PRow w10 (some ⟨g10, 0, none⟩) 2 [f.p, befP g8 rN (e1.num - 1)]) := by
    refine prow_lit w10 g10 [f.p, befP g8 rN (e1.num - 1)] _ rfl 26 2 rfl (by rw [← hw10, ← hg10]; exact heap_alloc_new w9 _) (fun p hp => ?_)
    rcases List.mem_cons.1 hp with rfl | hp
    ·exact (HF.out.p.below HB9.out).below b10
    ·obtain rfl := List.mem_singleton.1 hp
     exact PSrc.below (w := w9) ⟨HS9.out, SSrc.empty w9, by show rN + 1 ≤ _; omega⟩ b10
   have Hwt : Hid (wt [f.p, befP g8 rN (e1.num - 1)] ≤ 8796093022207) := by
    have h1 := HF.out.p.cloud.big
    have h2 := HF.out.p.cloud.len
    show 1 + f.p.P.cloud.length + (1 + 0 + 0) ≤ _
    omega
   have HB10 := hide (HB9.out.trans (b10.mono HB9.out.size))
   have HW10 := hide (HW9.out.trans (b10.mono HW9.out.size))
   have HXA10 := hide (HXA9.out.below b10)
   have HXP10 := hide (HXP9.out.below b10)
   have Hs10 := hide b10.size
   clear hes hrs han hrn hfo hce hk0 hlt0 hdo A0 hao X6 B6 Z6 HXA6 X7 b8 b9 S9 b10 c3
   go_wp2_with fail
   clear hst4 hgA hst5 hgP l4 c0 ld0 hst6 hg6 hw7 sta c62 c63 c70 c71 c72 hmk hw8 hw9 c8 z8 c81 l9 hw10 lbs hg8 hg10
   refine (pastJoin_any (some ⟨g10, 0, none⟩) 2 2 [f.p, befP g8 rN (e1.num - 1)] _ HRow.out Hwt.out (by decide)).mono ?_
   rintro x w11 ⟨pj, rfl, Sj, Nj, bj, Cj⟩
   obtain ⟨w12, hw12⟩ : ∃ w12, w11.setRow gP (PC pj) = w12 := ⟨_, rfl⟩
   have stp := run_stP (p' := pj) (HXP10.out.below bj)
   rw [hw12] at stp
   have HB12 : Hid (Below wk.heap.size wk w12) := by rw [← hw12]; exact below_setRow (HB10.out.trans (bj.mono HB10.out.size)) (by have := HB2.out.size; have := HgA.out; omega)
   have HW12 : Hid (Below w2.heap.size w2 w12) := by rw [← hw12]; exact below_setRow (HW10.out.trans (bj.mono HW10.out.size)) (by have := HgA.out; omega)
   have HXA12 : Hid (AcBox w12 gA (mkA 1 e1.sku e1.qty pv0)) := by rw [← hw12]; exact (setRow_other _ _ _ _ (by have := HgA.out; omega)).trans (HXA10.out.below bj)
   have HXP12 : Hid (PBox w12 gP pj) := by rw [← hw12]; exact setRow_heap _ _ _ _ _ _ (HXP10.out.below bj)
   have HPj : Hid (PSrc w12 pj) := by
    have h1 := HXP10.out.lt
    rw [← hw12]; exact psrc_keep (g := some gP) Sj (fun k hk => by cases hk; exact PFar.new Nj h1) (fun q hq hne => setRow_other _ _ _ _ (fun e => hne (by rw [e])))
   have HDD : Hid (DeD (mkL D e1.sku D.length) pj.P (rN : Int) 1 1000000000 1 e1.sku e1.qty pv0.P f 0) := by
    have h := HMk.out pj.P (canon_iff.1 Cj.canon) (fun r hr n => by rw [hrN]; exact join_mem Cj r hr n)
    rw [hrN] at h
    exact h
   clear hrN Sj Nj bj Cj hw12 HMk
   go_wp2_with fail
   clear stp
   have HAt : Hid (∀ W, Below w12.heap.size w12 W → ∀ m, m < n → ∃ ad, ao = some ad ∧ RnAt W (ad.add (m * 2)) (D.getD m rn0)) := fun W hW m hm => ((HD.out.below HW12.out).below hW).at m hm
   go_loopw [13, 14] (fun v i wr => ∃ (m : Nat) (ap : Option Addr) (cc : Nat), m ≤ n ∧ v = .slice ap m cc ∧ i = .int .i64 (m : Int) ∧ Hid (K.OwnE w12.heap.size w12.heap.size w12 wr ap cc (mkL D e1.sku m))) (fun _ i _ => n - (intOf i).toNat)
   case atStart => exact ⟨0, none, 0, Nat.zero_le _, rfl, rfl, K.OwnE.nil (Below.refl _ _) (Nat.le_refl _) (Nat.le_refl _)⟩
   case round =>
    obtain ⟨m, ap, cc, hm, rfl, rfl, HO⟩ := hrel
    rename World => wr
    have hml : (mkL D e1.sku m).length = m := by unfold mkL; simp
    have hn3 := Hn.out
    by_cases hlt : m < n
    ·have hlti : (m : Int) < (n : Int) := Int.ofNat_lt.2 hlt
     obtain ⟨ad, hao, A0⟩ := HAt.out wr HO.out.below m hlt
     subst hao
     have ld := run_ldD A0
     obtain ⟨d, Hd⟩ : ∃ d, Hid (D.getD m rn0 = d) := ⟨_, rfl⟩
     have HSu := hide (mkL_succ D e1.sku m)
     rw [show mkE D e1.sku m = ⟨d.lo, d.hi, e1.sku, 1 + (m : Int)⟩ by unfold mkE; rw [Hd.out]] at HSu
     rw [Hd.out] at ld
     obtain ⟨acc, Hacc⟩ : ∃ acc, Hid (mkL D e1.sku m = acc) := ⟨_, rfl⟩
     rw [Hacc.out] at HO HSu hml
     have HLa := hide hml
     have Hlt := hide hlt
     clear A0 hml hlt
     go_wp2_with (at_builtin; refine HO.out.append ⟨d.lo, d.hi, e1.sku, 1 + (m : Int)⟩ _ rfl (by have := HLa.out; omega) rfl (.tmp 119) (.tmp 128) rfl m HLa.out rfl rfl ?_; intro g4 c4 w4' O4 hk4; have HO4 := hide O4; clear O4 hk4)
     clear ld
     go_roundw
     case rel => exact ⟨m + 1, some ⟨g4, 0, none⟩, c4, Hlt.out, rfl, by simp, by rw [HSu.out]; exact HO4⟩
     case measure => simp [intOf]; have := Hlt.out; omega
    ·have hlti : ¬ (m : Int) < (n : Int) := by omega
     obtain rfl : m = n := by omega
     obtain ⟨hsr, -⟩ := HO.out.src (fun e he => by rw [(mkL_in he).1]; exact HSku.out) (by rw [hml]; omega)
     rw [hml] at hsr
     have HSr := hide hsr
     have HBr := hide (HB12.out.trans (HO.out.below.mono HB12.out.size))
     have lp := run_ldP (HXP12.out.below HO.out.below).at
     have la := run_ldAc (HXA12.out.below HO.out.below)
     have HDc := hide (decide_any ap m cc (mkL D e1.sku m) pj (rN : Int) 1 1000000000 1 e1.sku e1.qty pv0 wr HSr.out (HPj.out.below HO.out.below) ((PSrc.zero w12).below HO.out.below) HSku.out ⟨by decide, by decide⟩)
     clear hsr hml
     go_wp2_with fail
     clear lp la
     refine HDc.out.mono ?_
     rintro e wd ⟨g, er, rfl, Fd, -, bd, Dd⟩
     rw [← HLn.out] at Dd
     obtain ⟨rfl, hsf⟩ := Dd.one HDD.out
     have HSf := hide hsf
     obtain ⟨gd, hgd⟩ : ∃ gd, wd.heap.size = gd := ⟨_, rfl⟩
     obtain ⟨we, hste, Xe, Be, -⟩ := madeFa wd (mkF g) gd hgd
     have HBe := hide (HBr.out.trans ((bd.trans (Be.mono bd.size)).mono HBr.out.size))
     have HFd := hide (Fd.below Be)
     have lg := run_ldFa Xe
     have lh := run_ldFa (HX.out.below HBe.out)
     clear Fd bd Dd Xe Be hsf
     go_wp2_with fail
     clear hste hgd lg lh
     refine (facts_true g f we HFd.out (HF.out.below HBe.out) HSf.out).mono ?_
     rintro e wf ⟨rfl, bf⟩
     have HBf := hide (HBK.out.trans ((HBe.out.trans (bf.mono HBe.out.size)).mono HBK.out.size))
     clear bf
     go_wp2_with fail
     go_ret
     exact ⟨rfl, HBf.out⟩
  ·skip
   have hes : f.es = [] := List.length_eq_zero_iff.1 (by rw [HFl.out.1, han])
   obtain ⟨rc, hrs⟩ : ∃ rc, f.rs = [rc] := by
    match hq : f.rs, (by rw [HFl.out.2, hrn] : f.rs.length = 1) with
    | [x], _ => exact ⟨x, rfl⟩
   have hR : RecOk rc := by
    have h := (hfo.2.2 0 (by rw [hrn]; decide)).1
    rw [hrs] at h
    exact h
   have HPr : Hid (PSrc wk rc.p) := (HF.out.rs.ok rc (by rw [hrs]; exact List.mem_singleton.2 rfl)).1
   have HSz : Hid (rc.s.size ≤ maxLen) := (HF.out.rs.ok rc (by rw [hrs]; exact List.mem_singleton.2 rfl)).2
   obtain ⟨ad, hao, A0⟩ := (HF.out.rs.below HB5.out).at 0 (by rw [hrn]; decide)
   rw [hrs, Nat.zero_mul, add_zero] at A0
   obtain ⟨b1, o1, rfl⟩ : ∃ b o, ad = ⟨b, o, none⟩ := by
    have hsp := World.cell?_spot A0.c0
    obtain ⟨b, o, sp⟩ := ad
    have hsp2 : sp = none := hsp
    subst hsp2
    exact ⟨b, o, rfl⟩
   have HA0 := hide (re_flat (r := rc) A0)
   have HAk : Hid (wk.cell? ⟨b1, o1, none⟩ = some (.string rc.s) ∧ True) := by
    obtain ⟨ad2, hao2, A2⟩ := HF.out.rs.at 0 (by rw [hrn]; decide)
    rw [hao] at hao2
    obtain rfl := Option.some.inj hao2
    rw [hrs, Nat.zero_mul, add_zero] at A2
    exact ⟨A2.c0, trivial⟩
   rw [han] at c0
   rw [hrn, hao] at c3
   have HC3 := hide c3
   have HDk := hide (mk_rec (q := 0) (s := ⟨#[65]⟩) HDs.out (by rw [HLn.out]; exact Hn.out) kn_good HFo.out.2.1 hem HRv.out hes hrs hR (k := 6) (t := ⟨#[]⟩))
   have HDk4 := hide (mk_rec (q := 0) (s := ⟨#[65]⟩) HDs.out (by rw [HLn.out]; exact Hn.out) kn_good HFo.out.2.1 hem HRv.out hes hrs hR (k := 4) (t := rc.s))
   obtain ⟨sc, pc⟩ := HA0.out
   have lpc := run_ldP pc
   clear hes hrs han hrn hfo hem A0 hao pc hR
   by_cases h0 : rc.s.size = 0
   ·skip
    have e0 := K.empty_yes rc.s h0
    have hse : rc.s = ⟨#[]⟩ := by
     have h1 : rc.s.data.toList = [] := List.eq_nil_of_length_eq_zero (by rw [Array.length_toList]; exact h0)
     cases hq : rc.s with
     | mk dd => rw [hq] at h1; simp at h1; rw [h1]
    have HDD := hide (HDk.out (.inr ⟨rfl, hse⟩))
    clear hse h0
    obtain ⟨w6, hw6⟩ : ∃ w6, w5.setRow gA (AcC (mkA 6 ⟨#[]⟩ 0 rc.p)) = w6 := ⟨_, rfl⟩
    have sta := run_stAc (m' := mkA 6 ⟨#[]⟩ 0 rc.p) HXA5.out
    rw [hw6] at sta
    have HB6 : Hid (Below wk.heap.size wk w6) := by rw [← hw6]; exact below_setRow HB5.out (by have := HB2.out.size; have := HgA.out.1; omega)
    have HW6 : Hid (Below w2.heap.size w2 w6) := by rw [← hw6]; exact below_setRow HW5.out HgA.out.1
    have HXA6 : Hid (AcBox w6 gA (mkA 6 ⟨#[]⟩ 0 rc.p)) := by rw [← hw6]; exact HXA5.out.setRow
    have HXP6 : Hid (PBox w6 gP f.p) := by rw [← hw6]; exact (setRow_other _ _ _ _ (by have := HgA.out; omega)).trans HXP.out
    have HPr6 : Hid (PSrc w6 rc.p) := HPr.out.below HB6.out
    clear hw6
    go_wp2_with fail
    clear hst4 hgA hst5 hgP l4 c0 c3 sta sc lpc e0
    have HAt : Hid (∀ W, Below w6.heap.size w6 W → ∀ m, m < n → ∃ ad, ao = some ad ∧ RnAt W (ad.add (m * 2)) (D.getD m rn0)) := fun W hW m hm => ((HD.out.below HW6.out).below hW).at m hm
    go_loopw [13, 14] (fun v i wr => ∃ (m : Nat) (ap : Option Addr) (cc : Nat), m ≤ n ∧ v = .slice ap m cc ∧ i = .int .i64 (m : Int) ∧ Hid (K.OwnE w6.heap.size w6.heap.size w6 wr ap cc (mkL D ⟨#[65]⟩ m))) (fun _ i _ => n - (intOf i).toNat)
    case atStart => exact ⟨0, none, 0, Nat.zero_le _, rfl, rfl, K.OwnE.nil (Below.refl _ _) (Nat.le_refl _) (Nat.le_refl _)⟩
    case round =>
     obtain ⟨m, ap, cc, hm, rfl, rfl, HO⟩ := hrel
     rename World => wr
     have hml : (mkL D ⟨#[65]⟩ m).length = m := by unfold mkL; simp
     have hn3 := Hn.out
     by_cases hlt : m < n
     ·have hlti : (m : Int) < (n : Int) := Int.ofNat_lt.2 hlt
      obtain ⟨ad, hao, A0⟩ := HAt.out wr HO.out.below m hlt
      subst hao
      have ld := run_ldD A0
      obtain ⟨d, Hd⟩ : ∃ d, Hid (D.getD m rn0 = d) := ⟨_, rfl⟩
      have HSu := hide (mkL_succ D ⟨#[65]⟩ m)
      rw [show mkE D ⟨#[65]⟩ m = ⟨d.lo, d.hi, ⟨#[65]⟩, 1 + (m : Int)⟩ by unfold mkE; rw [Hd.out]] at HSu
      rw [Hd.out] at ld
      obtain ⟨acc, Hacc⟩ : ∃ acc, Hid (mkL D ⟨#[65]⟩ m = acc) := ⟨_, rfl⟩
      rw [Hacc.out] at HO HSu hml
      have HLa := hide hml
      have Hlt := hide hlt
      clear A0 hml hlt
      go_wp2_with (at_builtin; refine HO.out.append ⟨d.lo, d.hi, ⟨#[65]⟩, 1 + (m : Int)⟩ _ rfl (by have := HLa.out; omega) rfl (.tmp 119) (.tmp 128) rfl m HLa.out rfl rfl ?_; intro g4 c4 w4' O4 hk4; have HO4 := hide O4; clear O4 hk4)
      clear ld
      go_roundw
      case rel => exact ⟨m + 1, some ⟨g4, 0, none⟩, c4, Hlt.out, rfl, by simp, by rw [HSu.out]; exact HO4⟩
      case measure => simp [intOf]; have := Hlt.out; omega
     ·have hlti : ¬ (m : Int) < (n : Int) := by omega
      obtain rfl : m = n := by omega
      obtain ⟨hsr, -⟩ := HO.out.src (fun e he => by rw [(mkL_in he).1]; exact (by decide)) (by rw [hml]; omega)
      rw [hml] at hsr
      have HSr := hide hsr
      have HBr := hide (HB6.out.trans (HO.out.below.mono HB6.out.size))
      have lp := run_ldP (HXP6.out.below HO.out.below).at
      have la := run_ldAc (HXA6.out.below HO.out.below)
      have HDc := hide (decide_any ap m cc (mkL D ⟨#[65]⟩ m) f.p (wrap64 ((IntKind.u64.wrap rp).tmod 16)) 1 1000000000 6 ⟨#[]⟩ 0 rc.p wr HSr.out ((HF.out.p.below HB6.out).below HO.out.below) (HPr6.out.below HO.out.below) (by decide) ⟨by decide, by decide⟩)
      clear hsr hml
      go_wp2_with fail
      clear lp la
      refine HDc.out.mono ?_
      rintro e wd ⟨g, er, rfl, Fd, -, bd, Dd⟩
      rw [← HLn.out] at Dd
      obtain ⟨rfl, hsf⟩ := Dd.one HDD.out
      have HSf := hide hsf
      obtain ⟨gd, hgd⟩ : ∃ gd, wd.heap.size = gd := ⟨_, rfl⟩
      obtain ⟨we, hste, Xe, Be, -⟩ := madeFa wd (mkF g) gd hgd
      have HBe := hide (HBr.out.trans ((bd.trans (Be.mono bd.size)).mono HBr.out.size))
      have HFd := hide (Fd.below Be)
      have lg := run_ldFa Xe
      have lh := run_ldFa (HX.out.below HBe.out)
      clear Fd bd Dd Xe Be hsf
      go_wp2_with fail
      clear hste hgd lg lh
      refine (facts_true g f we HFd.out (HF.out.below HBe.out) HSf.out).mono ?_
      rintro e wf ⟨rfl, bf⟩
      have HBf := hide (HBK.out.trans ((HBe.out.trans (bf.mono HBe.out.size)).mono HBK.out.size))
      clear bf
      go_wp2_with fail
      go_ret
      exact ⟨rfl, HBf.out⟩
   ·skip
    have e0 := K.empty_no rc.s h0
    have HDD := hide (HDk4.out (.inl ⟨rfl, rfl, h0⟩))
    clear h0
    go_upto_region 23 with fail
    clear hst4 hgA hst5 hgP l4 c0 c3 sc lpc e0
    have HDr := hide (HB5.out.trans ((below_drew1 w5).mono HB5.out.size))
    have HWr := hide (HW5.out.trans ((below_drew1 w5).mono HW5.out.size))
    have HXAr := hide (HXA5.out.below (below_drew1 w5))
    have HXPr := hide (HXP.out.below (below_drew1 w5))
    refine wp_region_held_drew (S := fun v => (v.cell? ⟨G, 3, none⟩ = some (.slice (some ⟨b1, o1, none⟩) 1 f.rc) ∧ v.cell? ⟨b1, o1, none⟩ = some (.string rc.s)) ∧ (ldP (.pointer (some ⟨b1, o1 + 1, none⟩))).run Tryz.prog v = .ok (PV rc.p) v) (by kernel_rfl) (⟨⟨by rw [(below_drew1 w5).cell (World.block_lt_of_cell? _ _ HC3.out)]; exact HC3.out, by rw [(below_drew1 w5).cell (World.block_lt_of_cell? _ _ HA0.out.1)]; exact HA0.out.1⟩, run_ldP ⟨by rw [(below_drew1 w5).cell (World.block_lt_of_cell? _ _ HA0.out.2.1)]; exact HA0.out.2.1, by rw [(below_drew1 w5).cell (World.block_lt_of_cell? _ _ HA0.out.2.2)]; exact HA0.out.2.2⟩⟩) (fun hHeld => ?_)
    refine wTk 0 ⟨some 102, .fieldAddr 36 (.tmp 2) 2, 0, "outright.go:113", #[], none⟩ rfl ?_
    refine wTk 1 ⟨some 103, .load 34 (.tmp 102), 34, "outright.go:113", #[⟨0, .data⟩], none⟩ rfl ?_
    refine wTk 2 ⟨some 104, .indexAddr 34 (.tmp 103) (.const (.int .i64 0)), 0, "outright.go:113", #[⟨1, .data⟩], none⟩ rfl ?_
    refine wTk 3 ⟨some 105, .fieldAddr 65 (.tmp 104) 0, 0, "outright.go:113", #[⟨2, .data⟩], none⟩ rfl ?_
    refine wTk 4 ⟨some 106, .load 9 (.tmp 105), 9, "outright.go:113", #[⟨3, .data⟩], none⟩ rfl ?_
    refine wTk 5 ⟨some 107, .fieldAddr 36 (.tmp 2) 2, 0, "outright.go:113", #[], none⟩ rfl ?_
    refine wTk 6 ⟨some 108, .load 34 (.tmp 107), 34, "outright.go:113", #[⟨5, .data⟩], none⟩ rfl ?_
    refine wTk 7 ⟨some 109, .indexAddr 34 (.tmp 108) (.const (.int .i64 0)), 0, "outright.go:113", #[⟨6, .data⟩], none⟩ rfl ?_
    refine wTk 8 ⟨some 110, .fieldAddr 65 (.tmp 109) 1, 0, "outright.go:113", #[⟨7, .data⟩], none⟩ rfl ?_
    refine wTk 9 ⟨some 111, .load 26 (.tmp 110), 26, "outright.go:113", #[⟨8, .data⟩], none⟩ rfl ?_
    refine wTk 10 ⟨some 112, .build 30 #[(0, .const (.int .i64 4)), (1, .tmp 106), (3, .tmp 111)], 30, "outright.go:113", #[⟨4, .data⟩, ⟨9, .data⟩], none⟩ rfl ?_
    have sta := run_stAc (m' := mkA 4 rc.s 0 rc.p) HXAr.out
    obtain ⟨w6, hw6⟩ : ∃ w6, w5.drew.setRow gA (AcC (mkA 4 rc.s 0 rc.p)) = w6 := ⟨_, rfl⟩
    rw [hw6] at sta
    have HB6 : Hid (Below wk.heap.size wk w6) := by rw [← hw6]; exact below_setRow HDr.out (by have := HB2.out.size; have := HgA.out.1; omega)
    have HW6 : Hid (Below w2.heap.size w2 w6) := by rw [← hw6]; exact below_setRow HWr.out HgA.out.1
    have HXA6 : Hid (AcBox w6 gA (mkA 4 rc.s 0 rc.p)) := by rw [← hw6]; exact HXAr.out.setRow
    have HXP6 : Hid (PBox w6 gP f.p) := by rw [← hw6]; exact (setRow_other _ _ _ _ (by have := HgA.out; omega)).trans HXPr.out
    have HPr6 : Hid (PSrc w6 rc.p) := HPr.out.below HB6.out
    have HBw : Hid (Below gA w5 w6) := by rw [← hw6]; exact below_setRow ((below_drew1 w5).mono (by have := HgA.out; omega)) (Nat.le_refl _)
    refine wpAnyH_ready (rs := [11]) (by kernel_rfl) (by simp) (.cons rfl (fun K hK => ?_) .nil)
    go_simp
    refine hK.out _ _ ?_ (fun hHeld => ?_)
    ·have q1 : G < gA ∧ b1 < gA := ⟨by have := HX.out.lt; have := HB2.out.size; have := HgA.out.1; omega, by have hh : b1 < wk.heap.size := World.block_lt_of_cell? _ _ HAk.out.1; have := HB2.out.size; have := HgA.out.1; omega⟩; exact ⟨⟨by rw [HBw.out.cell (show G < gA from q1.1)]; exact HC3.out, by rw [HBw.out.cell (show b1 < gA from q1.2)]; exact HA0.out.1⟩, run_ldP ⟨by rw [HBw.out.cell (show b1 < gA from q1.2)]; exact HA0.out.2.1, by rw [HBw.out.cell (show b1 < gA from q1.2)]; exact HA0.out.2.2⟩⟩
    clear hK K sta
    refine wpAnyH_done (by kernel_rfl) ?_ _
    clear hHeld
    go_wp2_with fail
    have HAt : Hid (∀ W, Below w6.heap.size w6 W → ∀ m, m < n → ∃ ad, ao = some ad ∧ RnAt W (ad.add (m * 2)) (D.getD m rn0)) := fun W hW m hm => ((HD.out.below HW6.out).below hW).at m hm
    go_loopw [13, 14] (fun v i wr => ∃ (m : Nat) (ap : Option Addr) (cc : Nat), m ≤ n ∧ v = .slice ap m cc ∧ i = .int .i64 (m : Int) ∧ Hid (K.OwnE w6.heap.size w6.heap.size w6 wr ap cc (mkL D ⟨#[65]⟩ m))) (fun _ i _ => n - (intOf i).toNat)
    case atStart => exact ⟨0, none, 0, Nat.zero_le _, rfl, rfl, K.OwnE.nil (Below.refl _ _) (Nat.le_refl _) (Nat.le_refl _)⟩
    case round =>
     obtain ⟨m, ap, cc, hm, rfl, rfl, HO⟩ := hrel
     rename World => wr
     have hml : (mkL D ⟨#[65]⟩ m).length = m := by unfold mkL; simp
     have hn3 := Hn.out
     by_cases hlt : m < n
     ·have hlti : (m : Int) < (n : Int) := Int.ofNat_lt.2 hlt
      obtain ⟨ad, hao, A0⟩ := HAt.out wr HO.out.below m hlt
      subst hao
      have ld := run_ldD A0
      obtain ⟨d, Hd⟩ : ∃ d, Hid (D.getD m rn0 = d) := ⟨_, rfl⟩
      have HSu := hide (mkL_succ D ⟨#[65]⟩ m)
      rw [show mkE D ⟨#[65]⟩ m = ⟨d.lo, d.hi, ⟨#[65]⟩, 1 + (m : Int)⟩ by unfold mkE; rw [Hd.out]] at HSu
      rw [Hd.out] at ld
      obtain ⟨acc, Hacc⟩ : ∃ acc, Hid (mkL D ⟨#[65]⟩ m = acc) := ⟨_, rfl⟩
      rw [Hacc.out] at HO HSu hml
      have HLa := hide hml
      have Hlt := hide hlt
      clear A0 hml hlt
      go_wp2_with (at_builtin; refine HO.out.append ⟨d.lo, d.hi, ⟨#[65]⟩, 1 + (m : Int)⟩ _ rfl (by have := HLa.out; omega) rfl (.tmp 119) (.tmp 128) rfl m HLa.out rfl rfl ?_; intro g4 c4 w4' O4 hk4; have HO4 := hide O4; clear O4 hk4)
      clear ld
      go_roundw
      case rel => exact ⟨m + 1, some ⟨g4, 0, none⟩, c4, Hlt.out, rfl, by simp, by rw [HSu.out]; exact HO4⟩
      case measure => simp [intOf]; have := Hlt.out; omega
     ·have hlti : ¬ (m : Int) < (n : Int) := by omega
      obtain rfl : m = n := by omega
      obtain ⟨hsr, -⟩ := HO.out.src (fun e he => by rw [(mkL_in he).1]; exact (by decide)) (by rw [hml]; omega)
      rw [hml] at hsr
      have HSr := hide hsr
      have HBr := hide (HB6.out.trans (HO.out.below.mono HB6.out.size))
      have lp := run_ldP (HXP6.out.below HO.out.below).at
      have la := run_ldAc (HXA6.out.below HO.out.below)
      have HDc := hide (decide_any ap m cc (mkL D ⟨#[65]⟩ m) f.p (wrap64 ((IntKind.u64.wrap rp).tmod 16)) 1 1000000000 4 rc.s 0 rc.p wr HSr.out ((HF.out.p.below HB6.out).below HO.out.below) (HPr6.out.below HO.out.below) HSz.out ⟨by decide, by decide⟩)
      clear hsr hml
      go_wp2_with fail
      clear lp la
      refine HDc.out.mono ?_
      rintro e wd ⟨g, er, rfl, Fd, -, bd, Dd⟩
      rw [← HLn.out] at Dd
      obtain ⟨rfl, hsf⟩ := Dd.one HDD.out
      have HSf := hide hsf
      obtain ⟨gd, hgd⟩ : ∃ gd, wd.heap.size = gd := ⟨_, rfl⟩
      obtain ⟨we, hste, Xe, Be, -⟩ := madeFa wd (mkF g) gd hgd
      have HBe := hide (HBr.out.trans ((bd.trans (Be.mono bd.size)).mono HBr.out.size))
      have HFd := hide (Fd.below Be)
      have lg := run_ldFa Xe
      have lh := run_ldFa (HX.out.below HBe.out)
      clear Fd bd Dd Xe Be hsf
      go_wp2_with fail
      clear hste hgd lg lh
      refine (facts_true g f we HFd.out (HF.out.below HBe.out) HSf.out).mono ?_
      rintro e wf ⟨rfl, bf⟩
      have HBf := hide (HBK.out.trans ((HBe.out.trans (bf.mono HBe.out.size)).mono HBK.out.size))
      clear bf
      go_wp2_with fail
      go_ret
      exact ⟨rfl, HBf.out⟩
end Go.Proofs.YtmbkmpeongodbaaGreat
