/- EFb EIr -/
import Derived.Test.YtmbkmpeongodbaaGreatAr31
import Derived.Test.YtmbkmpeongodbaaGreatAr39
import Derived.Test.YtmbkmpeongodbaaGreatAr40
import Derived.Test.YtmbkmpeongodbaaGreatAr36
namespace Go.Proofs.YtmbkmpeongodbaaGreat
open Go.RowKit
attribute [local go_sem ↓] ldP_eq stP_eq ldFa_eq stFa_eq K.ld28_eq K.st28_eq K.ld26_eq
attribute [local go_sem] cells_PV PC_size cells_FaV FaC_size K.zero_EC K.cells_EV K.EC_size
theorem wt_few {W : World} {R : List Rc} (hl : R.length ≤ 1) (hR : ∀ r ∈ R, RcOk W r) (s : ByteArray) : wt (ofS R s) ≤ 8796093022207 := by
 have h2 := ofS_len R s
 have h3 : ∀ p ∈ ofS R s, p.P.cloud.length ≤ 5864062014805 := fun p hp => by
  obtain ⟨r, hr, -, rfl⟩ := ofS_mem.1 hp
  have h := (hR r hr).1.cloud
  rw [h.len]; exact h.big
 match hX : ofS R s with
 | [] => simp [wt]
 | [p] =>
  have := h3 p (by rw [hX]; simp)
  simp only [wt]
  omega
 | _ :: _ :: _ => rw [hX] at h2; simp at h2; omega
set_option maxRecDepth 100000 in
set_option maxHeartbeats 3200000 in
theorem effect_any (ao : Option Addr) (n cap : Nat) (L : List K.En) (f : Fc) (w : World) (hS : K.ESrc w ao n cap L) (hF : FcOk w f) :
  Calls Tryz.prog 13 #[.slice ao n cap, FaV (mkF f)] w fun x w' => EfA w w' x L f := by
 have HX := hide (FaBox_new w (mkF f))
 have HBK := hide (below_new w (.cells (FaC (mkF f)) 36))
 have HF := hide (hF.below HBK.out)
 have HS := hide (hS.below HBK.out)
 have HL : Hid (L.length = n) := hS.1
 have hanb := hF.es.2.2.2.2
 have HAl : Hid (f.es.length = f.an ∧ f.rs.length = f.rn) := ⟨hF.es.1, hF.rs.len⟩
 clear hF hS
 obtain ⟨wk, hwk⟩ : ∃ wk, w.alloc (.cells (FaC (mkF f)) 36) = wk := ⟨_, rfl⟩
 obtain ⟨G, hG⟩ : ∃ G, w.heap.size = G := ⟨_, rfl⟩
 rw [hwk] at HX HBK HF HS
 rw [hG] at HX
 go_enter Tryz.func13, Tryz.ntmps13
 go_wp2_with fail
 clear hwk hG
 refine (K.lcheck_any ao n cap L _ HS.out).mono ?_
 rintro x w1 ⟨rfl, b1⟩
 have HB1 := hide b1
 clear b1
 rcases K.chk_cases L with hc | hc
 rotate_left
 ·have HE : Hid (EfA w w1 (.returned (.tuple #[.slice none 0 0, .int .i64 1])) L f) := ⟨_, _, _, _, _, rfl, K.ESrc.none _, HBK.out.trans (HB1.out.mono HBK.out.size), .inl ⟨by rw [hc]; decide, rfl, rfl⟩⟩
  rw [hc]
  clear hc
  go_wp2_with fail
  go_ret2
  exact HE.out
 rw [hc]
 have HC := hide hc
 clear hc
 have lf := run_ldFa (HX.out.below HB1.out)
 go_wp2_with fail
 clear lf
 refine (actEvent_any f w1 (HF.out.below HB1.out)).mono ?_
 rintro x w2 ⟨z, rfl, hz, b2⟩
 have HB2 := hide (HB1.out.trans (b2.mono HB1.out.size))
 have HEv := hide hz
 clear b2 hz HB1
 by_cases hz0 : z = 0
 rotate_left
 ·have HE : Hid (EfA w w2 (.returned (.tuple #[.slice none 0 0, .int .i64 z])) L f) := ⟨_, _, _, _, _, rfl, K.ESrc.none _, HBK.out.trans (HB2.out.mono HBK.out.size), .inr (.inl ⟨HC.out, HEv.out, hz0, rfl⟩)⟩
  have hzb : (z != 0) = true := by simp [hz0]
  clear hz0
  go_wp2_with fail
  go_ret2
  exact HE.out
 subst hz0
 have HFo := hide (ev_form HEv.out)
 have hle := one_le HFo.out.2
 have HXr := hide (HX.out.below HB2.out)
 have a2 := HXr.out.cs.1
 go_wp2_with fail
 clear a2
 go_loopw [27] (fun i wr => ∃ k : Nat, k ≤ f.an ∧ i = .int .i64 (k : Int) ∧ Hid (Below w2.heap.size w2 wr ∧ ∀ t, t < k → ∀ y ∈ L, K.sameDot y (f.es.getD t K.en0) = false)) (fun i _ => f.an - (intOf i).toNat)
 case atStart => exact ⟨0, Nat.zero_le _, rfl, Below.refl _ _, fun t h => absurd h (by omega)⟩
 case round =>
  obtain ⟨k, hk, rfl, HI⟩ := hrel
  rename World => wr
  by_cases hlt : k < f.an
  ·have hlti : (k : Int) < (f.an : Int) := by omega
   have HBr := hide (HB2.out.trans (HI.out.1.mono HB2.out.size))
   obtain ⟨ad, hao, A0⟩ := (HF.out.es.below HBr.out).at k hlt
   obtain ⟨e, He⟩ : ∃ e, Hid (f.es.getD k K.en0 = e) := ⟨_, rfl⟩
   rw [He.out] at A0
   have hld := K.run_ld28 A0
   obtain ⟨g7, hg7⟩ : ∃ g7, wr.heap.size = g7 := ⟨_, rfl⟩
   obtain ⟨w7, hst, X7, B7, -⟩ := K.made wr e g7 hg7
   have HB7 := hide (HBr.out.trans (B7.mono HBr.out.size))
   have HI7 := hide (HI.out.1.trans (B7.mono HI.out.1.size))
   have l7 := K.run_ld26 X7.at
   have HS7 := hide (HS.out.below HB7.out)
   have Hlt := hide hlt
   rw [hao]
   clear A0 X7 B7 hlt hk hao
   go_wp2_with fail
   clear hst hld l7 hg7
   refine (K.find_any ao n cap L e w7 HS7.out).mono ?_
   rintro x w8 ⟨q, rfl, hq, b8⟩
   obtain ⟨fe, Hfe⟩ : ∃ fe, Hid (K.fdE L q = fe) := ⟨_, rfl⟩
   rw [Hfe.out]
   obtain ⟨g9, hg9⟩ : ∃ g9, w8.heap.size = g9 := ⟨_, rfl⟩
   obtain ⟨w9, hst, X9, B9, -⟩ := K.made w8 fe g9 hg9
   have HB9 := hide (HI7.out.trans ((b8.trans (B9.mono b8.size)).mono HI7.out.size))
   clear X9 B9 b8 HB7 HI7 HS7 HBr
   rcases hq with ⟨rfl, hno⟩ | ⟨i, hi, rfl, hs, -⟩
   ·rw [show K.fdB (-1) = false from rfl]
    have HN : Hid (∀ t, t < k + 1 → ∀ y ∈ L, K.sameDot y (f.es.getD t K.en0) = false) := fun t ht y hy => by
     by_cases e1 : t = k
     ·rw [e1, He.out]
      obtain ⟨j, hj, rfl⟩ := List.getElem_of_mem hy
      have := hno j hj
      rwa [show L.getD j K.en0 = L[j] by simp [List.getD, List.getElem?_eq_getElem hj]] at this
     ·exact HI.out.2 t (by omega) y hy
    clear hno
    go_wp2_with fail
    clear hst hg9
    go_roundw
    case rel => exact ⟨k + 1, Hlt.out, by simp, HB9.out, HN.out⟩
    case measure => simp [intOf]; have := Hlt.out; omega
   ·have hfb : K.fdB (i : Int) = true := by unfold K.fdB; simp
    rw [hfb]
    have HE : Hid (EfA w w9 (.returned (.tuple #[.slice none 0 0, .int .i64 10])) L f) := by
     have hkl : k < f.es.length := by rw [HAl.out.1]; exact Hlt.out
     refine ⟨_, _, _, _, _, rfl, K.ESrc.none _, HBK.out.trans ((HB2.out.trans (HB9.out.mono HB2.out.size)).mono HBK.out.size), .inr (.inr (.inl ⟨HC.out, HEv.out, ⟨e, ?_, L.getD i K.en0, ?_, hs⟩, rfl, rfl⟩))⟩
     ·rw [← He.out, show f.es.getD k K.en0 = f.es[k] by simp [List.getD, List.getElem?_eq_getElem hkl]]
      exact List.getElem_mem hkl
     ·rw [show L.getD i K.en0 = L[i] by simp [List.getD, List.getElem?_eq_getElem hi]]
      exact List.getElem_mem hi
    clear hs hfb
    go_wp2_with fail
    go_ret2
    exact HE.out
  ·have hlti : ¬ (k : Int) < (f.an : Int) := by omega
   have HNC : Hid (¬ EfC L f) := by
    rintro ⟨a, ha, y, hy, hs⟩
    obtain ⟨j, hj, rfl⟩ := List.getElem_of_mem ha
    have h1 := HI.out.2 j (by have := HAl.out.1; omega) y hy
    rw [show f.es.getD j K.en0 = f.es[j] by simp [List.getD, List.getElem?_eq_getElem hj], hs] at h1
    cases h1
   have HB3 := hide (HB2.out.trans (HI.out.1.mono HB2.out.size))
   have l3 := run_ldP (HX.out.below HB3.out).past
   clear HI hlt hk
   go_wp2_with fail
   clear l3
   refine (outside_any ao n cap L f.p wr (HS.out.below HB3.out) (HF.out.p.below HB3.out)).mono ?_
   rintro x w4 (⟨-, -, a4, n4, c4, rfl, S4, b4, -⟩ | ⟨hno, -⟩)
   rotate_left
   ·exact absurd ⟨HC.out, HFo.out.1.2.1⟩ hno
   have HB4 := hide (HB3.out.trans (b4.mono HB3.out.size))
   have HS4 := hide S4
   clear S4 b4 HB3
   have r4 := (HX.out.below HB4.out).cs.2
   go_wp2_with fail
   clear r4
   refine (apply_any a4 f.ro n4 c4 f.rn f.rc _ f.rs w4 HS4.out (HF.out.rs.below HB4.out) (wt_few (by rw [HAl.out.2]; exact hle.2) (HF.out.rs.below HB4.out).ok) (by have h := HS4.out.2.2.2.2; have h2 : f.rn * (n4 + 1) ≤ 1 * (n4 + 1) := Nat.mul_le_mul_right _ hle.2; omega)).mono ?_
   rintro x w5 (⟨-, -, a5, n5, c5, rfl, S5, b5, -⟩ | ⟨hno, -⟩)
   rotate_left
   ·exact absurd ⟨filter_chkE HC.out, HFo.out.1.2.2⟩ hno
   have HB5 := hide (HB4.out.trans (b5.mono HB4.out.size))
   have HS5 := hide S5
   clear S5 b5 HB4 HS4
   have a5' := (HX.out.below HB5.out).cs.1
   go_wp2_with fail
   clear a5'
   refine (K.union_any a5 f.ao n5 c5 f.an f.ac _ f.es w5 HS5.out (HF.out.es.below HB5.out)).mono ?_
   rintro x w6 ⟨a6, n6, c6, U, er, rfl, S6, b6, hU⟩
   obtain ⟨rfl, hAs, hm⟩ := eff_union HC.out (chk_of HAl.out.1 HFo.out.1.1) HNC.out hU
   have HE : Hid (EfA w w6 (.returned (.tuple #[.slice a6 n6 c6, .int .i64 0])) L f) := ⟨a6, n6, c6, U, 0, rfl, S6, HBK.out.trans ((HB5.out.trans (b6.mono HB5.out.size)).mono HBK.out.size), .inr (.inr (.inr ⟨HC.out, HEv.out, HNC.out, rfl, hAs, hm⟩))⟩
   clear S6 b6 hU hAs hm
   go_wp2_with fail
   go_ret2
   exact HE.out
end Go.Proofs.YtmbkmpeongodbaaGreat
namespace Go.Proofs.YtmbkmpeongodbaaGreat
open Go.RowKit
def RdK (L Z : List K.En) (r k : Int) (s : ByteArray) (q : Int) (A : Pst) : Prop := (k = 1 ∧ K.good s.data.toList = true ∧ (K.lineOf Z s).qty = q ∧ (K.lineOf Z s).parts = 1 ∧ (flO Z r s).length = 1 ∧ noS L s = noS Z s) ∨ (k = 2 ∧ K.good s.data.toList = true ∧ (K.lineOf Z s).qty = (K.lineOf L s).qty + q ∧ (flO Z r s).length = 1 ∧ noS L s = noS Z s ∧ (1 ≤ q ∧ q ≤ 1000000)) ∨ (k = 3 ∧ K.good s.data.toList = true ∧ 0 < (K.lineOf L s).parts ∧ (K.lineOf Z s).parts = 0 ∧ noS L s = noS Z s) ∨ (k = 4 ∧ Z = ktL L s A) ∨ (k = 5 ∧ Z = []) ∨ (k = 6 ∧ Z = ktL L ⟨#[]⟩ A)
theorem reads_plain {L Z : List K.En} {P A : Pst} {r ln ct k : Int} {s : ByteArray} {q er : Int} {f : Fc} (h : DeD L P r ln ct k s q A f 0) (hl : f.es.length = f.an) (hm : f.rs.length = f.rn) (hZ : EfD L f Z er) : er = 0 ∧ K.chk Z = 0 ∧ RdK L Z r k s q A := by
 obtain ⟨hS, -, -, hk, hR⟩ := dec_ok h
 obtain ⟨-, -, -, hg, hq⟩ := ack_zero hk
 rcases hR with ⟨rfl, hR⟩ | ⟨rfl, hR⟩ | ⟨rfl, hR⟩ | ⟨rfl, hR⟩ | ⟨rfl, hR⟩ | ⟨rfl, hR⟩
 ·rcases hR with ⟨-, -, h⟩ | ⟨-, hR⟩
  ·exact absurd h (by decide)
  obtain ⟨h1, h2, h3⟩ := rd_set hS (hg (by decide)) (hq (by decide)) hR hl hm hZ
  exact ⟨h1, h2, .inl ⟨rfl, hg (by decide), h3⟩⟩
 ·rcases hR with ⟨-, -, h⟩ | ⟨-, -, -, h⟩ | ⟨-, hov, hR⟩
  ·exact absurd h (by decide)
  ·exact absurd h (by decide)
  obtain ⟨h1, h2, h3, h4, h5⟩ := rd_add hS (hg (by decide)) (hq (by decide)) hov hR hl hm hZ
  exact ⟨h1, h2, .inr (.inl ⟨rfl, hg (by decide), h3, h4, h5, hq (by decide)⟩)⟩
 ·rcases hR with ⟨-, -, h⟩ | ⟨hne, hR⟩
  ·exact absurd h (by decide)
  obtain ⟨h1, h2, h3⟩ := rd_rem hS.1 hne hR hl hm hZ
  exact ⟨h1, h2, .inr (.inr (.inl ⟨rfl, hg (by decide), h3⟩))⟩
 ·obtain ⟨h1, h2, h3⟩ := rd_rec hS.1 (by unfold skuR; rw [hg (by decide), Bool.or_true]) hR hl hm hZ
  exact ⟨h1, h2, .inr (.inr (.inr (.inl ⟨rfl, h3⟩)))⟩
 ·obtain ⟨h1, h2, h3⟩ := rd_clear hS.1 hR hl hm hZ
  exact ⟨h1, h2, .inr (.inr (.inr (.inr (.inl ⟨rfl, h3⟩))))⟩
 ·obtain ⟨h1, h2, h3⟩ := rd_rec hS.1 (by rfl) hR hl hm hZ
  exact ⟨h1, h2, .inr (.inr (.inr (.inr (.inr ⟨rfl, h3⟩))))⟩
theorem ln_fl {L : List K.En} {s : ByteArray} (hc : K.chk L = 0) (hg : K.good s.data.toList = true) : K.ofE L s = 0 ∧ K.lnV L s = K.lineOf L s := by
 have h := (of_fl hc hg).1
 exact ⟨h, by unfold K.lnV; rw [if_pos h]⟩
attribute [local go_sem ↓] ldP_eq stP_eq ldFa_eq stFa_eq ldAc_eq stAc_eq ldLm_eq stLm_eq K.ldL_eq K.stL_eq
attribute [local go_sem] cells_PV PC_size cells_FaV FaC_size zero_Fa0 cells_AcV AcC_size cells_LmV LmC_size K.cells_LV K.LC_size K.zero_LC
theorem zero_Ac0 : (#[.int .i64 0, .string ⟨#[]⟩, .int .i64 0, .slice none 0 0, .slice none 0 0] : Array Value) = AcC ac0 := rfl
attribute [local go_sem] zero_Ac0
set_option maxRecDepth 100000 in
set_option maxHeartbeats 12800000 in
theorem actReads_law (x : Wsh) (w : World) (hW : WshOk w x) :
  Calls Tryz.prog 4 #[WiV (mkW x)] w fun e w' => e = .returned (.bool true) ∧ Below w.heap.size w w' := by
 have HX := hide (WiBox_new w (mkW x))
 have HBK := hide (below_new w (.cells (WiC (mkW x)) 32))
 have HW := hide (hW.below HBK.out)
 clear hW
 obtain ⟨wk, hwk⟩ : ∃ wk, w.alloc (.cells (WiC (mkW x)) 32) = wk := ⟨_, rfl⟩
 obtain ⟨G, hG⟩ : ∃ G, w.heap.size = G := ⟨_, rfl⟩
 rw [hwk] at HX HBK HW
 rw [hG] at HX
 go_enter Tryz.func4, Tryz.ntmps4
 go_wp2_with fail
 clear hwk hG
 refine (known_any wk).mono ?_
 rintro e w1 ⟨rfl, b1⟩
 have HB1 := hide b1
 clear b1
 have l0 := (HX.out.below HB1.out).live
 have l1 := run_ldP (HX.out.below HB1.out).past
 have l2 := (HX.out.below HB1.out).rep
 have l3 := run_laLm (HX.out.below HB1.out).lim
 have l4 := run_laAc (HX.out.below HB1.out).act
 go_wp2_with fail
 clear l0 l1 l2 l3 l4
 refine (decide_any x.ao x.n x.c x.L x.p x.r x.ln x.ct x.k x.s x.q x.a w1 (HW.out.live.below HB1.out) (HW.out.p.below HB1.out) (HW.out.a.below HB1.out) HW.out.s HW.out.k).mono ?_
 rintro e w2 ⟨f, er, rfl, F2, -, b2, D2⟩
 have HD := hide D2
 obtain ⟨g3, hg3⟩ : ∃ g3, w2.heap.size = g3 := ⟨_, rfl⟩
 obtain ⟨w3, hst, X3, B3, -⟩ := madeFa w2 (mkF f) g3 hg3
 have HB3 := hide (HB1.out.trans ((b2.trans (B3.mono b2.size)).mono HB1.out.size))
 have HF := hide (F2.below B3)
 have HXf := hide X3
 have HFl : Hid (f.es.length = f.an ∧ f.rs.length = f.rn) := ⟨F2.es.1, F2.rs.len⟩
 clear F2 b2 D2 B3 X3 HB1
 by_cases he : er = 0
 rotate_left
 ·have heb : (er != 0) = true := by simp [he]
  have hno := dec_no HD.out he
  have han : f.an = 0 := by rw [← HFl.out.1, hno.1]; rfl
  have hrn : f.rn = 0 := by rw [← HFl.out.2, hno.2.2]; rfl
  have HE : Hid (EmptyP f.p.P) := by rw [hno.2.1]; exact zero_empty
  obtain ⟨c0, c3⟩ := HXf.out.cs
  rw [han] at c0
  rw [hrn] at c3
  have lp := run_ldP HXf.out.past
  clear hno han hrn he
  go_wp2_with fail
  clear hst hg3 c0 c3 lp heb
  refine (pastEmpty_any f.p _ HF.out.p).mono ?_
  rintro e w4 ⟨b, rfl, hb, b4⟩
  obtain rfl : b = true := hb.2 HE.out
  have HB4 := hide (HBK.out.trans ((HB3.out.trans (b4.mono HB3.out.size)).mono HBK.out.size))
  clear hb b4
  go_wp2_with fail
  go_ret
  exact ⟨rfl, HB4.out⟩
 subst he
 have l0 := (HX.out.below HB3.out).live
 have lf := run_ldFa HXf.out
 go_wp2_with fail
 clear hst hg3 l0 lf
 refine (effect_any x.ao x.n x.c x.L f w3 (HW.out.live.below HB3.out) HF.out).mono ?_
 rintro e w4 ⟨a4, n4, c4, Z, er, rfl, S4, b4, D4⟩
 obtain ⟨rfl, hck, hrd⟩ := reads_plain HD.out HFl.out.1 HFl.out.2 D4
 have HB4 := hide (HB3.out.trans (b4.mono HB3.out.size))
 have HZ := hide S4
 have HCk := hide hck
 have HR := hide hrd
 have HCL := hide (dec_ok HD.out).1.1
 have HRp := hide (dec_ok HD.out).2.1
 clear S4 b4 D4 hck hrd HB3 HF HXf HFl HD
 go_wp2_with fail
 refine (K.lcheck_any a4 n4 c4 Z w4 HZ.out).mono ?_
 rintro e w5 ⟨rfl, b5⟩
 rw [HCk.out]
 have HB5 := hide (HB4.out.trans (b5.mono HB4.out.size))
 have HZ5 := hide (HZ.out.below b5)
 clear b5 HB4 HZ
 have la := run_laAc (HX.out.below HB5.out).act
 obtain ⟨g6, hg6⟩ : ∃ g6, w5.heap.size = g6 := ⟨_, rfl⟩
 obtain ⟨w6, hst6, X6, B6, -⟩ := madeAc w5 (mkA x.k x.s x.q x.a) g6 hg6
 have HB6 := hide (HB5.out.trans (B6.mono HB5.out.size))
 have HZ6 := hide (HZ5.out.below B6)
 have HXa := hide X6
 clear B6 X6 HZ5
 have l0 := (HX.out.below HB6.out).live
 obtain ⟨-, l1, -⟩ := HXa.out.k
 go_wp2_with fail
 clear la hst6 hg6 l0 l1 HB5
 refine (K.line_any x.ao x.n x.c x.L x.s w6 (HW.out.live.below HB6.out) HW.out.s).mono ?_
 rintro e w7 ⟨rfl, b7⟩
 obtain ⟨v1, Hv1⟩ : ∃ v1, Hid (K.lnV x.L x.s = v1) := ⟨_, rfl⟩
 obtain ⟨e1, He1⟩ : ∃ e1, Hid (K.ofE x.L x.s = e1) := ⟨_, rfl⟩
 rw [Hv1.out, He1.out]
 obtain ⟨g8, hg8⟩ : ∃ g8, w7.heap.size = g8 := ⟨_, rfl⟩
 obtain ⟨w8, hst8, X8, B8, -⟩ := K.madeL w7 v1 g8 hg8
 have HB8 := hide (HB6.out.trans ((b7.trans (B8.mono b7.size)).mono HB6.out.size))
 have HZ8 := hide ((HZ6.out.below b7).below B8)
 have HXa8 := hide ((HXa.out.below b7).below B8)
 have HX1 := hide X8
 clear b7 B8 X8 HZ6 HXa HB6
 obtain ⟨-, l1, -⟩ := HXa8.out.k
 go_wp2_with fail
 clear hst8 hg8 l1
 refine (K.line_any a4 n4 c4 Z x.s w8 HZ8.out HW.out.s).mono ?_
 rintro e w9 ⟨rfl, b9⟩
 obtain ⟨v2, Hv2⟩ : ∃ v2, Hid (K.lnV Z x.s = v2) := ⟨_, rfl⟩
 obtain ⟨e2, He2⟩ : ∃ e2, Hid (K.ofE Z x.s = e2) := ⟨_, rfl⟩
 rw [Hv2.out, He2.out]
 obtain ⟨g10, hg10⟩ : ∃ g10, w9.heap.size = g10 := ⟨_, rfl⟩
 obtain ⟨w10, hst10, X10, B10, -⟩ := K.madeL w9 v2 g10 hg10
 have HB10 := hide (HB8.out.trans ((b9.trans (B10.mono b9.size)).mono HB8.out.size))
 have HZ10 := hide ((HZ8.out.below b9).below B10)
 have HXa10 := hide ((HXa8.out.below b9).below B10)
 have HX1b := hide ((HX1.out.below b9).below B10)
 have HX2 := hide X10
 clear b9 B10 X10 HZ8 HXa8 HB8 HX1
 obtain ⟨-, l1, -⟩ := HXa10.out.k
 have l2 := (HX.out.below HB10.out).rep
 go_wp2_with fail
 clear hst10 hg10 l1 l2
 refine (K.own_any a4 n4 c4 Z x.r x.s w10 HZ10.out HW.out.s).mono ?_
 rintro e w11 ⟨a11, n11, c11, rfl, S11, b11, -⟩
 obtain ⟨e3, He3⟩ : ∃ e3, Hid (K.owE Z x.r x.s = e3) := ⟨_, rfl⟩
 rw [He3.out]
 have HB11 := hide (HB10.out.trans (b11.mono HB10.out.size))
 have HBf := hide (HBK.out.trans (HB11.out.mono HBK.out.size))
 have HZ11 := hide (HZ10.out.below b11)
 have HXa11 := hide (HXa10.out.below b11)
 have HX1c := hide (HX1b.out.below b11)
 have HX2c := hide (HX2.out.below b11)
 have HS11 := hide S11
 have HL11 := hide (HW.out.live.below HB11.out)
 clear b11 S11 HZ10 HXa10 HB10 HX1b HX2
 obtain ⟨k0, k1, k2⟩ := HXa11.out.k
 have q1 : w11.cell? ⟨g10, 1, none⟩ = some (.int .i64 v2.qty) := HX2c.out.at.c1
 have q2 : w11.cell? ⟨g10, 2, none⟩ = some (.int .i64 v2.parts) := HX2c.out.at.c2
 have q3 : w11.cell? ⟨g8, 1, none⟩ = some (.int .i64 v1.qty) := HX1c.out.at.c1
 have q4 : w11.cell? ⟨g8, 2, none⟩ = some (.int .i64 v1.parts) := HX1c.out.at.c2
 have l0 := (HX.out.below HB11.out).live
 have lp := run_ldP HXa11.out.past
 rcases HR.out with ⟨hk, hg, h1, h2, h3, h4⟩ | ⟨hk, hg, h1, h3, h4, h5⟩ | ⟨hk, hg, h1, h2, h4⟩ | ⟨hk, h4⟩ | ⟨hk, h4⟩ | ⟨hk, h4⟩
 ·rw [hk] at k0
  obtain ⟨z1, z2⟩ := ln_fl HCk.out hg
  have hv2 : v2 = K.lineOf Z x.s := by rw [← Hv2.out]; exact z2
  have he1 : e1 = 0 := by rw [← He1.out]; exact (ln_fl HCL.out hg).1
  have hn : n11 = 1 := by rw [← HS11.out.1, (ow_fl HCk.out (isR_of HRp.out) hg).2]; exact h3
  rw [← hv2] at h1 h2
  rw [h1] at q1
  rw [h2] at q2
  subst he1 hn
  have HO := hide h4
  have hqq : (x.q == x.q) = true := by simp
  clear hk hg z1 z2 hv2 h1 h2 h3 h4
  go_wp2_with fail
  refine (others_any x.ao a4 x.n n4 x.c c4 x.L Z x.s w11 HL11.out HZ11.out HO.out).mono ?_
  rintro e w12 ⟨rfl, b12⟩
  have HB12 := hide (HBf.out.trans (b12.mono HBf.out.size))
  clear b12
  go_wp2_with fail
  go_ret
  exact ⟨rfl, HB12.out⟩
 ·rw [hk] at k0
  obtain ⟨z1, z2⟩ := ln_fl HCk.out hg
  have hv2 : v2 = K.lineOf Z x.s := by rw [← Hv2.out]; exact z2
  have hv1 : v1 = K.lineOf x.L x.s := by rw [← Hv1.out]; exact (ln_fl HCL.out hg).2
  have he1 : e1 = 0 := by rw [← He1.out]; exact (ln_fl HCL.out hg).1
  have hn : n11 = 1 := by rw [← HS11.out.1, (ow_fl HCk.out (isR_of HRp.out) hg).2]; exact h3
  have hbd : 0 ≤ v1.qty ∧ v1.qty ≤ 16000000000000000 := by rw [hv1, line_qty]; exact ttl_few (filter_chkE HCL.out)
  rw [← hv2, ← hv1] at h1
  rw [h1] at q1
  have hw : IntKind.i64.wrap (v1.qty + x.q) = v1.qty + x.q := wrap_few (by omega) (by omega)
  subst he1 hn
  have HO := hide h4
  have hqq : (v1.qty + x.q == v1.qty + x.q) = true := by simp
  clear hk hg z1 z2 hv2 hv1 h1 h3 h4 h5 hbd
  go_wp2_with fail
  refine (others_any x.ao a4 x.n n4 x.c c4 x.L Z x.s w11 HL11.out HZ11.out HO.out).mono ?_
  rintro e w12 ⟨rfl, b12⟩
  have HB12 := hide (HBf.out.trans (b12.mono HBf.out.size))
  clear b12
  go_wp2_with fail
  go_ret
  exact ⟨rfl, HB12.out⟩
 ·rw [hk] at k0
  obtain ⟨z1, z2⟩ := ln_fl HCk.out hg
  have hv2 : v2 = K.lineOf Z x.s := by rw [← Hv2.out]; exact z2
  have hv1 : v1 = K.lineOf x.L x.s := by rw [← Hv1.out]; exact (ln_fl HCL.out hg).2
  have he1 : e1 = 0 := by rw [← He1.out]; exact (ln_fl HCL.out hg).1
  rw [← hv2] at h2
  rw [← hv1] at h1
  rw [h2] at q2
  subst he1
  have HO := hide h4
  clear hk hg z1 z2 hv2 hv1 h2 h4
  go_wp2_with fail
  refine (others_any x.ao a4 x.n n4 x.c c4 x.L Z x.s w11 HL11.out HZ11.out HO.out).mono ?_
  rintro e w12 ⟨rfl, b12⟩
  have HB12 := hide (HBf.out.trans (b12.mono HBf.out.size))
  clear b12
  go_wp2_with fail
  go_ret
  exact ⟨rfl, HB12.out⟩
 ·rw [hk] at k0
  have HO := hide h4
  clear hk h4
  go_wp2_with fail
  refine (kept_any x.ao a4 x.n n4 x.c c4 x.L Z x.s x.a w11 HL11.out HZ11.out (HW.out.a.below HB11.out) HO.out).mono ?_
  rintro e w12 ⟨rfl, b12⟩
  have HB12 := hide (HBf.out.trans (b12.mono HBf.out.size))
  clear b12
  go_wp2_with fail
  go_ret
  exact ⟨rfl, HB12.out⟩
 ·rw [hk] at k0
  have hn4 : n4 = 0 := by rw [← HZ11.out.1, h4]; rfl
  subst hn4
  clear hk h4
  go_wp2_with fail
  go_ret
  exact ⟨rfl, HBf.out⟩
 ·rw [hk] at k0
  have HO := hide h4
  clear hk h4
  go_wp2_with fail
  refine (kept_any x.ao a4 x.n n4 x.c c4 x.L Z ⟨#[]⟩ x.a w11 HL11.out HZ11.out (HW.out.a.below HB11.out) HO.out).mono ?_
  rintro e w12 ⟨rfl, b12⟩
  have HB12 := hide (HBf.out.trans (b12.mono HBf.out.size))
  clear b12
  go_wp2_with fail
  go_ret
  exact ⟨rfl, HB12.out⟩
end Go.Proofs.YtmbkmpeongodbaaGreat

