/- ZLx -/
import Derived.Test.YtbmjiedpaffifaaDg44
import Derived.Deep.DeepCutAuto
import Derived.Lib.SlBytesConst
namespace Go.Proofs.Ytbmjiedpaffifaa
open Go.RowKit
attribute [local go_sem ↓] ldP_eq stP_eq ldDi_eq stDi_eq
attribute [local go_sem] cells_PV PC_size cells_DiV DiC_size
variable {w w' w2 W W' : World} {g gv : Nat} {Z : List Int} {B : Option Nat}

set_option maxRecDepth 100000 in
set_option maxHeartbeats 8000000 in
theorem digestBack_any (d : Dg) (ao : Option Addr) (n c : Nat) (A : List Int) (cut : Int) (w : World) (hS : DgOk w d) (hA : U.Src w ao n c A) (hcap : n ≤ c) (hz : n ≤ 140737488355328) :
    Calls Try.prog 4 #[DiV (mkD d), .slice ao n c, .int .i64 cut] w fun e w' => e = .returned (.bool true) ∧ Below w.heap.size w w' := by
  have b1 := below_new w (.cells (DiC (mkD d)) 39)
  have HK1 : Hid (Bk w (w.alloc (.cells (DiC (mkD d)) 39)) w.heap.size d ao n c A) := ⟨DiBox_new w (mkD d), b1, hA.below b1, hS.below b1⟩
  have HC : Hid (n ≤ c ∧ n ≤ 140737488355328) := ⟨hcap, hz⟩
  clear b1 hS hA hcap hz
  obtain ⟨w1, hw1⟩ : ∃ w1, w.alloc (.cells (DiC (mkD d)) 39) = w1 := ⟨_, rfl⟩
  obtain ⟨G, hG⟩ : ∃ G, w.heap.size = G := ⟨_, rfl⟩
  rw [hw1, hG] at HK1
  have HK1 : Hid (Bk w w1 G d ao n c A) := by rw [← hG] at HK1 ⊢; exact HK1
  go_enter Try.func4, Try.ntmps4
  have hc := Lib.run_convert_bytes_const (P := Try.prog) w1 40 5 #[.int .u8 2, .int .u8 0, .int .u8 0, .int .u8 2, .int .u8 0, .int .u8 0] 6 6 Try.underlying40 Try.underlying5
  have hc6 : (#[.int .u8 2, .int .u8 0, .int .u8 0, .int .u8 2, .int .u8 0, .int .u8 0] : Array Value).size = 6 := rfl
  rw [hc6] at hc
  simp only [Nat.reduceAdd] at hc
  have S2 := src_six w1
  have bl := below_new w1 (.cells #[.int .u8 2, .int .u8 0, .int .u8 0, .int .u8 2, .int .u8 0, .int .u8 0] 5 (6, 7))
  obtain ⟨wl, hwl⟩ : ∃ wl, w1.alloc (.cells #[.int .u8 2, .int .u8 0, .int .u8 0, .int .u8 2, .int .u8 0, .int .u8 0] 5 (6, 7)) = wl := ⟨_, rfl⟩
  obtain ⟨gl, hgl⟩ : ∃ gl, w1.heap.size = gl := ⟨_, rfl⟩
  rw [hwl] at hc S2
  rw [hgl] at hc S2
  have HK2 := hide (HK1.out.below bl)
  rw [hwl] at HK2
  have HG2 := hide (dget_any _ 6 6 _ _ S2 (Nat.le_refl _) (by decide))
  clear hc6 S2 bl
  go_wp2_with fail
  clear hw1 hG hc hwl hgl
  refine HG2.out.mono ?_
  rintro e w3 ⟨b3, h3⟩
  obtain ⟨x, rfl, hx, e1, e2⟩ : ∃ x : Dg, e = .returned (.tuple #[DiV (mkD x), .int .i64 0]) ∧ DgOk w3 x ∧ x.h.P = pv0.P ∧ x.l.P = pv0.P := by
    rcases h3 with ⟨x, hf, hZ, rfl, h1, h2⟩ | ⟨hno, -⟩
    · rw [← dig_zero] at hZ
      obtain ⟨q1, q2, -⟩ := dig_cut (R := []) form_zero hf.1 form_zero hf.2.1 (by rw [List.append_nil]; exact hZ)
      exact ⟨x, rfl, ⟨h1.src, h2.src⟩, q1.symm, q2.symm⟩
    · exact absurd dig_zero.symm (hno _ _ formD_zero)
  obtain ⟨g3, hg3⟩ : ∃ g3, w3.heap.size = g3 := ⟨_, rfl⟩
  obtain ⟨w4, hst4, B4, b4⟩ := made4 w3 x g3 hg3
  have HK4 := hide ((HK2.out.below b3).below b4)
  have l4 := run_ldDi B4
  have HE4 := hide (eq_zero w4 (hx.below b4) e1 e2)
  clear h3 hx e1 e2 b3 b4 B4 HK1 HK2 HG2
  go_wp2_with fail
  clear hst4 hg3
  refine HE4.out.mono ?_
  rintro e w5 ⟨rfl, b5⟩
  have HK5 := hide (HK4.out.below b5)
  clear b5 l4 HE4 HK4
  go_wp2_with fail
  refine (dget_any ao n c A w5 HK5.out.src HC.out.1 HC.out.2).mono ?_
  rintro e w6 ⟨b6, h6⟩
  have HK6 := hide (HK5.out.below b6)
  obtain ⟨g6, hg6⟩ : ∃ g6, w6.heap.size = g6 := ⟨_, rfl⟩
  obtain ⟨x6, xe, rfl, hx6, hcs⟩ : ∃ (x6 : Dg) (xe : Int), e = .returned (.tuple #[DiV (mkD x6), .int .i64 xe]) ∧ DgOk w6 x6 ∧ ((xe = 0 ∧ FormD x6.h.P x6.l.P ∧ A = digB x6.h.P x6.l.P) ∨ (xe = 8 ∧ x6.h.P = pv0.P ∧ x6.l.P = pv0.P)) := by
    rcases h6 with ⟨x, hf, hZ, rfl, h1, h2⟩ | ⟨hno, rfl⟩
    · exact ⟨x, 0, rfl, ⟨h1.src, h2.src⟩, .inl ⟨rfl, hf, hZ⟩⟩
    · exact ⟨dg0, 8, rfl, ⟨PSrc.zero _, PSrc.zero _⟩, .inr ⟨rfl, rfl, rfl⟩⟩
  obtain ⟨w7, hst7, B7, b7⟩ := made4 w6 x6 g6 hg6
  have HK7 := hide (HK6.out.below b7)
  have HX7 := hide B7
  have HS7 := hide (hx6.below b7)
  have HCs := hide hcs
  clear h6 b6 hx6 hcs b7 B7 HK5 HK6
  go_upto_if 35 with fail
  clear hst7 hg6
  go_cut [10, 11] (fun _ _ wx => Hid (Bk w wx G d ao n c A))
  case first =>
    rcases HCs.out with ⟨rfl, hf, hZ⟩ | ⟨rfl, e1, e2⟩
    · have l7 := run_ldDi HX7.out
      have HF := hide hf
      have HZ := hide hZ
      clear hf hZ
      go_wp2_with fail
      refine (dput_any x6 w7 HS7.out).mono ?_
      rintro e w8 (⟨hno, -, -⟩ | ⟨-, bo, cc, rfl, hR, hN⟩)
      · exact absurd HF.out hno
      have HK8 := hide (HK7.out.below hN.1)
      have cv1 := hR.bs.str
      have S8 := HK8.out.src
      have cv2 := (show U.BS w8 ao n c A from ⟨S8.1, S8.2.1, S8.2.2.1⟩).str
      rw [HZ.out] at cv2
      obtain ⟨s8, hs8⟩ : ∃ s8, strOfNums (digB x6.h.P x6.l.P) = s8 := ⟨_, rfl⟩
      obtain ⟨m8, hm8⟩ : ∃ m8, (digB x6.h.P x6.l.P).length = m8 := ⟨_, rfl⟩
      rw [hs8] at cv1 cv2
      rw [hm8] at cv1 ⊢
      clear hR hN S8 hs8 hm8 l7
      go_wp2_with fail
      go_meet
      case rel => exact HK8
    · have l7 := run_ldDi HX7.out
      have HE := hide (eq_zero w7 HS7.out e1 e2)
      clear e1 e2
      go_wp2_with fail
      refine HE.out.mono ?_
      rintro e w8 ⟨rfl, b8⟩
      have HK8 := hide (HK7.out.below b8)
      clear b8 l7 HE
      go_wp2_with fail
      go_meet
      case rel => exact HK8
  case rest =>
    rename World => wz
    have HKz := hcut
    clear hcut HK7 HX7 HS7 HCs
    have lz := run_ldDi HKz.out.box
    go_wp2_with fail
    refine (dput_any d wz HKz.out.dg).mono ?_
    rintro e w9 h9
    obtain ⟨bo, m, cc, xe, rfl, b9, h9⟩ : ∃ (bo : Option Addr) (m cc : Nat) (xe : Int), e = .returned (.tuple #[.slice bo m cc, .int .i64 xe]) ∧ Below wz.heap.size wz w9 ∧ ((xe = 1 ∧ m = 0 ∧ ¬ FormD d.h.P d.l.P) ∨ (xe = 0 ∧ FormD d.h.P d.l.P ∧ m = (digB d.h.P d.l.P).length ∧ U.BR w9 bo m cc (digB d.h.P d.l.P))) := by
      rcases h9 with ⟨h1, rfl, h3⟩ | ⟨h1, bo, cc, rfl, h3, h4⟩
      · exact ⟨none, 0, 0, 1, rfl, h3, .inl ⟨rfl, rfl, h1⟩⟩
      · exact ⟨bo, _, cc, 0, rfl, h4.1, .inr ⟨rfl, h1, rfl, h3⟩⟩
    have HK9 := hide (HKz.out.below b9)
    have H9 := hide h9
    have l9 := run_ldDi HK9.out.box
    clear lz b9 h9 HKz
    go_wp2_with fail
    refine (rinForm14_any d w9 HK9.out.dg).mono ?_
    rintro e wa ⟨b, rfl, hb, ba⟩
    have HKa := hide (HK9.out.below ba)
    have HI : Hid (BIf b (FormD d.h.P d.l.P)) := hb
    cases b with
    | false =>
      have hno : ¬ FormD d.h.P d.l.P := fun h => by have := HI.out.2 h; cases this
      rcases H9.out with ⟨rfl, rfl, -⟩ | ⟨rfl, h, -⟩
      rotate_left
      · exact absurd h hno
      clear hno hb ba l9 H9 HI
      go_wp2_with fail
      go_ret
      exact ⟨rfl, HKa.out.bel⟩
    | true =>
      have hyes : FormD d.h.P d.l.P := HI.out.1 rfl
      rcases H9.out with ⟨-, -, h⟩ | ⟨rfl, hf, hm, hR⟩
      · exact absurd hyes h
      have HF := hide hf
      have hl := digB_len hf
      have HO : Hid (U.Oc (digB d.h.P d.l.P)) := oc_of (ob_dig _ _)
      have hSa : U.Src wa bo m cc (digB d.h.P d.l.P) := ⟨(hR.bs.below ba).len, (hR.bs.below ba).nil, (hR.bs.below ba).cell, HO.out⟩
      have HSa := hide hSa
      have HRa := hide (hR.below ba)
      have HL : Hid (m = (digB d.h.P d.l.P).length ∧ m ≤ 400000000020 ∧ 0 < m ∧ m ≤ cc) := ⟨hm, by omega, by omega, hR.cap⟩
      have hm0 : ((m : Int) == 0) = false := by rw [beq_eq_false_iff_ne]; omega
      have hmb : m ≤ 400000000020 := by omega
      have hmp : 0 < m := by omega
      clear hyes hf hm hR hSa hb ba l9 H9 HI HK9 hl
      go_wp2_with fail
      refine (dget_any bo m cc _ wa HSa.out HL.out.2.2.2 (by omega)).mono ?_
      rintro e wb ⟨bb, hb⟩
      obtain ⟨x, rfl, hx, e1, e2⟩ : ∃ x : Dg, e = .returned (.tuple #[DiV (mkD x), .int .i64 0]) ∧ DgOk wb x ∧ x.h.P = d.h.P ∧ x.l.P = d.l.P := by
        rcases hb with ⟨x, hf, hZ, rfl, h1, h2⟩ | ⟨hno, -⟩
        · obtain ⟨q1, q2, -⟩ := dig_cut (R := []) HF.out.1 hf.1 HF.out.2.1 hf.2.1 (by rw [List.append_nil]; exact hZ)
          exact ⟨x, rfl, ⟨h1.src, h2.src⟩, q1.symm, q2.symm⟩
        · exact absurd rfl (hno _ _ HF.out)
      obtain ⟨gb, hgb⟩ : ∃ gb, wb.heap.size = gb := ⟨_, rfl⟩
      obtain ⟨wc, hstc, Bc, bc⟩ := made4 wb x gb hgb
      have bbc := bb.trans (bc.mono bb.size)
      have HKc := hide (HKa.out.below bbc)
      have HRc := hide (HRa.out.below bbc)
      have lc1 := run_ldDi Bc
      have lc2 := run_ldDi HKc.out.box
      have HEc := hide (requal14_any x d wc (hx.below bc) HKc.out.dg)
      have HE12 : Hid (x.h.P = d.h.P ∧ x.l.P = d.l.P) := ⟨e1, e2⟩
      clear hb hx e1 e2 bb bc Bc bbc HKa HRa HSa
      go_wp2_with fail
      clear hstc hgb
      refine HEc.out.mono ?_
      rintro e wd ⟨y, rfl, hy, bd⟩
      obtain rfl : y = true := hy.2 HE12.out
      have HKd := hide (HKc.out.below bd)
      have HRd := hide (HRc.out.below bd)
      obtain ⟨k, hkn, hkm, hkm2⟩ := mod_at cut m hmp
      have hmz : ¬ ((m : Nat) : Int) = 0 := by omega
      have hkc : k ≤ cc := by have := HL.out; omega
      have HKk : Hid (k < m) := hkn
      have hki : (k : Int) ≤ (cc : Int) := by omega
      clear hy bd lc1 lc2 HEc HE12 HKc HRc
      go_wp2_with fail
      clear hkm hkm2
      have hSd : U.Src wd bo m cc (digB d.h.P d.l.P) := ⟨HRd.out.bs.len, HRd.out.bs.nil, HRd.out.bs.cell, HO.out⟩
      refine (dget_any bo k cc _ wd (src_takeD hSd (by omega) hmp) hkc (by omega)).mono ?_
      rintro e we ⟨be, he⟩
      obtain ⟨xv, rfl⟩ : ∃ xv : Dg, e = .returned (.tuple #[DiV (mkD xv), .int .i64 8]) := by
        rcases he with ⟨x, hf, hZ, -⟩ | ⟨-, rfl⟩
        · exfalso
          have hd := List.take_append_drop k (digB d.h.P d.l.P)
          rw [hZ] at hd
          have e1 : digB d.h.P d.l.P = frB x.h.P ++ (frB x.l.P ++ (digB d.h.P d.l.P).drop k) := by rw [← List.append_assoc]; exact hd.symm
          obtain ⟨-, -, h0⟩ := dig_cut HF.out.1 hf.1 HF.out.2.1 hf.2.1 e1
          have h1 := congrArg List.length h0
          rw [List.length_drop, ← HL.out.1] at h1
          simp at h1
          have := HKk.out
          omega
        · exact ⟨dg0, rfl⟩
      have HKe := hide (HKd.out.below be)
      have HRe := hide (HRd.out.below be)
      clear he be hSd HKd HRd
      obtain ⟨xb, hxb1, hxb2, hxb3, hxb4⟩ := byte_of cut
      have HXb : Hid (0 ≤ xb ∧ xb ≤ 255) := ⟨hxb3, hxb4⟩
      have HLt := hide (U.BR.lit we)
      have HYn := hide (below_new we (.cells #[] 5))
      have HRl := hide (HRe.out.below HYn.out)
      have hb1 : 0 + m ≤ 140737488355328 := by omega
      have hb2 : m + 1 ≤ 140737488355328 := by omega
      go_wp2_with first
        | (at_builtin; go_loud (refine U.BR.app1 hr1 xb hb2 rfl (.tmp 113) (.tmp 116) rfl rfl rfl ?_); intro bo2 c2 wx2 hr2 ha2)
        | (at_builtin; go_loud (refine U.BR.appB HLt.out HRl.out.bs hb1 rfl (.tmp 111) (.tmp 112) rfl rfl rfl ?_); intro bo1 c1 wx hr1 ha1; rw [Nat.zero_add, List.nil_append] at hr1; rw [Nat.zero_add])
      have hNw := ha1.fresh
      have hBx : Below w.heap.size w wx2 := by
        refine HKe.out.bel.trans (Below.mono ?_ HKe.out.bel.size)
        refine ⟨ha2.grown.os.trans hNw.1.os, ha2.grown.tape.trans hNw.1.tape, ha2.grown.output.trans hNw.1.output, Nat.le_trans hNw.1.size ha2.grown.size, fun j hj => ?_⟩
        refine (ha2.grown.block j (Nat.lt_of_lt_of_le hj hNw.1.size) (fun e => ?_)).trans (hNw.1.block j hj)
        have := hNw.2 j e.symm
        omega
      have HBx := hide hBx
      have hOx : U.Oc (digB d.h.P d.l.P ++ [xb]) := oc_of fun y hy => by
        rcases List.mem_append.1 hy with h | h
        · exact ob_dig _ _ y h
        · rw [List.mem_singleton.1 h]; exact HXb.out
      have HG3 := hide (dget_any bo2 (m + 1) c2 _ wx2 ⟨hr2.bs.len, hr2.bs.nil, hr2.bs.cell, hOx⟩ hr2.cap (by omega))
      clear hNw hBx hOx hr1 hr2 ha1 ha2
      refine HG3.out.mono ?_
      rintro e wf ⟨bf, hf⟩
      obtain ⟨xv2, rfl⟩ : ∃ xv2 : Dg, e = .returned (.tuple #[DiV (mkD xv2), .int .i64 8]) := by
        rcases hf with ⟨x, hf, hZ, -⟩ | ⟨-, rfl⟩
        · exfalso
          have e1 : digB x.h.P x.l.P = frB d.h.P ++ (frB d.l.P ++ [xb]) := by rw [← hZ, ← List.append_assoc]; rfl
          obtain ⟨-, -, h0⟩ := dig_cut hf.1 HF.out.1 hf.2.1 HF.out.2.1 e1
          cases h0
        · exact ⟨dg0, rfl⟩
      have HBf := hide (HBx.out.trans (bf.mono HBx.out.size))
      clear hf bf HG3
      go_wp2_with fail
      go_ret
      exact ⟨rfl, HBf.out⟩
end Go.Proofs.Ytbmjiedpaffifaa
