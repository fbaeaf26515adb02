/- SXe -/
import Derived.Test.YtaphmhbmhcahaaaGreatTk
import Derived.Test.YtaphmhbmhcahaaaGreatSe41
import Derived.Test.YtaphmhbmhcahaaaGreatSe40
import Derived.Test.YtaphmhbmhcahaaaGreatSe10
import Derived.Test.YtaphmhbmhcahaaaGreatSe31
set_option maxRecDepth 100000
set_option maxHeartbeats 6400000
namespace Go.Proofs.YtaphmhbmhcahaaaGreat
open Go.RowKit
theorem cloneE_any (ao : Option Addr) (n c : Nat) (L : List K.En) (w : World) (hS : K.ESrc w ao n c L) : Calls Tryz.prog 49 #[.slice ao n c] w fun x w' => LvS w w' x L := by
 cases ao with
 | none =>
  obtain ⟨rfl, rfl⟩ := hS.2.1 rfl
  have hL : L = [] := List.length_eq_zero_iff.1 hS.1
  subst hL
  refine (K.clone_nil w).mono ?_
  rintro e w' ⟨rfl, rfl⟩
  exact ⟨none, 0, 0, rfl, hS, Below.refl _ _⟩
 | some ad =>
  refine (K.clone_any ad n c L w hS).mono ?_
  rintro e w' ⟨ao, c2, rfl, O⟩
  obtain ⟨S9, -⟩ := O.src hS.2.2.2.1 (by have := hS.1; have := hS.2.2.2.2; omega)
  have hl := hS.1
  rw [hl] at S9
  exact ⟨ao, n, c2, rfl, S9, O.below⟩
attribute [local go_sem ↓] ldP_eq stP_eq ldFa_eq stFa_eq ldSw_eq stSw_eq bldS_eq bsPs_eq
attribute [local go_sem] cells_PV PC_size cells_FaV FaC_size zero_FaZ run_bsPs run_bldS run_bldS0 zero_PC
theorem swEvent_any (f : Fc) (w : World) (hF : FcOk w f) (hR : FcR f) : Calls Tryz.prog 25 #[FaV (mkF f)] w fun e w' => SwE w w' e (EvS f) := by
 have HR := hide hR
 clear hR
 have b1 := below_new w (.cells (FaC (mkF f)) 59)
 have X1 := FaBox_new w (mkF f)
 obtain ⟨w1, hw1⟩ : ∃ w1, w.alloc (.cells (FaC (mkF f)) 59) = w1 := ⟨_, rfl⟩
 have hs1 : w1.heap.size = w.heap.size + 1 := by rw [<- hw1]; simp
 rw [hw1] at b1 X1
 have x2 : SwBox (w1.alloc (.cells (FaC (mkF fz0)) 29)) w1.heap.size (mkF fz0) := SwBox_new w1 (mkF fz0)
 have b2 := below_new w1 (.cells (FaC (mkF fz0)) 29)
 obtain ⟨w2, hw2⟩ : ∃ w2, w1.alloc (.cells (FaC (mkF fz0)) 29) = w2 := ⟨_, rfl⟩
 rw [hw2] at x2 b2
 rw [hs1] at x2
 obtain ⟨G, hG0⟩ : ∃ G, w.heap.size = G := ⟨_, rfl⟩
 rw [hG0] at X1 x2 hs1
 have HX := hide (X1.below b2)
 have HZ := hide x2
 have HBK := hide (b1.trans (b2.mono b1.size))
 have HF := hide (hF.below HBK.out)
 have HGs : Hid (w.heap.size = G) := hG0
 clear hF b1 b2 X1 x2
 have lf := run_ldFa HX.out
 go_enter Tryz.func25, Tryz.ntmps25
 go_wp2_with fail
 clear hw1 hw2 hs1 hG0 lf
 refine (actEvent_any f _ HF.out).mono ?_
 rintro x w3 ⟨z, rfl, hz, b3⟩
 have HZ3 := hide (HZ.out.below b3)
 have HX3 := hide (HX.out.below b3)
 have HF3 := hide (HF.out.below b3)
 have HB3 := hide (HBK.out.trans (b3.mono HBK.out.size))
 have Hz := hide hz
 clear b3 hz
 by_cases h0 : z = 0
 ·subst h0
  obtain ⟨hFo, hOn⟩ := Hz.out.zero
  have HFo := hide hFo
  have HOn := hide hOn
  clear hFo hOn
  obtain ⟨c0, -⟩ := HX3.out.cs
  go_wp2_with fail
  clear c0
  refine (dots_any f.ao f.an f.ac f.es _ HF3.out.es).mono ?_
  rintro e w4 ⟨b4, ⟨hc, d, rfl, S4, n4, C4⟩ | ⟨hc, -⟩⟩
  rotate_left
  ·exact absurd ((chk_okN HF3.out.es.1).2 HFo.out.1) hc
  obtain ⟨g5, hg5⟩ : ∃ g, w4.heap.size = g := ⟨_, rfl⟩
  obtain ⟨w6, hst, X6, B6, -⟩ := madeP w4 d g5 hg5
  have b46 := b4.trans (B6.mono b4.size)
  have HB6 := hide (HB3.out.trans (b46.mono HB3.out.size))
  have HX6 := hide (HX3.out.below b46)
  have HZ6 := hide (HZ3.out.below b46)
  have HF6 := hide (HF3.out.below b46)
  have HP6 := hide (S4.below B6)
  have HC6 := hide C4
  have lp := run_ldP X6.at
  have lq := run_ldP HX6.out.past
  have hPR := prow2 w6 d f.p HP6.out HF6.out.p
  have b7 := below_new w6 (.cells #[.slice d.vo d.vn d.vc, .slice d.co d.cn d.cc, .slice f.p.vo f.p.vn f.p.vc, .slice f.p.co f.p.cn f.p.cc] 26)
  have lb := run_bsPs d f.p w6
  obtain ⟨g7, hg7⟩ : ∃ g7, w6.heap.size = g7 := ⟨_, rfl⟩
  obtain ⟨w7, hw7⟩ : ∃ w7, w6.alloc (.cells #[.slice d.vo d.vn d.vc, .slice d.co d.cn d.cc, .slice f.p.vo f.p.vn f.p.vc, .slice f.p.co f.p.cn f.p.cc] 26) = w7 := ⟨_, rfl⟩
  rw [hw7] at hPR b7 lb
  rw [hg7] at hPR lb
  have HPR := hide hPR
  have HB7 := hide (HB6.out.trans (b7.mono HB6.out.size))
  have HZ7 := hide (HZ6.out.below b7)
  have HX7 := hide (HX6.out.below b7)
  have HF7 := hide (HF6.out.below b7)
  clear hPR b7 hc S4 n4 C4 b4 X6 B6 b46
  go_wp2_with fail
  clear lp lq lb hst hg5 hg7 hw7
  refine (pastJoin_any (some ⟨g7, 0, none⟩) 2 2 [d, f.p] _ HPR.out (bsP2_wt (canon_iff.1 HC6.out.canon) HFo.out.2.1) (by decide)).mono ?_
  rintro e wq ⟨q, rfl, Sq, -, bq, Cq⟩
  obtain ⟨g8, hg8⟩ : ∃ g, wq.heap.size = g := ⟨_, rfl⟩
  obtain ⟨w8, hst, X8, B8, -⟩ := madeP wq q g8 hg8
  have b78 := bq.trans (B8.mono bq.size)
  have HB8 := hide (HB7.out.trans (b78.mono HB7.out.size))
  have HX8 := hide (HX7.out.below b78)
  have HZ8 := hide (HZ7.out.below b78)
  have HF8 := hide (HF7.out.below b78)
  have HQ8 : Hid (PBox w8 g8 q /\ PSrc w8 q) := ⟨X8, Sq.below B8⟩
  have HG8 : Hid (G + 1 < g8) := by
   have h1 := HZ7.out.lt
   have h2 := bq.size
   show G + 1 < g8
   omega
  have HHe : Hid (HeardOf f q.P) := ⟨canon_iff.1 Cq.canon, fun r hr n => by
   rw [canon_mem Cq r hr n]
   show mem (runsAt d.P r ++ (runsAt f.p.P r ++ [])) n ↔ _
   rw [List.append_nil, mem_append, canon_mem HC6.out r hr n]⟩
  clear Sq bq Cq X8 B8 b78
  have hrn : f.rn <= 1 := by rcases HOn.out with h | h | h <;> omega
  have lp := run_ldP HQ8.out.1.at
  obtain ⟨-, c3⟩ := HX8.out.cs
  go_wp2_with fail
  clear lp c3 hst hg8
  refine (keepWaits_any f.ro f.rn f.rc f.rs q _ (HF8.out.row HR.out) HQ8.out.2 (by omega)).mono ?_
  rintro e w9 (⟨-, -, h, F, rfl, Gw, -, Ww⟩ | ⟨hno, -, -⟩)
  rotate_left
  ·exact absurd ⟨HFo.out.2.2, HHe.out.1⟩ hno
  have HB9 := hide (HB8.out.trans (Gw.below.mono HB8.out.size))
  have HX9 := hide (HX8.out.below Gw.below)
  have HZ9 := hide (HZ8.out.below Gw.below)
  have HF9 := hide (HF8.out.below Gw.below)
  have HQ9 := hide (HQ8.out.1.below Gw.below)
  have HSq := hide (HQ8.out.2.below Gw.below)
  have HW : Hid (RcS w9 h.o h.n h.c F /\ WtOf f.rs q.P F) := ⟨Gw.src, Ww⟩
  have HSt : Hid (∀ W, FaBox W G (mkF f) -> PBox W g8 q -> W.cell? ⟨G, 0, none⟩ = some (.slice f.ao f.an f.ac) /\ (ldP (.pointer (some ⟨g8, 0, none⟩))).run Tryz.prog W = .ok (PV q) W) := fun W h k => ⟨h.cs.1, run_ldP k.at⟩
  clear Gw Ww hrn
  go_upto_region 7 with fail
  refine wp_region_held_drew (S := fun W => W.cell? ⟨G, 0, none⟩ = some (.slice f.ao f.an f.ac) /\ (ldP (.pointer (some ⟨g8, 0, none⟩))).run Tryz.prog W = .ok (PV q) W) (by kernel_rfl) (HSt.out _ (HX9.out.below (below_drew1 w9)) (HQ9.out.below (below_drew1 w9))) (fun hHeld => ?_)
  refine wTk 0 ⟨some 34, .fieldAddr 59 (.tmp 1) 0, 0, "swot.go:49", #[], none⟩ rfl ?_
  refine wTk 1 ⟨some 35, .load 22 (.tmp 34), 22, "swot.go:49", #[⟨0, .data⟩], none⟩ rfl ?_
  refine wTk 3 ⟨some 37, .load 26 (.tmp 7), 26, "swot.go:49", #[], none⟩ rfl ?_
  refine wTk 4 ⟨some 38, .move (.tmp 8), 27, "swot.go:49", #[], none⟩ rfl ?_
  refine wpAnyH_ready (rs := [2]) (by kernel_rfl) (by simp) (.cons rfl (fun K hK => ?_) .nil)
  go_simp
  go_wp2_with fail
  refine (cloneE_any f.ao f.an f.ac f.es _ (HF9.out.es.below (below_drew1 w9))).mono ?_
  rintro x wa ⟨la, ln, lc, rfl, SL, ba⟩
  have HBa := hide ((below_drew1 w9).trans (ba.mono (below_drew1 w9).size))
  have Aa := HZ9.out.below HBa.out
  have st := run_stSw (m' := mkF ⟨la, ln, lc, [], q, h.o, h.n, h.c, []⟩) Aa
  have HE1 : Hid (SwBox (wa.setRow (G + 1) (FaC (mkF ⟨la, ln, lc, [], q, h.o, h.n, h.c, []⟩))) (G + 1) (mkF ⟨la, ln, lc, f.es, q, h.o, h.n, h.c, F⟩)) := Aa.setRow
  have HXe : Hid (FaBox (wa.setRow (G + 1) (FaC (mkF ⟨la, ln, lc, [], q, h.o, h.n, h.c, []⟩))) G (mkF f)) := (setRow_other _ _ _ _ (by omega)).trans (HX9.out.below HBa.out)
  have HPe : Hid (PBox (wa.setRow (G + 1) (FaC (mkF ⟨la, ln, lc, [], q, h.o, h.n, h.c, []⟩))) g8 q) := (setRow_other _ _ _ _ (by have := HG8.out; omega)).trans (HQ9.out.below HBa.out)
  have HE : Hid (SwE w (wa.setRow (G + 1) (FaC (mkF ⟨la, ln, lc, [], q, h.o, h.n, h.c, []⟩))) (.returned (.tuple #[FaV (mkF ⟨la, ln, lc, f.es, q, h.o, h.n, h.c, F⟩), .int .i64 0])) (EvS f)) :=
   ⟨_, 0, rfl, FcOk.offW (f := ⟨la, ln, lc, f.es, q, h.o, h.n, h.c, F⟩) ⟨SL, HSq.out.below HBa.out, HW.out.1.below HBa.out⟩ Aa _, below_setRow (HB9.out.trans (HBa.out.mono HB9.out.size)) (by rw [HGs.out]; omega), .inr ⟨Hz.out, rfl, rfl, HHe.out, HW.out.2⟩⟩
  clear SL ba Aa
  refine hK.out _ _ (HSt.out _ (HX9.out.below HBa.out) (HQ9.out.below HBa.out)) (fun hHeld => ?_)
  clear hK K
  refine wTk 5 ⟨some 39, .build 29 #[(0, .tmp 36), (1, .tmp 37), (2, .tmp 38)], 29, "swot.go:49", #[⟨2, .data⟩, ⟨3, .data⟩, ⟨4, .data⟩], none⟩ rfl ?_
  refine wpAnyH_ready (rs := [6]) (by kernel_rfl) (by simp) (.cons rfl (fun K hK => ?_) .nil)
  go_simp
  refine hK.out _ _ (HSt.out _ HXe.out HPe.out) (fun hHeld => ?_)
  clear hK K
  clear st
  refine wTk 7 ⟨some 3, .assign (.const (.int .i64 0)), 31, "swot.go:49", #[⟨6, .chain⟩, ⟨0, .phase⟩, ⟨1, .phase⟩, ⟨2, .phase⟩, ⟨3, .phase⟩, ⟨4, .phase⟩, ⟨5, .phase⟩, ⟨6, .phase⟩], none⟩ rfl ?_
  refine wpAnyH_done (by kernel_rfl) ?_ _
  clear hHeld
  go_wp2_with fail
  refine bodyPost_ret (res2Sw rfl rfl rfl HE1.out) rfl ?_
  exact HE.out
 ·have hz1 : ((z : Int) == 0) = false := by simpa using h0
  have hz2 : decide ((z : Int) = 0) = false := by simpa using h0
  have st := run_stSw (m' := mkF fz0) HZ3.out
  have HE1 : Hid (SwBox (w3.setRow (G + 1) (FaC (mkF fz0))) (G + 1) (mkF fz0)) := HZ3.out.setRow
  have HE : Hid (SwE w (w3.setRow (G + 1) (FaC (mkF fz0))) (.returned (.tuple #[FaV (mkF fz0), .int .i64 z])) (EvS f)) := ⟨fz0, z, rfl, fz0_ok _, below_setRow HB3.out (by rw [HGs.out]; omega), .inl ⟨Hz.out, h0, rfl⟩⟩
  go_wp2_with fail
  clear st
  refine bodyPost_ret (res2Sw rfl rfl rfl HE1.out) rfl ?_
  exact HE.out
end Go.Proofs.YtaphmhbmhcahaaaGreat
