/- QRn -/
import Derived.Test.YtcnciccljblkfaaGreatEf06
import Derived.Test.YtcnciccljblkfaaGreatEf09
import Derived.Test.YtcnciccljblkfaaGreatEf10
namespace Go.Proofs.YtcnciccljblkfaaGreat
open Go.RowKit
attribute [local go_sem ↓] ldP_eq stP_eq ldJ_eq stJ_eq
attribute [local go_sem] zeros_JA cells_JAv zero_PC cells_PV fold_PC PC_size fold_PC1
set_option maxRecDepth 100000 in
set_option maxHeartbeats 400000 in
theorem one_any (a : Pv) (w : World) (hS : PSrc w a) : Calls Tryz.prog 77 #[PV a] w fun e w' => GivesSet w w' e (runsAt a.P) := by
 have b1 := below_new w (.cells (PC a) 26)
 have b2 := below_new (w.alloc (.cells (PC a) 26)) (.cells (JA fun _ => si0) 115)
 have X2 := isets_new (w.alloc (.cells (PC a) 26)) 115 (fun _ => si0)
 rw [World.size_alloc] at X2
 have HXA := hide ((pbox_new w a).below b2)
 have HX2 := hide X2
 have HBK := hide (b1.trans (b2.mono b1.size))
 have HS := hide (hS.below HBK.out)
 clear b1 b2 X2 hS
 obtain ⟨wk, hwk⟩ : ∃ wk, (w.alloc (.cells (PC a) 26)).alloc (.cells (JA fun _ => si0) 115) = wk := ⟨_, rfl⟩
 have HWZ : Hid (wk.heap.size = w.heap.size + 1 + 1) := by show _ = _; rw [← hwk]; simp
 rw [hwk] at HXA HX2 HBK HS
 have l1 := run_ldP HXA.out.at
 have b3 := below_new wk (.cells (PC a) 26)
 have HR := hide (prow_one wk a HS.out)
 have HWT := hide (wt_one HS.out)
 have HB3 := hide (HBK.out.trans (b3.mono HBK.out.size))
 have HX3 := hide (HX2.out.below b3)
 clear b3
 go_enter Tryz.func77, Tryz.ntmps77
 go_wp2_with fail
 clear hwk
 refine (mean_any _ 1 1 [a] _ HR.out HWT.out (by omega)).mono ?_
 rintro e w2 ⟨T, N, rfl, hT, b4⟩
 have HX4 := HX3.out.below b4
 have hst := run_stJ (F' := T) HX4
 have HRes := hide (ISets.setRow (F' := T) HX4)
 have HFin : Hid (GivesSet w (w2.setRow (w.heap.size + 1) (JA T)) (.returned (JAv T)) (runsAt a.P)) := by
  refine ⟨T, N, rfl, fun r hr => ?_, below_setRow (HB3.out.trans (b4.mono HB3.out.size)) (by omega)⟩
  obtain ⟨h1, h2, h3⟩ := hT r hr
  rw [runsOf_one] at h3
  simp only [World.size_alloc] at h2
  have hwz := HWZ.out
  exact ⟨src_off h1 (fun ad h => setRow_other _ _ _ _ (fun e => by have := h2 ad h; omega)), fun ad h => by have := h2 ad h; omega, h3⟩
 clear hT b4 HX4 l1
 go_wp2_with fail
 exact bodyPost_ret (v := JAv T) (resJ Tryz.results77 rfl HRes.out) rfl HFin.out
theorem canon_of {G N : Nat → List Rn} (h : ∀ r, r < 16 → NormOf (G r) (N r)) {P : Pst} (hP : P = canonP N) : CanonOf G P := ⟨N, h, hP⟩
set_option maxRecDepth 100000 in
set_option maxHeartbeats 400000 in
theorem refNorm_any (a : Pv) (w : World) (hS : PSrc w a) : Calls Tryz.prog 73 #[PV a] w fun e w' => GivesP w w' e (CanonOf (runsAt a.P)) := by
 have b1 := below_new w (.cells (PC a) 26)
 have b2 := below_new (w.alloc (.cells (PC a) 26)) (.cells (PC pv0) 26)
 have X2 := pbox_new (w.alloc (.cells (PC a) 26)) pv0
 rw [World.size_alloc] at X2
 have HXA := hide ((pbox_new w a).below b2)
 have HX2 := hide X2
 have HBK := hide (b1.trans (b2.mono b1.size))
 have HS := hide (hS.below HBK.out)
 clear b1 b2 X2 hS
 obtain ⟨wk, hwk⟩ : ∃ wk, (w.alloc (.cells (PC a) 26)).alloc (.cells (PC pv0) 26) = wk := ⟨_, rfl⟩
 have HWZ : Hid (wk.heap.size = w.heap.size + 1 + 1) := by show _ = _; rw [← hwk]; simp
 rw [hwk] at HXA HX2 HBK HS
 have l1 := run_ldP HXA.out.at
 go_enter Tryz.func73, Tryz.ntmps73
 go_wp2_with fail
 clear hwk
 refine (one_any a _ HS.out).mono ?_
 rintro e w2 ⟨T, N, rfl, hT, b4⟩
 have HT := hide hT
 have HB4 := hide b4
 have HX4 := hide (HX2.out.below b4)
 clear hT b4 l1
 go_wp2_with fail
 refine (refForm_any T N _ (fun r hr => ⟨(HT.out r hr).1, (HT.out r hr).2.2.1⟩)).mono ?_
 rintro e w3 ⟨p, rfl, S3, n3, b5, c5⟩
 have hwz := HWZ.out
 have hsz := HB4.out.size
 obtain ⟨e1, e2, e3, e4, e5⟩ := past_end (w := w) (HX4.out.below b5) S3 (n3.mono (by omega)) (HBK.out.trans ((HB4.out.mono HBK.out.size).trans (b5.mono (Nat.le_trans HBK.out.size hsz)))) (by omega)
 have HRes := hide e2
 have HFin : Hid (GivesP w _ (.returned (PV p)) (CanonOf (runsAt a.P))) := ⟨p, rfl, e3, e4, e5, canon_of (fun r hr => (HT.out r hr).2.2) c5⟩
 clear S3 n3 b5 c5 e2 e3 e4 e5 hwz hsz
 go_wp2_with fail
 exact bodyPost_ret (v := PV p) (resP Tryz.results73 rfl HRes.out) rfl HFin.out
end Go.Proofs.YtcnciccljblkfaaGreat

