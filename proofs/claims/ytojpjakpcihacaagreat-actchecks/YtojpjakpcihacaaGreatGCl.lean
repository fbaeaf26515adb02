/- ActChecks: the law. -/
import Derived.Test.YtojpjakpcihacaaGreatGCk
import Derived.Test.YtojpjakpcihacaaGreatGCr
import Derived.Test.YtojpjakpcihacaaGreatGNx
namespace Go.Proofs.YtojpjakpcihacaaGreat
open Go.RowKit
attribute [local go_sem ↓] ldP_eq stP_eq ldAc_eq stAc_eq ldD_eq stD_eq
attribute [local go_sem] zero_PC cells_PV PC_size cells_AcV AcC_size cells_RV RC_size zero_RC fold_RC

def eqD (x y : Rn) : Bool := (x.lo == y.lo) && (x.hi == y.hi)
theorem eqD_self (x : Rn) : eqD x x = true := by simp [eqD]
theorem run_eqD (x y : Rn) (w : World) : (Op.equalIn 10000 29 (.agg (RC x)) (.agg (RC y))).run Tryz.prog w = .ok (eqD x y) w := by
  have u3 := Tryz.underlying3
  have a3 := Tryz.isAgg3
  have z3 := Tryz.sizeOf3
  have hS : Tryz.prog.underlying 29 = some (.struct (Tryz.prog.fieldsOf 29)) := by kernel_rfl
  have hp : Tryz.prog.stoodInHeld 29 = false := by kernel_rfl
  obtain ⟨a, b⟩ := x
  obtain ⟨a', b'⟩ := y
  show (Op.equalIn 10000 29 (.agg #[.int .i64 a, .int .i64 b]) (.agg #[.int .i64 a', .int .i64 b'])).run Tryz.prog w = .ok ((a == a') && (b == b')) w
  rw [show (10000 : Nat) = 9999 + 1 from rfl, run_equalIn_struct w 9999 29 _ _ hS hp]
  simp only [Program.fieldsOf, Tryz.underlying29]
  have h3 : ∀ (p q : Int) w, (Op.equalIn 9999 3 (.int .i64 p) (.int .i64 q)).run Tryz.prog w = .ok (p == q) w := fun p q w => run_equalIn_int w 9998 3 .i64 .i64 p q Tryz.underlying3
  obtain ⟨D, hD⟩ : ∃ D, 9999 = D := ⟨9999, rfl⟩
  rw [hD] at h3 ⊢
  go_simp
  by_cases e1 : a = a'
  · by_cases e2 : b = b'
    · simp [e1, e2]
    · simp [e1, e2]
  · simp [e1]
attribute [local go_sem ↓] run_eqD
attribute [local go_sem] eqD_self
def P7 : Pst := ⟨[7], []⟩
theorem build_P7 (o : Option Addr) (n c : Nat) : (PC pv0).setIfInBounds 0 (.slice o n c) = PC ⟨o, n, c, none, 0, 0, P7⟩ := rfl
theorem form_P7 : InForm P7 := ⟨by decide, trivial⟩
theorem nxf_P7 : NxF P7 0 9 ⟨0, 8⟩ 0 := by
  refine Or.inr ⟨form_P7, Or.inr ⟨by decide, 7, Or.inl ⟨by decide, Or.inr ?_⟩, Or.inr ⟨by decide, rfl, rfl⟩⟩⟩
  have h : ∀ n, mem (runsAt P7 (0 : Int).toNat) n ↔ _ := fun n => mem_runs P7 0 (by decide) n
  refine ⟨(h 7).2 ⟨by decide, by decide, Or.inl (by decide)⟩, fun n hn => ?_⟩
  rcases (h n).1 hn with ⟨_, _, h3 | ⟨c, hc, _⟩⟩
  · exact h3
  · cases hc
theorem src_P7 (w : World) (g : Nat) (hg : w.heap.size = g) : PSrc (w.alloc (.cells #[.int .i64 7] 3)) ⟨some ⟨g, 0, none⟩, 1, 1, none, 0, 0, P7⟩ := by
  subst hg
  refine ⟨⟨rfl, (fun h => by cases h), fun ad h t ht => ?_⟩, SSrc.empty _, (show (1 : Nat) ≤ 17592186044415 by decide)⟩
  obtain rfl := Option.some.inj h
  have ht1 : t < 1 := ht
  obtain rfl : t = 0 := by omega
  rw [add_zero]
  have h1 := heap_alloc_new w (.cells #[.int .i64 7] 3)
  simp only [World.cell?, h1]
  rfl
attribute [local go_sem] build_P7
set_option maxRecDepth 100000 in
set_option maxHeartbeats 3200000 in
theorem checks_any (k : Int) (s : ByteArray) (q : Int) (p : Pv) (r n : Int) (w : World) (hS : PSrc w p) (hs : s.size ≤ maxLen) (hk : i64ok k) :
    Calls Tryz.prog 3 #[AcV (mkA k s q p), .int .i64 r, .int .i64 n] w fun e w' => e = .returned (.bool true) ∧ Below w.heap.size w w' := by
  have HX := hide (AcBox_new w (mkA k s q p))
  have HBK := hide (below_new w (.cells (AcC (mkA k s q p)) 27))
  have HS := hide (hS.below HBK.out)
  have HSz := hide hs
  have HK := hide hk
  clear hS hs hk
  obtain ⟨wk, hwk⟩ : ∃ wk, w.alloc (.cells (AcC (mkA k s q p)) 27) = wk := ⟨_, rfl⟩
  obtain ⟨G, hG⟩ : ∃ G, w.heap.size = G := ⟨_, rfl⟩
  rw [hwk] at HX HBK HS
  rw [hG] at HX
  obtain ⟨g7, hg7⟩ : ∃ g, wk.heap.size = g := ⟨_, rfl⟩
  have b1 := below_new wk (.cells #[.int .i64 7] 3)
  have H7 := hide (src_P7 wk g7 hg7)
  obtain ⟨w1, hw1⟩ : ∃ w1, wk.alloc (.cells #[.int .i64 7] 3) = w1 := ⟨_, rfl⟩
  rw [hw1] at b1 H7
  have HX1 := hide (HX.out.below b1)
  have HB1 := hide (HBK.out.trans (b1.mono HBK.out.size))
  have HS1 := hide (HS.out.below b1)
  clear b1 HX HBK HS
  go_enter Tryz.func3, Tryz.ntmps3
  go_wp2_with fail
  clear hwk hw1
  refine (actNext_any _ 0 9 _ H7.out).mono ?_
  rintro e w2 ⟨d, x, rfl, hd, b2⟩
  obtain ⟨rfl, rfl⟩ := hd.unique nxf_P7
  have HX2 := HX1.out.below b2
  have HB2 := HB1.out.trans (b2.mono HB1.out.size)
  have HS2 := HS1.out.below b2
  obtain ⟨g3, hg3⟩ : ∃ g, w2.heap.size = g := ⟨_, rfl⟩
  obtain ⟨w3, hst3, X3, b3, -⟩ := madeD w2 ⟨0, 8⟩ g3 hg3
  have HX3 := hide (HX2.below b3)
  have HB3 := hide (HB2.trans (b3.mono HB2.size))
  have HS3 := hide (HS2.below b3)
  have HD3 := hide X3
  have HG3 : Hid (w.heap.size ≤ g3) := by show _ ≤ _; rw [← hg3]; exact HB2.size
  have n1 : w3.cell? ⟨g3, 1, none⟩ = some (.int .i64 8) := X3.at.c1
  clear b2 HX2 HB2 HS2 b3 X3 H7 HX1 HB1 HS1 hd
  go_wp2_with fail
  refine (show Calls Tryz.prog 6 #[.agg #[.int .i64 7, .string ⟨#[]⟩, .int .i64 0, .slice none 0 0, .slice none 0 0]] w3 _ from actCheck_no 7 ⟨#[]⟩ 0 pv0 w3 (PSrc.zero _) ⟨by decide, by decide⟩ (by decide)).mono ?_
  rintro e w4 ⟨x, rfl, ⟨b, -, rfl⟩, b4⟩
  rw [show ackF 7 b (K.good (⟨#[]⟩ : ByteArray).data.toList) 0 = 7 from if_pos (by decide)]
  have HX4 := hide (HX3.out.below b4)
  have HB4 := hide (HB3.out.trans (b4.mono HB3.out.size))
  have HS4 := hide (HS3.out.below b4)
  have HD4 := hide (HD3.out.below b4)
  have l4 := run_ldAc HX4.out
  clear b4 n1 hst3 HX3 HB3 HS3 HD3
  go_wp2_with fail
  refine (refActCheck_any k s q p _ HS4.out HSz.out).mono ?_
  rintro e w5 ⟨x1, rfl, hx1, b5⟩
  have HA1 := hide hx1
  have HX5 := hide (HX4.out.below b5)
  have HB5 := hide (HB4.out.trans (b5.mono HB4.out.size))
  have HS5 := hide (HS4.out.below b5)
  have HD5 := hide (HD4.out.below b5)
  have l5 := run_ldP HX5.out.past
  clear b5 l4 hx1 HX4 HB4 HS4 HD4
  go_wp2_with fail
  refine (refActNext_any p r n _ HS5.out).mono ?_
  rintro e w6 ⟨d1, y1, rfl, hd1, b6⟩
  have HN1 := hide hd1
  have HX6 := HX5.out.below b6
  have HB6 := HB5.out.trans (b6.mono HB5.out.size)
  have HS6 := HS5.out.below b6
  have HD6 := HD5.out.below b6
  obtain ⟨g8, hg8⟩ : ∃ g, w6.heap.size = g := ⟨_, rfl⟩
  obtain ⟨w8, hst8, X8, b8, -⟩ := madeD w6 d1 g8 hg8
  have HNe : Hid (g3 ≠ g8) := by show _ ≠ _; have := HD6.lt; omega
  have HX8 := hide (HX6.below b8)
  have HB8 := hide (HB6.trans (b8.mono HB6.size))
  have HS8 := hide (HS6.below b8)
  have HD8 := hide (HD6.below b8)
  have HE8 := hide X8
  have l8 := run_ldAc HX8.out
  clear b6 b8 X8 HX6 HB6 HS6 HD6 hd1 l5 HX5 HB5 HS5 HD5
  go_wp2_with fail
  refine (actCheck_any k s q p _ HS8.out HSz.out HK.out).mono ?_
  rintro e w9 ⟨x2, rfl, hx2, b9⟩
  obtain rfl := hx2.unique HA1.out
  have HX9 := hide (HX8.out.below b9)
  have HB9 := hide (HB8.out.trans (b9.mono HB8.out.size))
  have HS9 := hide (HS8.out.below b9)
  have HD9 := hide (HD8.out.below b9)
  have HE9 := hide (HE8.out.below b9)
  have l9 := run_ldP HX9.out.past
  clear b9 l8 hx2 hst8 HX8 HB8 HS8 HD8 HE8
  go_wp2_with fail
  refine (actNext_any p r n _ HS9.out).mono ?_
  rintro e wa ⟨d2, y2, rfl, hd2, ba⟩
  obtain ⟨rfl, rfl⟩ := hd2.unique HN1.out
  have HBa := hide (HB9.out.trans (ba.mono HB9.out.size))
  have HDa := hide (HD9.out.below ba)
  have HEa := hide (HE9.out.below ba)
  have s1 := run_stD (r' := d2) HDa.out
  have HF := hide (below_setRow (cs := RC d2) HBa.out HG3.out)
  have l10 := run_ldD (HDa.out.setRow (r' := d2)).at
  have he : Box (wa.setRow g3 (RC d2)) g8 29 d2 := (setRow_other _ _ _ _ (Ne.symm HNe.out)).trans HEa.out
  have l11 := run_ldD he.at
  clear ba hd2 he l9 HX9 HB9 HS9 HD9 HE9
  go_wp2_with fail
  go_ret
  exact ⟨rfl, HF.out⟩
end Go.Proofs.YtojpjakpcihacaaGreat
