/- FPp FRd UWt LBase -/
import Derived.Test.YtphohmoibnoeaaaGreatTk
import Derived.Test.YtphohmoibnoeaaaGreatPb20
import Derived.Test.YtphohmoibnoeaaaGreatPb18
import Derived.Lib.AppendStr
import Derived.Test.YtphohmoibnoeaaaGreatRows
import Derived.WalkKit
import Derived.WalkSpells
import Derived.Deep.QuietTactic
import Derived.BigQuiet
namespace Go.Proofs.YtphohmoibnoeaaaGreat
open Go.RowKit
attribute [local go_sem ↓] ldP_eq stP_eq
attribute [local go_sem] zero_PC cells_PV PC_size

theorem checkPast_any (p : Pv) (w : World) (hS : PSrc w p) : Calls Tryz.prog 30 #[PV p] w fun e w' => ∃ x, e = .returned (.int .i64 x) ∧ ((x = 1 ∧ ¬ InForm p.P) ∨ (x = 0 ∧ InForm p.P)) ∧ Below w.heap.size w w' := by
 have b1 := below_new w (.cells (PC p) 25)
 have l1 := run_ldP (pbox_new w p).at
 have HB := hide b1
 have HS := hide (hS.below b1)
 clear hS b1
 go_enter Tryz.func30, Tryz.ntmps30
 go_wp2_with fail
 refine (isNormP_any p _ HS.out).mono ?_
 rintro e w2 ⟨b, rfl, hb, b2⟩
 have HB2 := hide (HB.out.trans (b2.mono HB.out.size))
 clear b2 l1
 cases b with
 | false =>
  have HN : Hid (¬ InForm p.P) := fun h => by have := hb.out.2 h; cases this
  clear hb
  go_wp2_with fail
  go_ret
  exact ⟨1, rfl, .inl ⟨rfl, HN.out⟩, HB2.out⟩
 | true =>
  have HN : Hid (InForm p.P) := hb.out.1 rfl
  clear hb
  go_wp2_with fail
  go_ret
  exact ⟨0, rfl, .inr ⟨rfl, HN.out⟩, HB2.out⟩
def PutA (w w' : World) (e : Ending) (P : Pst) : Prop :=
 (¬ InForm P ∧ e = .returned (.tuple #[.slice none 0 0, .int .i64 1]) ∧ Below w.heap.size w w') ∨ (InForm P ∧ ∃ bo cc, e = .returned (.tuple #[.slice bo (pastB P).length cc, .int .i64 0]) ∧ U.BR w' bo (pastB P).length cc (pastB P) ∧ U.NewB w w' bo)
theorem pw_new (w0 : World) : PW w0 (w0.alloc (.cells #[.slice none 0 0, .bool false] 125)) w0.heap.size none 0 0 [] [] := ⟨U.wk_new w0, fun x hx => by cases hx⟩
theorem pastB_len {P : Pst} (h : InForm P) : (pastB P).length ≤ 200000000000 := by
 have h1 := inf_len h
 have h2 := (canon_len (canon_iff.2 h)).1
 have h3 := vecB_len (V := P.vec) (inf_bd h)
 have h4 := cloudB_max P.cloud (trl P.vec) 0 (Int.le_refl 0) (inf_trl h) (trl_pos (inf_bd h))
 have h5 := U.numB_len 9 P.vec.length (by omega)
 have h6 := U.numB_len 9 P.cloud.length (by omega)
 unfold pastB
 simp only [List.length_append]
 omega
set_option maxRecDepth 100000 in
set_option maxHeartbeats 1600000 in
theorem packPut_any (p : Pv) (w : World) (hS : PSrc w p) : Calls Tryz.prog 29 #[PV p, .func (.func 30) #[] #[], .func (.func 31) #[] #[]] w fun e w' => PutA w w' e p.P := by
 have b1 := below_new w (.cells (PC p) 25)
 have HX := hide (pbox_new w p)
 have HB := hide b1
 have HS := hide (hS.below b1)
 clear hS b1
 obtain ⟨wk, hwk⟩ : ∃ wk, w.alloc (.cells (PC p) 25) = wk := ⟨_, rfl⟩
 obtain ⟨G, hG⟩ : ∃ G, w.heap.size = G := ⟨_, rfl⟩
 rw [hwk] at HX HB HS
 rw [hG] at HX
 have l1 := run_ldP HX.out.at
 go_enter Tryz.func29, Tryz.ntmps29
 go_wp2_with fail
 clear hwk hG
 refine (checkPast_any p _ HS.out).mono ?_
 rintro e w2 ⟨x, rfl, hx, b2⟩
 have HB2 := hide (HB.out.trans (b2.mono HB.out.size))
 have HX2 := hide (HX.out.below b2)
 have HS2 := hide (HS.out.below b2)
 clear b2 l1 HX HB HS
 rcases hx with ⟨rfl, hn⟩ | ⟨rfl, hy⟩
 ·have HN := hide hn
  clear hn
  go_wp2_with fail
  go_ret2
  exact .inl ⟨HN.out, rfl, HB2.out⟩
 ·have HY := hide hy
  clear hy
  go_wp2_with fail
  refine (U.new_any _).mono ?_
  rintro e w3 ⟨rfl, rfl⟩
  have P3 := pw_new w2
  obtain ⟨gw, hgw⟩ : ∃ gw, w2.heap.size = gw := ⟨_, rfl⟩
  obtain ⟨w3, hw3⟩ : ∃ w3, w2.alloc (.cells #[.slice none 0 0, .bool false] 125) = w3 := ⟨_, rfl⟩
  rw [hw3, hgw] at P3
  have P4 := P3.add (.cells #[U.ptr gw] 68)
  obtain ⟨b8, hb8⟩ : ∃ b8, w3.heap.size = b8 := ⟨_, rfl⟩
  obtain ⟨w4, hw4⟩ : ∃ w4, w3.alloc (.cells #[U.ptr gw] 68) = w4 := ⟨_, rfl⟩
  rw [hw4, hb8] at P4
  have HP4 := hide P4
  have c4 := box_cell (P4.keep (b8, .cells #[U.ptr gw] 68) (by simp)).1
  have l4 := run_ldP (HX2.out.below P4.wk.bel).at
  rw [hgw, hw3]
  clear P3 P4
  go_wp2_with fail
  clear hw3 hw4 hgw hb8
  refine (wpast_any HP4.out p HS2.out HY.out (by omega)).mono ?_
  rintro e w5 ⟨rfl, bo, m, cc, P5⟩
  rw [List.nil_append] at P5
  have hm := P5.wk.len
  have HP5 := hide P5
  have c5 := box_cell (P5.keep (b8, .cells #[U.ptr gw] 68) (by simp)).1
  have HM : Hid (m ≤ 200000000000) := by show _ ≤ _; rw [← hm]; exact pastB_len HY.out
  have HML := hide hm
  clear P5 c4 l4 hm
  go_wp2_with fail
  refine (U.done_ok bo m cc _ _ HP5.out.wk.w (by have := HM.out; omega)).mono ?_
  rintro e w6 ⟨bo2, cc2, rfl, hr6, hn6⟩
  have HF : Hid (PutA w w6 (.returned (.tuple #[.slice bo2 m cc2, .int .i64 0])) p.P) := by
   have hb := HB2.out.trans ((HP5.out.wk.bel.trans (hn6.1.mono HP5.out.wk.bel.size)).mono HB2.out.size)
   refine .inr ⟨HY.out, bo2, cc2, by rw [HML.out], by rw [HML.out]; exact hr6, hb, fun k e => ?_⟩
   have h1 := hn6.2 k e
   have h2 := HP5.out.wk.bel.size
   have h3 := HB2.out.size
   omega
  clear hr6 hn6 c5
  go_wp2_with fail
  go_ret2
  exact HF.out
theorem PutA.pre {w wk w' : World} {e : Ending} {P : Pst} (b : Below w.heap.size w wk) (h : PutA wk w' e P) : PutA w w' e P := by
 rcases h with ⟨h1, h2, h3⟩ | ⟨h1, bo, cc, h2, h3, h4⟩
 ·exact .inl ⟨h1, h2, b.trans (h3.mono b.size)⟩
 ·exact .inr ⟨h1, bo, cc, h2, h3, b.trans (h4.1.mono b.size), fun k e => Nat.le_trans b.size (h4.2 k e)⟩
theorem putPast_any (p : Pv) (w : World) (hS : PSrc w p) : Calls Tryz.prog 9 #[PV p] w fun e w' => PutA w w' e p.P := by
 have b1 := below_new w (.cells (PC p) 25)
 have l1 := run_ldP (pbox_new w p).at
 have HB := hide b1
 have HS := hide (hS.below b1)
 clear hS b1
 go_enter Tryz.func9, Tryz.ntmps9
 go_wp2_with fail
 refine (packPut_any p _ HS.out).mono ?_
 rintro e w2 h
 have HF := hide (h.pre HB.out)
 rcases h with ⟨h1, rfl, h3⟩ | ⟨h1, bo, cc, rfl, h3, h4⟩
 ·clear h1 h3 l1
  go_wp2_with fail
  go_ret2
  exact HF.out
 ·clear h1 h3 h4 l1
  go_wp2_with fail
  go_ret2
  exact HF.out
end Go.Proofs.YtphohmoibnoeaaaGreat
namespace Go.Proofs.YtphohmoibnoeaaaGreat
open Go.RowKit
variable {w w' : World} {g : Nat} {Z : List Int} {B : Option Nat}

def RB (w : World) (g : Nat) (Z : List Int) (B : Option Nat) : Prop := ∃ ro rn rc, U.RL w g ro rn rc Z ∧ (Z ≠ [] → U.blk ro = B)
def GaveE (w w' : World) (g : Nat) : Prop := ∃ e, e ≠ 0 ∧ U.Gave w w' g e
theorem GaveE.pre {w2 : World} (K : U.Kg w w' g) (h : GaveE w' w2 g) : GaveE w w2 g := by
 obtain ⟨e, he, h1, h2⟩ := h
 exact ⟨e, he, h1, K.trans h2⟩
def NumP (w w' : World) (g : Nat) (B : Option Nat) (o : Option (Nat × List Int)) (r : Ending) : Prop :=
 (o = none ∧ r = .panicked (U.ups g) ∧ GaveE w w' g) ∨ ∃ v Z1, o = some (v, Z1) ∧ r = .returned (.int .i64 (v : Int)) ∧ RB w' g Z1 B ∧ U.Kg w w' g
theorem num_p (R : RB w g Z B) (most : Int) : Calls Tryz.prog 76 #[U.ptr g, .int .i64 most] w fun r w' => NumP w w' g B (U.pNum most Z) r := by
 obtain ⟨ro, rn, rc, R, hB⟩ := R
 unfold U.pNum
 by_cases h : U.nmE Z most = 0
 ·rw [if_pos h]
  refine (U.Num_ok R h).mono ?_
  rintro r w' ⟨rfl, so, sc, h1, h2, h3⟩
  exact .inr ⟨_, _, rfl, rfl, ⟨so, _, sc, h1, fun hz => h2.trans (hB (fun e => hz (by rw [e]; simp)))⟩, h3⟩
 ·rw [if_neg h]
  refine (U.num_bad R rfl h).mono ?_
  rintro r w' ⟨rfl, h1⟩
  exact .inl ⟨rfl, rfl, _, h, h1⟩
theorem cnt_p (R : RB w g Z B) (each : Int) : Calls Tryz.prog 77 #[U.ptr g, .int .i64 each] w fun r w' => NumP w w' g B (U.pCnt each Z) r := by
 obtain ⟨ro, rn, rc, R, hB⟩ := R
 unfold U.pCnt
 by_cases h : U.ctE Z each = 0
 ·rw [if_pos h]
  refine (U.count_ok R h).mono ?_
  rintro r w' ⟨rfl, so, sc, h1, h2, h3⟩
  exact .inr ⟨_, _, rfl, rfl, ⟨so, _, sc, h1, fun hz => h2.trans (hB (fun e => hz (by rw [e]; simp)))⟩, h3⟩
 ·rw [if_neg h]
  refine (U.count_bad R rfl h).mono ?_
  rintro r w' ⟨rfl, h1⟩
  exact .inl ⟨rfl, rfl, _, h, h1⟩
theorem RB.lt (R : RB w g Z B) : g < w.heap.size := by obtain ⟨ro, rn, rc, R, hB⟩ := R; exact R.r.lt
theorem RB.below (R : RB w g Z B) (hb : Below w.heap.size w w') : RB w' g Z B := by obtain ⟨ro, rn, rc, R, hB⟩ := R; exact ⟨ro, rn, rc, R.kg_below hb, hB⟩
theorem TrB.kg {gt : Nat} {gap r0 : Int} {T : Nat → Int} (h : TrB w gt gap r0 T) (K : U.Kg w w' g) (hn : gt ≠ g) : TrB w' gt gap r0 T := (K.block gt h.lt hn).trans h
theorem pNum_le {most : Int} {v : Nat} {Z1 : List Int} (h : U.pNum most Z = some (v, Z1)) : (v : Int) ≤ most := by
 unfold U.pNum at h
 split at h
 ·rename_i h0
  simp only [Option.some.injEq, Prod.mk.injEq] at h
  have := (U.nm_ok h0).2.1
  omega
 ·cases h
def plG (gap : Int) (T : Nat → Int) (r0 : Int) (Z : List Int) : Option (Int × Int × List Int) :=
 match U.pNum (15 - r0) Z with
 | none => none
 | some (a, Z1) =>
  match U.pNum (1000000000 - (T (r0 + a).toNat + gap)) Z1 with
  | none => none
  | some (b, Z2) => some (r0 + a, T (r0 + a).toNat + gap + b, Z2)
def plF (T : Nat → Int) (r0 : Int) (Z : List Int) : Option (Int × Int × List Int) :=
 match U.pNum (15 - r0) Z with
 | none => none
 | some (a, Z1) =>
  match U.pNum (1000000000 - (T (r0 + a).toNat + 2)) Z1 with
  | none => none
  | some (b, Z2) => some (r0 + a, T (r0 + a).toNat + 2 + b, Z2)
def PlP (w w' : World) (g : Nat) (B : Option Nat) (o : Option (Int × Int × List Int)) (r : Ending) : Prop :=
 (o = none ∧ r = .panicked (U.ups g) ∧ GaveE w w' g) ∨ ∃ a b Z1, o = some (a, b, Z1) ∧ r = .returned (.tuple #[.int .i64 a, .int .i64 b]) ∧ RB w' g Z1 B ∧ U.Kg w w' g
set_option maxRecDepth 100000 in
set_option maxHeartbeats 3200000 in
theorem rplaceG_any {gt : Nat} {gap r0 : Int} {T : Nat → Int} (hgap : 1 ≤ gap ∧ gap ≤ 2) (R : RB w g Z B) (hT : TrB w gt gap r0 T) (hne : gt ≠ g) (h0 : 0 ≤ r0 ∧ r0 ≤ 15) (hTb : ∀ k, 0 ≤ T k ∧ T k ≤ 1000000000) :
  Calls Tryz.prog 78 #[.agg #[U.ptr g], U.ptr gt] w fun e w' => PlP w w' g B (plG gap T r0 Z) e := by
 have hb := U.below_new w (.cells #[U.ptr g] 84)
 have hx := heap_alloc_new w (.cells #[U.ptr g] 84)
 have HLT := hide R.lt
 have HTL := hide hT.lt
 have HR := hide (R.below hb)
 have HT := hide (hT.below hb)
 have HN := hide hne
 have HTb := hide hTb
 have H0 := hide h0
 have HK : Hid (U.Kg w (w.alloc (.cells #[U.ptr g] 84)) g) := U.Kg.of_below hb
 obtain ⟨W1, hW1⟩ : ∃ W1, w.alloc (.cells #[U.ptr g] 84) = W1 := ⟨_, rfl⟩
 obtain ⟨b2, hb2⟩ : ∃ b2, w.heap.size = b2 := ⟨_, rfl⟩
 rw [hW1] at HR HT hx HK
 rw [hb2] at hx HLT HTL
 have HX : Hid (W1.heap[b2]? = some (.cells #[U.ptr g] 84)) := hx
 have HBG : Hid (b2 ≠ g) := fun e => by have := HLT.out; omega
 obtain ⟨m1, hm1⟩ : ∃ m1 : Int, 15 - r0 = m1 := ⟨_, rfl⟩
 have hw1 : IntKind.i64.wrap (15 - r0) = m1 := by rw [IntKind.wrap_i64]; omega
 have hwz : ∀ v : Nat, (v : Int) ≤ m1 → ∃ kk : Nat, kk < 16 ∧ r0 + (v : Int) = kk ∧ IntKind.i64.wrap (r0 + (v : Int)) = kk := fun v hv => ⟨(r0 + (v : Int)).toNat, by omega, by omega, by rw [IntKind.wrap_i64]; omega⟩
 have HWZ := hide hwz
 have HM1 := hide hm1
 have HGp := hide hgap
 have HC : Hid (∀ V, U.Kg W1 V g → V.cell? ⟨b2, 0, none⟩ = some (U.ptr g) ∧ TrB V gt gap r0 T) := fun V K => ⟨box_cell ((K.block b2 (Array.getElem?_eq_some_iff.1 HX.out).1 HBG.out).trans HX.out), HT.out.kg K HN.out⟩
 clear R hT hb hx hne hTb h0 hwz hm1
 go_enter Tryz.func78, Tryz.ntmps78
 go_wp2_with fail
 clear hW1 hb2
 refine wp_region_held_drew (S := fun v => v.cell? ⟨b2, 0, none⟩ = some (U.ptr g) ∧ v.cell? ⟨gt, 1, none⟩ = some (.int .i64 r0)) (by kernel_rfl) (⟨(HC.out _ ((U.Kg.of_below (U.below_drew1 W1)))).1, (HC.out _ ((U.Kg.of_below (U.below_drew1 W1)))).2.c1⟩) (fun hHeld => ?_)
 refine wTk 0 ⟨some 6, .move (.tmp 1), 104, "reader.go:57", #[], none⟩ rfl ?_
 refine wTk 1 ⟨some 7, .nilCheck (.tmp 6), 0, "reader.go:57", #[⟨0, .data⟩], none⟩ rfl ?_
 refine wTk 2 ⟨some 8, .fieldAddr 133 (.tmp 7) 1, 0, "reader.go:57", #[⟨1, .data⟩], none⟩ rfl ?_
 refine wTk 3 ⟨some 9, .load 3 (.tmp 8), 3, "reader.go:57", #[⟨2, .data⟩], none⟩ rfl ?_
 refine wTk 4 ⟨some 10, .fieldAddr 84 (.tmp 2) 0, 0, "reader.go:57", #[], none⟩ rfl ?_
 refine wTk 5 ⟨some 11, .load 82 (.tmp 10), 82, "reader.go:57", #[⟨4, .data⟩], none⟩ rfl ?_
 refine wTk 6 ⟨some 12, .move (.tmp 1), 104, "reader.go:57", #[], none⟩ rfl ?_
 refine wTk 7 ⟨some 13, .nilCheck (.tmp 12), 0, "reader.go:57", #[⟨6, .data⟩], none⟩ rfl ?_
 refine wTk 8 ⟨some 14, .fieldAddr 133 (.tmp 13) 1, 0, "reader.go:57", #[⟨7, .data⟩], none⟩ rfl ?_
 refine wTk 9 ⟨some 15, .load 3 (.tmp 14), 3, "reader.go:57", #[⟨8, .data⟩], none⟩ rfl ?_
 refine wTk 10 ⟨some 16, .binOp .sub 3 (.const (.int .i64 15)) (.tmp 15) 3, 3, "reader.go:57", #[⟨9, .data⟩], none⟩ rfl ?_
 refine wpAnyH_ready (rs := [11]) (by kernel_rfl) (by simp) (.cons rfl (fun K hK => ?_) .nil)
 go_simp
 go_wp2_with fail
 refine (num_p (HR.out.below (U.below_drew1 W1)) m1).mono ?_
 rintro e W2 (⟨hn, rfl, hg⟩ | ⟨v, Z1, hs, rfl, R2, K2⟩)
 ·have HF : Hid (PlP w W2 g B (plG gap T r0 Z) (.panicked (U.ups g))) := .inl ⟨by unfold plG; rw [HM1.out, hn], rfl, GaveE.pre HK.out (GaveE.pre (U.Kg.of_below (U.below_drew1 W1)) hg)⟩
  clear hn hg
  go_wp2_with fail
  exact ⟨rfl, HF.out⟩
 have HK2 : Hid (U.Kg W1 W2 g) := (U.Kg.of_below (U.below_drew1 W1)).trans K2
 have HR2 := hide R2
 have hvm := pNum_le hs
 obtain ⟨kk, hk16, hkk, hwv⟩ := HWZ.out v hvm
 have HKK := hide hkk
 have HK16 := hide hk16
 have HS1 := hide hs
 refine hK.out _ _ (⟨(HC.out _ (HK2.out)).1, (HC.out _ (HK2.out)).2.c1⟩) (fun hHeld => ?_)
 clear hK K hs R2 K2 hkk hvm hk16
 refine wTk 12 ⟨some 18, .binOp .add 3 (.tmp 9) (.tmp 17) 3, 3, "reader.go:57", #[⟨3, .data⟩, ⟨11, .data⟩], none⟩ rfl ?_
 refine wTk 13 ⟨some 4, .assign (.tmp 18), 3, "reader.go:57", #[⟨12, .data⟩, ⟨11, .chain⟩, ⟨0, .phase⟩, ⟨1, .phase⟩, ⟨2, .phase⟩, ⟨3, .phase⟩, ⟨4, .phase⟩, ⟨5, .phase⟩, ⟨6, .phase⟩, ⟨7, .phase⟩, ⟨8, .phase⟩, ⟨9, .phase⟩, ⟨10, .phase⟩, ⟨11, .phase⟩, ⟨12, .phase⟩], none⟩ rfl ?_
 refine wpAnyH_done (by kernel_rfl) ?_ _
 clear hHeld
 have hTk := HTb.out kk
 have hgp := HGp.out
 obtain ⟨tk, htk⟩ : ∃ tk, T kk + gap = tk := ⟨_, rfl⟩
 have HTK := hide htk
 obtain ⟨m2, hm2⟩ : ∃ m2 : Int, 1000000000 - tk = m2 := ⟨_, rfl⟩
 have hw2 : IntKind.i64.wrap (1000000000 - tk) = m2 := by rw [IntKind.wrap_i64]; omega
 have HWY : Hid (∀ v : Nat, (v : Int) ≤ m2 → IntKind.i64.wrap (tk + (v : Int)) = tk + (v : Int)) := fun v hv => by rw [IntKind.wrap_i64]; omega
 have HM2 := hide hm2
 clear htk hm2 hTk hgp
 go_wp2_with fail
 refine wp_region_held_drew (S := fun v => v.cell? ⟨b2, 0, none⟩ = some (U.ptr g) ∧ v.cell? ⟨gt, 1, none⟩ = some (.int .i64 r0)) (by kernel_rfl) (⟨(HC.out _ ((HK2.out.trans (U.Kg.of_below (U.below_drew1 W2))))).1, (HC.out _ ((HK2.out.trans (U.Kg.of_below (U.below_drew1 W2))))).2.c1⟩) (fun hHeld => ?_)
 refine wTk 0 ⟨some 19, .move (.tmp 1), 104, "reader.go:58", #[], none⟩ rfl ?_
 refine wTk 1 ⟨some 20, .move (.tmp 4), 3, "reader.go:58", #[], none⟩ rfl ?_
 refine wTk 3 ⟨some 22, .fieldAddr 84 (.tmp 2) 0, 0, "reader.go:58", #[], none⟩ rfl ?_
 refine wTk 4 ⟨some 23, .load 82 (.tmp 22), 82, "reader.go:58", #[⟨3, .data⟩], none⟩ rfl ?_
 refine wTk 5 ⟨some 24, .move (.tmp 1), 104, "reader.go:58", #[], none⟩ rfl ?_
 refine wTk 6 ⟨some 25, .move (.tmp 4), 3, "reader.go:58", #[], none⟩ rfl ?_
 refine wpAnyH_ready (rs := [2]) (by kernel_rfl) (by simp) (.cons rfl (fun K hK => ?_) .nil)
 go_simp
 go_wp2_with fail
 refine (least_any (HC.out _ (HK2.out.trans (U.Kg.of_below (U.below_drew1 W2)))).2 kk HK16.out (by have := HGp.out; omega) (HTb.out kk)).mono ?_
 rintro e W3 ⟨rfl, b3⟩
 rw [HTK.out]
 have HK3 : Hid (U.Kg W1 W3 g) := (HK2.out.trans (U.Kg.of_below (U.below_drew1 W2))).trans (U.Kg.of_below b3)
 have HR3 := hide ((HR2.out.below (U.below_drew1 W2)).below b3)
 refine hK.out _ _ (⟨(HC.out _ (HK3.out)).1, (HC.out _ (HK3.out)).2.c1⟩) (fun hHeld => ?_)
 clear hK K b3
 refine wpAnyH_ready (rs := [7]) (by kernel_rfl) (by simp) (.cons rfl (fun K hK => ?_) .nil)
 go_simp
 go_wp2_with fail
 refine (least_any (HC.out _ HK3.out).2 kk HK16.out (by have := HGp.out; omega) (HTb.out kk)).mono ?_
 rintro e W4 ⟨rfl, b4⟩
 rw [HTK.out]
 have HK4 : Hid (U.Kg W1 W4 g) := HK3.out.trans (U.Kg.of_below b4)
 have HR4 := hide (HR3.out.below b4)
 refine hK.out _ _ (⟨(HC.out _ (HK4.out)).1, (HC.out _ (HK4.out)).2.c1⟩) (fun hHeld => ?_)
 clear hK K b4
 refine wTk 8 ⟨some 27, .binOp .sub 3 (.const (.int .i64 1000000000)) (.tmp 26) 3, 3, "reader.go:58", #[⟨7, .data⟩], none⟩ rfl ?_
 refine wpAnyH_ready (rs := [9]) (by kernel_rfl) (by simp) (.cons rfl (fun K hK => ?_) .nil)
 go_simp
 go_wp2_with fail
 refine (num_p HR4.out m2).mono ?_
 rintro e W5 (⟨hn, rfl, hg⟩ | ⟨u, Z2, hs, rfl, R5, K5⟩)
 ·have HF : Hid (PlP w W5 g B (plG gap T r0 Z) (.panicked (U.ups g))) := .inl ⟨by unfold plG; rw [HM1.out, HS1.out]; simp only; rw [HKK.out, Int.toNat_natCast, HTK.out, HM2.out, hn], rfl, GaveE.pre HK.out (GaveE.pre HK4.out hg)⟩
  clear hn hg
  go_wp2_with fail
  exact ⟨rfl, HF.out⟩
 have hwu := HWY.out u (pNum_le hs)
 have HF : Hid (PlP w W5 g B (plG gap T r0 Z) (.returned (.tuple #[.int .i64 (kk : Int), .int .i64 (tk + (u : Int))]))) := .inr ⟨_, _, Z2, by unfold plG; rw [HM1.out, HS1.out]; simp only; rw [HKK.out, Int.toNat_natCast, HTK.out, HM2.out, hs], rfl, R5, HK.out.trans (HK4.out.trans K5)⟩
 refine hK.out _ _ (⟨(HC.out _ (HK4.out.trans K5)).1, (HC.out _ (HK4.out.trans K5)).2.c1⟩) (fun hHeld => ?_)
 clear hK K hs R5 K5
 refine wTk 10 ⟨some 29, .binOp .add 3 (.tmp 21) (.tmp 28) 3, 3, "reader.go:58", #[⟨2, .data⟩, ⟨9, .data⟩], none⟩ rfl ?_
 refine wTk 11 ⟨some 5, .assign (.tmp 29), 3, "reader.go:58", #[⟨10, .data⟩, ⟨9, .chain⟩, ⟨0, .phase⟩, ⟨1, .phase⟩, ⟨2, .phase⟩, ⟨3, .phase⟩, ⟨4, .phase⟩, ⟨5, .phase⟩, ⟨6, .phase⟩, ⟨7, .phase⟩, ⟨8, .phase⟩, ⟨9, .phase⟩, ⟨10, .phase⟩], none⟩ rfl ?_
 refine wpAnyH_done (by kernel_rfl) ?_ _
 clear hHeld
 go_wp2_with fail
 go_ret2
 exact HF.out
theorem rplace_any {gt : Nat} {r0 : Int} {T : Nat → Int} (R : RB w g Z B) (hT : TrB w gt 2 r0 T) (hne : gt ≠ g) (h0 : 0 ≤ r0 ∧ r0 ≤ 15) (hTb : ∀ k, 0 ≤ T k ∧ T k ≤ 1000000000) :
  Calls Tryz.prog 78 #[.agg #[U.ptr g], U.ptr gt] w fun e w' => PlP w w' g B (plF T r0 Z) e := rplaceG_any (gap := 2) ⟨by decide, by decide⟩ R hT hne h0 hTb
end Go.Proofs.YtphohmoibnoeaaaGreat
namespace Go.Proofs.YtphohmoibnoeaaaGreat.U
open Go.RowKit
variable {w w' w2 : World} {g : Nat}

theorem str_at (w : World) (ty : TypeId) (v : Value) (n : Nat) (xs : List Value) (hown : w.ownsRow 0 5 1 v n xs) (s : ByteArray) (hb : n + s.size ≤ 140737488355328) :
  ∃ v' w', (Builtin.append_ #[28, 9] ty #[v, .string s]).run Tryz.prog w = .ok v' w' ∧ (v'.ownBlock = v.ownBlock ∨ v'.ownBlock = some w.heap.size) := by
 obtain ⟨i0, hi, hz0, hz1, hz2⟩ := info_parts infoB
 rcases hown.2 with ⟨rfl, rfl⟩ | ⟨g, cap, cur, rfl, hbg, hg, hnc, hcm, hcs, htake⟩
 ·by_cases hm : s.size = 0
  ·obtain ⟨v', w', hr, -, -, h4⟩ := Lib.run_append_own_string (P := Tryz.prog) w 0 28 9 ty 5 i0 Tryz.underlying28 Tryz.underlying9 hi hz0 hz1 hz2 _ 0 xs hown s (by unfold maxLen; omega) hb (Nat.zero_le _)
   have e := h4.2 ⟨rfl, hm⟩
   subst e
   exact ⟨_, _, hr, Or.inl rfl⟩
  ·have hr := run_append_nil_string (P := Tryz.prog) w 28 9 ty 5 i0 (.int .u8 0) Tryz.underlying28 Tryz.underlying9 hi hz0 s (by omega) (by omega) (by rw [hz2]; omega)
   exact ⟨_, _, hr, Or.inr rfl⟩
 ·by_cases hroom : n + s.size ≤ cap
  ·have hr := Lib.run_append_room_string (P := Tryz.prog) w 28 9 ty 5 i0 Tryz.underlying28 Tryz.underlying9 hi hz1 g n cap cur hg s hroom (by omega)
   exact ⟨_, _, hr, Or.inl rfl⟩
  ·have holds : ∀ j u, xs[j]? = some u → w.cell? ((⟨g, 0, none⟩ : Addr).add j) = some u := hown.cells (g := g) rfl
   have hxl : xs.length = n := by simpa using hown.1
   have hr := Lib.run_append_grow_string (P := Tryz.prog) w 28 9 ty 5 i0 (.int .u8 0) Tryz.underlying28 Tryz.underlying9 hi hz0 ⟨g, 0, none⟩ n cap xs (by rw [hz1]; simpa using hxl) holds s (by omega) (by omega) (by rw [hz2]; exact growslice_fits (by omega) (by omega))
   exact ⟨_, _, hr, Or.inr rfl⟩
def strB (s : ByteArray) : List Int := s.data.toList.map fun b => (b.toNat : Int)
theorem strB_length (s : ByteArray) : (strB s).length = s.size := by rw [strB, List.length_map]; rfl
theorem strB_cells (s : ByteArray) : Lib.strCells s = bcs (strB s) := by simp [Lib.strCells, bcs, strB]
theorem BR.appS {ao : Option Addr} {n cap : Nat} {Z : List Int} (h : BR w ao n cap Z) (t : ByteArray) (hb : n + t.size ≤ 140737488355328)
  {ops : Array Oper} {rest : List Oper} {o : Oper} {a : Act} {Q : Exit → Act → World → Prop} (hgd : o.guard = none) (s y : Operand) (ho : o.op = .call { callee := .builtin .append, args := #[s, y], argTypes := #[28, 9] })
  (hs : a.eval s = .slice ao n cap) (hy : a.eval y = .string t)
  (hK : ∀ (bo : Option Addr) (cap2 : Nat) (w2 : World), BR w2 bo (n + t.size) cap2 (Z ++ strB t) → Ap w w2 ao bo → wpList Tryz.prog ops Q rest (a.put o.dst (.slice bo (n + t.size) cap2)) w2) :
  wpList Tryz.prog ops Q (o :: rest) a w := by
 obtain ⟨i0, hi, hz0, hz1, hz2⟩ := info_parts infoB
 refine wpList_plain hgd fun K hK2 => ?_
 obtain ⟨v', w2, hr, h2, h3, h4⟩ := Lib.run_append_own_string (P := Tryz.prog) w 0 28 9 o.type 5 i0 Tryz.underlying28 Tryz.underlying9 hi hz0 hz1 hz2 _ n _ h t (by unfold maxLen; omega) hb (Nat.zero_le _)
 obtain ⟨v3, w3, hr3, hat⟩ := str_at w o.type _ n _ h t hb
 obtain ⟨rfl, rfl⟩ : v3 = v' ∧ w3 = w2 := by
  rw [hr] at hr3
  injection hr3 with e1 e2
  exact ⟨e1.symm, e2.symm⟩
 rw [strB_cells, ← bcs_append] at h2
 obtain ⟨bo, c2, rfl, hB⟩ := BR.out h2
 rw [ownBlock_blk] at h3
 rw [ownBlock_blk, ownBlock_blk] at hat
 unfold Oper.wp execOp
 simp only [ho, resolve, invoke, builtin, Sem.run_bind, Sem.run_pure, Result.andThen_ok, List.map_toArray, List.map_cons, List.map_nil, hs, hy, hr]
 refine hK2 _ _ (hK bo c2 w3 hB ⟨h3, ?_⟩)
 rcases hat with e | e
 ·exact Or.inl e
 ·exact Or.inr ⟨_, e, Nat.le_refl _⟩
theorem frameS_any (ao : Option Addr) (n c : Nat) (Z : List Int) (s : ByteArray) (w : World) (S : BR w ao n c Z) (hn : n + s.size ≤ 140737488355000) :
  Calls Tryz.prog 97 #[.slice ao n c, .string s] w fun r w' => ∃ bo m cc, r = .returned (.slice bo m cc) ∧ BR w' bo m cc (Z ++ (numB s.size ++ strB s)) ∧ Ap w w' ao bo := by
 have HS := hide S
 have HN := hide hn
 clear S hn
 go_enter Tryz.func97, Tryz.ntmps97
 go_wp2_with fail
 refine (appendNum_any ao n c Z s.size w HS.out (by have := HN.out; omega) (by have := HN.out; omega)).mono ?_
 rintro r w2 ⟨bo, cc, rfl, B2, A2⟩
 have HL : Hid (n + (numB s.size).length + s.size ≤ 140737488355328) := by show _ ≤ _; have := HN.out; have := numB_nine (n := s.size) (by omega); omega
 have HB := hide B2
 have HA := hide A2
 clear B2 A2
 go_wp2_with (at_builtin; refine HB.out.appS s HL.out rfl (.tmp 8) (.tmp 9) rfl rfl rfl ?_; intro b5 c5 w5 S5 A5; have HS5 := hide S5; have HA5 := hide (HA.out.trans A5); clear S5 A5)
 go_ret
 refine ⟨b5, _, c5, rfl, ?_, HA5.out⟩
 rw [← List.append_assoc]
 exact HS5.out

theorem wtext_any (ao : Option Addr) (n cap : Nat) (Z : List Int) (sp : Bool) (s : ByteArray) (w : World) (W : Wr w g ao n cap Z sp) (hao : sp = true → ao = none) (hn : n + s.size ≤ 140737488355000) :
  Calls Tryz.prog 68 #[ptr g, .string s] w fun r w' => r = .returned (.tuple #[]) ∧ Puts w w' g ao Z (numB s.size ++ strB s) sp := by
 have HW := hide W
 have x0 := W.c0
 have HA := hide hao
 have HN := hide hn
 clear W hao hn
 go_enter Tryz.func68, Tryz.ntmps68
 go_wp2_with fail
 refine (frameS_any ao n cap Z s w HW.out.row HN.out).mono ?_
 rintro r w2 ⟨bo, m, cc, rfl, B2, A2⟩
 have HB := hide B2
 have HP := hide A2
 clear B2 A2 x0
 go_wp2_with fail
 refine (hold_any HW.out HA.out HP.out HB.out).mono ?_
 rintro r w3 ⟨rfl, P3⟩
 have HF := hide P3
 clear P3
 go_wp2_with fail
 go_end0
 exact ⟨rfl, HF.out⟩
def flagB (b : Bool) : Int := if b then 1 else 0
end Go.Proofs.YtphohmoibnoeaaaGreat.U
namespace Go.Proofs.YtphohmoibnoeaaaGreat.K
open Go.RowKit

theorem hide {p : Prop} (h : p) : Hid p := h
def dig (c : UInt8) : Bool := decide (48 ≤ (c.toNat : Int)) && decide ((c.toNat : Int) ≤ 57)
theorem ret_bool {a b : Bool} (h : a = b) : Ending.returned (.bool a) = .returned (.bool b) := by rw [h]
theorem ret_int {k : IntKind} {a b : Int} (h : a = b) : Ending.returned (.int k a) = .returned (.int k b) := by rw [h]
theorem ret_two {a a' b b' : Int} (h : a = a') (h2 : b = b') : Ending.returned (.tuple #[.int .i64 a, .int .i64 b]) = .returned (.tuple #[.int .i64 a', .int .i64 b']) := by rw [h, h2]
theorem empty_yes (s : ByteArray) (h : s.size = 0) : s.toList.isEmpty = true := by
 rw [ByteArray.toList_eq, List.isEmpty_iff, ← List.length_eq_zero_iff]; simpa using h
theorem empty_no (s : ByteArray) (h : ¬ s.size = 0) : s.toList.isEmpty = false := by
 rw [ByteArray.toList_eq, List.isEmpty_eq_false_iff, ← List.length_pos_iff]; have : s.data.size = s.size := rfl; simp; omega
end Go.Proofs.YtphohmoibnoeaaaGreat.K
