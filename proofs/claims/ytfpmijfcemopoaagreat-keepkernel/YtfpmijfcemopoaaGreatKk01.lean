/- KeepKernel: the law. -/
import Derived.Test.YtfpmijfcemopoaaGreatTk
import Derived.Test.YtfpmijfcemopoaaGreatKm08
import Derived.Test.YtfpmijfcemopoaaGreatKk00
namespace Go.Proofs.YtfpmijfcemopoaaGreat
open Go.RowKit
attribute [local go_sem ↓] ldP_eq stP_eq K.ld28_eq K.st28_eq K.ld26_eq
attribute [local go_sem] cells_PV PC_size cells_KsV KsC_size
theorem any_mem (Z : List K.En) (x : K.En) : Z.any (fun e => K.eqE e x) = true ↔ x ∈ Z := by
 rw [List.any_eq_true]
 constructor
 ·rintro ⟨e, he, h⟩
  rw [← (K.eqE_iffK e x).1 h]; exact he
 ·intro h
  exact ⟨x, h, (K.eqE_iffK x x).2 rfl⟩
theorem any_is {Z : List K.En} {x : K.En} {b : Bool} (h : x ∈ Z ↔ b = true) : Z.any (fun e => K.eqE e x) = b := by
 have h1 := any_mem Z x
 cases h2 : Z.any (fun e => K.eqE e x) <;> cases b
 ·rfl
 ·rw [h2] at h1; exact absurd (h1.2 (h.2 rfl)) (by decide)
 ·rw [h2] at h1; exact absurd (h.1 (h1.1 rfl)) (by decide)
 ·rfl
theorem kern_A {A B Z : List K.En} {P O : Pst} (hZ : ∀ x, x ∈ Z ↔ KeptM A B P O x) {x : K.En} (hx : x ∈ A) : Z.any (fun e => K.eqE e x) = stayB B O x := any_is (by
 rw [hZ x]
 unfold KeptM
 constructor
 ·rintro (⟨-, h⟩ | ⟨h, -⟩)
  ·exact h
  ·unfold stayB; rw [any_self h]; rfl
 ·intro h
  exact .inl ⟨hx, h⟩)
theorem kern_B {A B Z : List K.En} {P O : Pst} (hZ : ∀ x, x ∈ Z ↔ KeptM A B P O x) {x : K.En} (hx : x ∈ B) : Z.any (fun e => K.eqE e x) = stayB A P x := any_is (by
 rw [hZ x]
 unfold KeptM
 constructor
 ·rintro (⟨h, -⟩ | ⟨-, h⟩)
  ·unfold stayB; rw [any_self h]; rfl
  ·exact h
 ·intro h
  exact .inr ⟨hx, h⟩)
theorem memE_at {L : List K.En} {k : Nat} (h : k < L.length) : L.getD k K.en0 ∈ L := by
 have : L.getD k K.en0 = L[k] := by simp [List.getD, List.getElem?_eq_getElem h]
 rw [this]; exact List.getElem_mem h
theorem inB_is {P : Pst} {e : K.En} {b : Bool} (h : BIf b (dotIn P ⟨e.rep, e.num⟩)) : inB P e = b := by
 have h1 := inB_iff P e
 cases h2 : inB P e <;> cases b
 ·rfl
 ·rw [h2] at h1; exact absurd (h1.2 (h.out.1 rfl)) (by decide)
 ·rw [h2] at h1; exact absurd (h.out.2 (h1.1 rfl)) (by decide)
 ·rfl
set_option maxRecDepth 100000 in
set_option maxHeartbeats 12800000 in
theorem keepKernel_law (m : Ks) (A B : List K.En) (w : World) (hS : KsE w m A B) :
  Calls Tryz.prog 7 #[KsV m] w fun e w' => e = .returned (.bool true) ∧ Below w.heap.size w w' := by
 have HS := hide hS
 have HX := hide (KsBox_new w m)
 have HB := hide (below_new w (.cells (KsC m) 29))
 have hanb := hS.a.2.2.2.2
 have hbnb := hS.b.2.2.2.2
 have HL : Hid (A.length = m.an ∧ B.length = m.bn) := ⟨hS.a.1, hS.b.1⟩
 clear hS
 obtain ⟨wk, hwk⟩ : ∃ wk, w.alloc (.cells (KsC m) 29) = wk := ⟨_, rfl⟩
 obtain ⟨G, hG⟩ : ∃ G, w.heap.size = G := ⟨_, rfl⟩
 rw [hwk] at HX HB
 rw [hG] at HX
 go_enter Tryz.func7, Tryz.ntmps7
 go_wp2_with fail
 refine (fixed_any _).mono ?_
 rintro e w2 ⟨rfl, b2⟩
 have HK2 : Hid (BKc w w2 G m) := ⟨HX.out.below b2, HB.out.trans (b2.mono HB.out.size)⟩
 clear b2 HX HB hwk hG
 have a2 := HK2.out.box.a
 have c2 := HK2.out.box.b
 have p2 := run_ldP HK2.out.box.p
 have o2 := run_ldP HK2.out.box.o
 go_wp2_with fail
 clear a2 c2 p2 o2
 refine (merge_any m.ao m.bo m.an m.ac m.bn m.bc A B m.p m.o w2 (HS.out.a.below HK2.out.bel) (HS.out.b.below HK2.out.bel) (HS.out.p.below HK2.out.bel) (HS.out.o.below HK2.out.bel)).mono ?_
 rintro e w3 ⟨a3, n3, c3, Z, er, rfl, S3, b3, D3⟩
 have HK3 := hide (HK2.out.below b3)
 have HZ3 := hide S3
 have HD3 := hide D3
 clear S3 b3 D3 HK2
 have a2 := HK3.out.box.a
 have c2 := HK3.out.box.b
 have p2 := run_ldP HK3.out.box.p
 have o2 := run_ldP HK3.out.box.o
 go_wp2_with fail
 clear a2 c2 p2 o2
 refine (refMerge_any m.ao m.bo m.an m.ac m.bn m.bc A B m.p m.o w3 (HS.out.a.below HK3.out.bel) (HS.out.b.below HK3.out.bel) (HS.out.p.below HK3.out.bel) (HS.out.o.below HK3.out.bel)).mono ?_
 rintro e w4 ⟨a4, n4, c4, Z', er', rfl, S4, b4, D4⟩
 obtain ⟨rfl, rfl⟩ := HD3.out.one D4
 have HK4 := hide (HK3.out.below b4)
 have HZ4 := hide (HZ3.out.below b4)
 clear S4 b4 D4 HK3 HZ3
 have hzl : n3 ≤ 3518437208883 := HZ4.out.2.2.2.2
 rcases HD3.out with ⟨-, rfl, rfl⟩ | ⟨-, -, rfl, rfl⟩ | ⟨-, -, rfl, hAs, hm⟩
 ·go_wp2_with fail
  go_ret
  exact ⟨rfl, HK4.out.bel⟩
 ·go_wp2_with fail
  go_ret
  exact ⟨rfl, HK4.out.bel⟩
 have HZl : Hid (Z.length = n3) := HZ4.out.1
 have HAs := hide hAs
 have HM := hide hm
 clear hAs hm HD3
 go_wp2_with fail
 go_loopw [7] (fun i wr => ∃ k : Nat, k ≤ n3 ∧ i = .int .i64 (k : Int) ∧ Hid (Below w4.heap.size w4 wr)) (fun i _ => n3 - (intOf i).toNat)
 case atStart => exact ⟨0, Nat.zero_le _, rfl, Below.refl _ _⟩
 case round =>
  obtain ⟨k, hk, rfl, HI⟩ := hrel
  rename World => wr
  by_cases hlt : k < n3
  ·have hlti : (k : Int) < (n3 : Int) := by omega
   obtain ⟨zd, hzo, Z0⟩ := (HZ4.out.below HI.out).at k hlt
   subst hzo
   obtain ⟨z, Hz⟩ : ∃ z, Hid (Z.getD k K.en0 = z) := ⟨_, rfl⟩
   rw [Hz.out] at Z0
   have HZ0 := hide Z0
   have Hlt := hide hlt
   have HKr := hide (HK4.out.below HI.out)
   have HMz : Hid (A.any (fun e => K.eqE e z) = true ∨ B.any (fun e => K.eqE e z) = true) := by
    have h1 : z ∈ Z := by rw [← Hz.out]; exact memE_at (by rw [HZl.out]; exact hlt)
    rcases (HM.out z).1 h1 with ⟨h2, -⟩ | ⟨h2, -⟩
    ·exact .inl ((any_mem A z).2 h2)
    ·exact .inr ((any_mem B z).2 h2)
   clear Z0 hlt hk
   by_cases hk0 : k = 0
   ·subst hk0
    have HSt : Hid (∀ W, Below wr.heap.size wr W → W.cell? ⟨G, 2, none⟩ = some (.slice m.ao m.an m.ac) ∧ W.cell? ⟨G, 3, none⟩ = some (.slice m.bo m.bn m.bc) ∧ (K.ld28 (.pointer (some zd))).run Tryz.prog W = .ok (K.EV z) W) := fun W hW => ⟨(HKr.out.box.below hW).a, (HKr.out.box.below hW).b, by have h := K.run_ld28 (HZ0.out.on hW); rwa [Nat.zero_mul, K.add_zero] at h⟩
    have HC : Hid (0 < n3) := Hlt.out
    go_upto_region 10 with fail
    refine wp_region_held_drew (S := fun W => W.cell? ⟨G, 2, none⟩ = some (.slice m.ao m.an m.ac) ∧ W.cell? ⟨G, 3, none⟩ = some (.slice m.bo m.bn m.bc) ∧ (K.ld28 (.pointer (some zd))).run Tryz.prog W = .ok (K.EV z) W) (by kernel_rfl) (HSt.out _ (below_drew1 wr)) (fun hHeld => ?_)
    refine wTk 0 ⟨some 53, .fieldAddr 29 (.tmp 1) 2, 0, "law.go:144", #[], none⟩ rfl ?_
    refine wTk 1 ⟨some 54, .load 23 (.tmp 53), 23, "law.go:144", #[⟨0, .data⟩], none⟩ rfl ?_
    refine wTk 2 ⟨some 55, .move (.tmp 3), 23, "law.go:144", #[], none⟩ rfl ?_
    refine wTk 3 ⟨some 56, .move (.tmp 7), 3, "law.go:144", #[], none⟩ rfl ?_
    refine wTk 4 ⟨some 57, .indexAddr 23 (.tmp 55) (.tmp 56), 0, "law.go:144", #[⟨2, .data⟩, ⟨3, .data⟩], none⟩ rfl ?_
    refine wTk 5 ⟨some 58, .load 49 (.tmp 57), 49, "law.go:144", #[⟨4, .data⟩], none⟩ rfl ?_
    refine wpAnyH_ready (rs := [6]) (by kernel_rfl) (by simp) (.cons rfl (fun K hK => ?_) .nil)
    go_simp
    go_wp2_with fail
    refine (Go.Proofs.YtfpmijfcemopoaaGreat.K.hasE_any m.ao m.an m.ac A z _ ((HS.out.a.below HKr.out.bel).below (below_drew1 wr))).mono ?_
    rintro e u6 ⟨rfl, b6⟩
    have HT6 : Hid (Below wr.heap.size wr u6) := ((below_drew1 wr)).trans (b6.mono ((below_drew1 wr)).size)
    refine hK.out _ _ (HSt.out _ HT6.out) (fun hHeld => ?_)
    clear hK K
    clear b6
    cases hA : A.any (fun e => Go.Proofs.YtfpmijfcemopoaaGreat.K.eqE e z) with
    | true =>
     refine wTk 7 ⟨some 60, .unOp .not 4 (.tmp 59), 4, "law.go:144", #[⟨6, .data⟩], none⟩ rfl ?_
     refine wTk 8 ⟨some 61, .move (.tmp 60), 4, "law.go:144", #[⟨7, .data⟩, ⟨6, .chain⟩], none⟩ rfl ?_
     refine wSk 9 ⟨some 62, .fieldAddr 29 (.tmp 1) 3, 0, "law.go:144", #[⟨8, .guard⟩], some (8, true)⟩ rfl ?_
     refine wSk 10 ⟨some 63, .load 23 (.tmp 62), 23, "law.go:144", #[⟨9, .data⟩, ⟨8, .guard⟩], some (8, true)⟩ rfl ?_
     refine wSk 11 ⟨some 64, .move (.tmp 3), 23, "law.go:144", #[⟨8, .guard⟩], some (8, true)⟩ rfl ?_
     refine wSk 12 ⟨some 65, .move (.tmp 7), 3, "law.go:144", #[⟨8, .guard⟩], some (8, true)⟩ rfl ?_
     refine wSk 13 ⟨some 66, .indexAddr 23 (.tmp 64) (.tmp 65), 0, "law.go:144", #[⟨11, .data⟩, ⟨12, .data⟩, ⟨8, .guard⟩], some (8, true)⟩ rfl ?_
     refine wSk 14 ⟨some 67, .load 49 (.tmp 66), 49, "law.go:144", #[⟨13, .data⟩, ⟨8, .guard⟩], some (8, true)⟩ rfl ?_
     refine wSk 15 ⟨some 68, .call ⟨.value (.func 34), #[.tmp 63, .tmp 67], #[23, 49]⟩, 4, "law.go:144", #[⟨10, .data⟩, ⟨14, .data⟩, ⟨8, .chain⟩, ⟨8, .guard⟩], some (8, true)⟩ rfl ?_
     refine wSk 16 ⟨some 69, .unOp .not 4 (.tmp 68), 4, "law.go:144", #[⟨15, .data⟩, ⟨8, .guard⟩], some (8, true)⟩ rfl ?_
     refine wTk 17 ⟨some 70, .pick (.tmp 61) (.tmp 69) (.const (.bool false)), 4, "law.go:144", #[⟨8, .data⟩, ⟨16, .data⟩], none⟩ rfl ?_
     refine wTk 18 ⟨some 71, .move (.tmp 70), 4, "law.go:144", #[⟨17, .data⟩, ⟨15, .chain⟩], none⟩ rfl ?_
     refine wTk 19 ⟨some 72, .move (.tmp 7), 3, "law.go:144", #[⟨18, .guard⟩], some (18, false)⟩ rfl ?_
     refine wTk 20 ⟨some 73, .binOp .gtr 3 (.tmp 72) (.const (.int .i64 0)) 3, 4, "law.go:144", #[⟨19, .data⟩, ⟨18, .guard⟩], some (18, false)⟩ rfl ?_
     refine wTk 21 ⟨some 74, .move (.tmp 73), 4, "law.go:144", #[⟨20, .data⟩, ⟨18, .chain⟩, ⟨18, .guard⟩], some (18, false)⟩ rfl ?_
     refine wSk 22 ⟨some 75, .move (.tmp 3), 23, "law.go:144", #[⟨21, .guard⟩], some (21, true)⟩ rfl ?_
     refine wSk 23 ⟨some 76, .move (.tmp 7), 3, "law.go:144", #[⟨21, .guard⟩], some (21, true)⟩ rfl ?_
     refine wSk 24 ⟨some 77, .binOp .sub 3 (.tmp 76) (.const (.int .i64 1)) 3, 3, "law.go:144", #[⟨23, .data⟩, ⟨21, .guard⟩], some (21, true)⟩ rfl ?_
     refine wSk 25 ⟨some 78, .indexAddr 23 (.tmp 75) (.tmp 77), 0, "law.go:144", #[⟨22, .data⟩, ⟨24, .data⟩, ⟨21, .guard⟩], some (21, true)⟩ rfl ?_
     refine wSk 26 ⟨some 79, .fieldAddr 49 (.tmp 78) 0, 0, "law.go:144", #[⟨25, .data⟩, ⟨21, .guard⟩], some (21, true)⟩ rfl ?_
     refine wSk 27 ⟨some 80, .load 47 (.tmp 79), 47, "law.go:144", #[⟨26, .data⟩, ⟨21, .guard⟩], some (21, true)⟩ rfl ?_
     refine wSk 28 ⟨some 81, .move (.tmp 3), 23, "law.go:144", #[⟨21, .guard⟩], some (21, true)⟩ rfl ?_
     refine wSk 29 ⟨some 82, .move (.tmp 7), 3, "law.go:144", #[⟨21, .guard⟩], some (21, true)⟩ rfl ?_
     refine wSk 30 ⟨some 83, .indexAddr 23 (.tmp 81) (.tmp 82), 0, "law.go:144", #[⟨28, .data⟩, ⟨29, .data⟩, ⟨21, .guard⟩], some (21, true)⟩ rfl ?_
     refine wSk 31 ⟨some 84, .fieldAddr 49 (.tmp 83) 0, 0, "law.go:144", #[⟨30, .data⟩, ⟨21, .guard⟩], some (21, true)⟩ rfl ?_
     refine wSk 32 ⟨some 85, .load 47 (.tmp 84), 47, "law.go:144", #[⟨31, .data⟩, ⟨21, .guard⟩], some (21, true)⟩ rfl ?_
     refine wSk 33 ⟨some 86, .call ⟨.value (.func 35), #[.tmp 80, .tmp 85], #[47, 47]⟩, 4, "law.go:144", #[⟨27, .data⟩, ⟨32, .data⟩, ⟨21, .chain⟩, ⟨21, .guard⟩], some (21, true)⟩ rfl ?_
     refine wSk 34 ⟨some 87, .unOp .not 4 (.tmp 86), 4, "law.go:144", #[⟨33, .data⟩, ⟨21, .guard⟩], some (21, true)⟩ rfl ?_
     refine wTk 35 ⟨some 88, .pick (.tmp 74) (.tmp 87) (.const (.bool false)), 4, "law.go:144", #[⟨21, .data⟩, ⟨34, .data⟩, ⟨18, .guard⟩], some (18, false)⟩ rfl ?_
     refine wTk 36 ⟨some 89, .pick (.tmp 71) (.const (.bool true)) (.tmp 88), 4, "law.go:144", #[⟨18, .data⟩, ⟨35, .data⟩], none⟩ rfl ?_
     refine wpAnyH_done (by kernel_rfl) ?_ _
     clear hHeld
     have HNx := hide (HI.out.trans (HT6.out.mono HI.out.size))
     go_wp2_with fail
     go_roundw
     case rel => exact ⟨1, Hlt.out, by simp, HNx⟩
     case measure => simp [intOf]; have := Hlt.out; omega
    | false =>
     have HBt : Hid (B.any (fun e => Go.Proofs.YtfpmijfcemopoaaGreat.K.eqE e z) = true) := HMz.out.resolve_left (by rw [hA]; decide)
     refine wTk 7 ⟨some 60, .unOp .not 4 (.tmp 59), 4, "law.go:144", #[⟨6, .data⟩], none⟩ rfl ?_
     refine wTk 8 ⟨some 61, .move (.tmp 60), 4, "law.go:144", #[⟨7, .data⟩, ⟨6, .chain⟩], none⟩ rfl ?_
     refine wTk 9 ⟨some 62, .fieldAddr 29 (.tmp 1) 3, 0, "law.go:144", #[⟨8, .guard⟩], some (8, true)⟩ rfl ?_
     refine wTk 10 ⟨some 63, .load 23 (.tmp 62), 23, "law.go:144", #[⟨9, .data⟩, ⟨8, .guard⟩], some (8, true)⟩ rfl ?_
     refine wTk 11 ⟨some 64, .move (.tmp 3), 23, "law.go:144", #[⟨8, .guard⟩], some (8, true)⟩ rfl ?_
     refine wTk 12 ⟨some 65, .move (.tmp 7), 3, "law.go:144", #[⟨8, .guard⟩], some (8, true)⟩ rfl ?_
     refine wTk 13 ⟨some 66, .indexAddr 23 (.tmp 64) (.tmp 65), 0, "law.go:144", #[⟨11, .data⟩, ⟨12, .data⟩, ⟨8, .guard⟩], some (8, true)⟩ rfl ?_
     refine wTk 14 ⟨some 67, .load 49 (.tmp 66), 49, "law.go:144", #[⟨13, .data⟩, ⟨8, .guard⟩], some (8, true)⟩ rfl ?_
     refine wpAnyH_ready (rs := [15]) (by kernel_rfl) (by simp) (.cons rfl (fun K hK => ?_) .nil)
     go_simp
     go_wp2_with fail
     refine (Go.Proofs.YtfpmijfcemopoaaGreat.K.hasE_any m.bo m.bn m.bc B z _ ((HS.out.b.below HKr.out.bel).below HT6.out)).mono ?_
     rintro e u15 ⟨rfl, b15⟩
     rw [HBt.out]
     have HT15 : Hid (Below wr.heap.size wr u15) := (HT6.out).trans (b15.mono (HT6.out).size)
     refine hK.out _ _ (HSt.out _ HT15.out) (fun hHeld => ?_)
     clear hK K
     clear b15
     refine wTk 16 ⟨some 69, .unOp .not 4 (.tmp 68), 4, "law.go:144", #[⟨15, .data⟩, ⟨8, .guard⟩], some (8, true)⟩ rfl ?_
     refine wTk 17 ⟨some 70, .pick (.tmp 61) (.tmp 69) (.const (.bool false)), 4, "law.go:144", #[⟨8, .data⟩, ⟨16, .data⟩], none⟩ rfl ?_
     refine wTk 18 ⟨some 71, .move (.tmp 70), 4, "law.go:144", #[⟨17, .data⟩, ⟨15, .chain⟩], none⟩ rfl ?_
     refine wTk 19 ⟨some 72, .move (.tmp 7), 3, "law.go:144", #[⟨18, .guard⟩], some (18, false)⟩ rfl ?_
     refine wTk 20 ⟨some 73, .binOp .gtr 3 (.tmp 72) (.const (.int .i64 0)) 3, 4, "law.go:144", #[⟨19, .data⟩, ⟨18, .guard⟩], some (18, false)⟩ rfl ?_
     refine wTk 21 ⟨some 74, .move (.tmp 73), 4, "law.go:144", #[⟨20, .data⟩, ⟨18, .chain⟩, ⟨18, .guard⟩], some (18, false)⟩ rfl ?_
     refine wSk 22 ⟨some 75, .move (.tmp 3), 23, "law.go:144", #[⟨21, .guard⟩], some (21, true)⟩ rfl ?_
     refine wSk 23 ⟨some 76, .move (.tmp 7), 3, "law.go:144", #[⟨21, .guard⟩], some (21, true)⟩ rfl ?_
     refine wSk 24 ⟨some 77, .binOp .sub 3 (.tmp 76) (.const (.int .i64 1)) 3, 3, "law.go:144", #[⟨23, .data⟩, ⟨21, .guard⟩], some (21, true)⟩ rfl ?_
     refine wSk 25 ⟨some 78, .indexAddr 23 (.tmp 75) (.tmp 77), 0, "law.go:144", #[⟨22, .data⟩, ⟨24, .data⟩, ⟨21, .guard⟩], some (21, true)⟩ rfl ?_
     refine wSk 26 ⟨some 79, .fieldAddr 49 (.tmp 78) 0, 0, "law.go:144", #[⟨25, .data⟩, ⟨21, .guard⟩], some (21, true)⟩ rfl ?_
     refine wSk 27 ⟨some 80, .load 47 (.tmp 79), 47, "law.go:144", #[⟨26, .data⟩, ⟨21, .guard⟩], some (21, true)⟩ rfl ?_
     refine wSk 28 ⟨some 81, .move (.tmp 3), 23, "law.go:144", #[⟨21, .guard⟩], some (21, true)⟩ rfl ?_
     refine wSk 29 ⟨some 82, .move (.tmp 7), 3, "law.go:144", #[⟨21, .guard⟩], some (21, true)⟩ rfl ?_
     refine wSk 30 ⟨some 83, .indexAddr 23 (.tmp 81) (.tmp 82), 0, "law.go:144", #[⟨28, .data⟩, ⟨29, .data⟩, ⟨21, .guard⟩], some (21, true)⟩ rfl ?_
     refine wSk 31 ⟨some 84, .fieldAddr 49 (.tmp 83) 0, 0, "law.go:144", #[⟨30, .data⟩, ⟨21, .guard⟩], some (21, true)⟩ rfl ?_
     refine wSk 32 ⟨some 85, .load 47 (.tmp 84), 47, "law.go:144", #[⟨31, .data⟩, ⟨21, .guard⟩], some (21, true)⟩ rfl ?_
     refine wSk 33 ⟨some 86, .call ⟨.value (.func 35), #[.tmp 80, .tmp 85], #[47, 47]⟩, 4, "law.go:144", #[⟨27, .data⟩, ⟨32, .data⟩, ⟨21, .chain⟩, ⟨21, .guard⟩], some (21, true)⟩ rfl ?_
     refine wSk 34 ⟨some 87, .unOp .not 4 (.tmp 86), 4, "law.go:144", #[⟨33, .data⟩, ⟨21, .guard⟩], some (21, true)⟩ rfl ?_
     refine wTk 35 ⟨some 88, .pick (.tmp 74) (.tmp 87) (.const (.bool false)), 4, "law.go:144", #[⟨21, .data⟩, ⟨34, .data⟩, ⟨18, .guard⟩], some (18, false)⟩ rfl ?_
     refine wTk 36 ⟨some 89, .pick (.tmp 71) (.const (.bool true)) (.tmp 88), 4, "law.go:144", #[⟨18, .data⟩, ⟨35, .data⟩], none⟩ rfl ?_
     refine wpAnyH_done (by kernel_rfl) ?_ _
     clear hHeld
     have HNx := hide (HI.out.trans (HT15.out.mono HI.out.size))
     go_wp2_with fail
     go_roundw
     case rel => exact ⟨1, Hlt.out, by simp, HNx⟩
     case measure => simp [intOf]; have := Hlt.out; omega
   ·obtain ⟨j, hj⟩ : ∃ j, j + 1 = k := ⟨k - 1, by omega⟩
    have hgt : (0 : Int) < (k : Int) := by omega
    have hgn : 0 < k := by omega
    have hwj : IntKind.i64.wrap ((k : Int) - 1) = (j : Int) := by rw [IntKind.wrap_i64]; omega
    have hji : (j : Int) < (n3 : Int) := by omega
    obtain ⟨zd', hzo', Y0⟩ := (HZ4.out.below HI.out).at j (by have := Hlt.out; omega)
    obtain rfl := Option.some.inj hzo'
    obtain ⟨y, Hy⟩ : ∃ y, Hid (Z.getD j K.en0 = y) := ⟨_, rfl⟩
    rw [Hy.out] at Y0
    have HY0 := hide Y0
    have HAh : Hid (K.ahead y z = true) := by
     show _ = _
     rw [← Hy.out, ← Hz.out]
     exact K.asc_at HAs.out (show j < k by omega) (by rw [HZl.out]; exact Hlt.out)
    have HSt : Hid (∀ W, Below wr.heap.size wr W → W.cell? ⟨G, 2, none⟩ = some (.slice m.ao m.an m.ac) ∧ W.cell? ⟨G, 3, none⟩ = some (.slice m.bo m.bn m.bc) ∧ (K.ld28 (.pointer (some (zd.add (k * 4))))).run Tryz.prog W = .ok (K.EV z) W ∧ (K.ld26 (.pointer (some (zd.add (k * 4))))).run Tryz.prog W = .ok (.agg (K.DC z)) W ∧ (K.ld26 (.pointer (some (zd.add (j * 4))))).run Tryz.prog W = .ok (.agg (K.DC y)) W) := fun W hW => ⟨(HKr.out.box.below hW).a, (HKr.out.box.below hW).b, K.run_ld28 (HZ0.out.on hW), K.run_ld26 (HZ0.out.on hW), K.run_ld26 (HY0.out.on hW)⟩
    clear Y0 hk0
    go_upto_region 10 with fail
    refine wp_region_held_drew (S := fun W => W.cell? ⟨G, 2, none⟩ = some (.slice m.ao m.an m.ac) ∧ W.cell? ⟨G, 3, none⟩ = some (.slice m.bo m.bn m.bc) ∧ (K.ld28 (.pointer (some (zd.add (k * 4))))).run Tryz.prog W = .ok (K.EV z) W ∧ (K.ld26 (.pointer (some (zd.add (k * 4))))).run Tryz.prog W = .ok (.agg (K.DC z)) W ∧ (K.ld26 (.pointer (some (zd.add (j * 4))))).run Tryz.prog W = .ok (.agg (K.DC y)) W) (by kernel_rfl) (HSt.out _ (below_drew1 wr)) (fun hHeld => ?_)
    refine wTk 0 ⟨some 53, .fieldAddr 29 (.tmp 1) 2, 0, "law.go:144", #[], none⟩ rfl ?_
    refine wTk 1 ⟨some 54, .load 23 (.tmp 53), 23, "law.go:144", #[⟨0, .data⟩], none⟩ rfl ?_
    refine wTk 2 ⟨some 55, .move (.tmp 3), 23, "law.go:144", #[], none⟩ rfl ?_
    refine wTk 3 ⟨some 56, .move (.tmp 7), 3, "law.go:144", #[], none⟩ rfl ?_
    refine wTk 4 ⟨some 57, .indexAddr 23 (.tmp 55) (.tmp 56), 0, "law.go:144", #[⟨2, .data⟩, ⟨3, .data⟩], none⟩ rfl ?_
    refine wTk 5 ⟨some 58, .load 49 (.tmp 57), 49, "law.go:144", #[⟨4, .data⟩], none⟩ rfl ?_
    refine wpAnyH_ready (rs := [6]) (by kernel_rfl) (by simp) (.cons rfl (fun K hK => ?_) .nil)
    go_simp
    go_wp2_with fail
    refine (Go.Proofs.YtfpmijfcemopoaaGreat.K.hasE_any m.ao m.an m.ac A z _ ((HS.out.a.below HKr.out.bel).below (below_drew1 wr))).mono ?_
    rintro e u6 ⟨rfl, b6⟩
    have HT6 : Hid (Below wr.heap.size wr u6) := ((below_drew1 wr)).trans (b6.mono ((below_drew1 wr)).size)
    refine hK.out _ _ (HSt.out _ HT6.out) (fun hHeld => ?_)
    clear hK K
    clear b6
    cases hA : A.any (fun e => Go.Proofs.YtfpmijfcemopoaaGreat.K.eqE e z) with
    | true =>
     refine wTk 7 ⟨some 60, .unOp .not 4 (.tmp 59), 4, "law.go:144", #[⟨6, .data⟩], none⟩ rfl ?_
     refine wTk 8 ⟨some 61, .move (.tmp 60), 4, "law.go:144", #[⟨7, .data⟩, ⟨6, .chain⟩], none⟩ rfl ?_
     refine wSk 9 ⟨some 62, .fieldAddr 29 (.tmp 1) 3, 0, "law.go:144", #[⟨8, .guard⟩], some (8, true)⟩ rfl ?_
     refine wSk 10 ⟨some 63, .load 23 (.tmp 62), 23, "law.go:144", #[⟨9, .data⟩, ⟨8, .guard⟩], some (8, true)⟩ rfl ?_
     refine wSk 11 ⟨some 64, .move (.tmp 3), 23, "law.go:144", #[⟨8, .guard⟩], some (8, true)⟩ rfl ?_
     refine wSk 12 ⟨some 65, .move (.tmp 7), 3, "law.go:144", #[⟨8, .guard⟩], some (8, true)⟩ rfl ?_
     refine wSk 13 ⟨some 66, .indexAddr 23 (.tmp 64) (.tmp 65), 0, "law.go:144", #[⟨11, .data⟩, ⟨12, .data⟩, ⟨8, .guard⟩], some (8, true)⟩ rfl ?_
     refine wSk 14 ⟨some 67, .load 49 (.tmp 66), 49, "law.go:144", #[⟨13, .data⟩, ⟨8, .guard⟩], some (8, true)⟩ rfl ?_
     refine wSk 15 ⟨some 68, .call ⟨.value (.func 34), #[.tmp 63, .tmp 67], #[23, 49]⟩, 4, "law.go:144", #[⟨10, .data⟩, ⟨14, .data⟩, ⟨8, .chain⟩, ⟨8, .guard⟩], some (8, true)⟩ rfl ?_
     refine wSk 16 ⟨some 69, .unOp .not 4 (.tmp 68), 4, "law.go:144", #[⟨15, .data⟩, ⟨8, .guard⟩], some (8, true)⟩ rfl ?_
     refine wTk 17 ⟨some 70, .pick (.tmp 61) (.tmp 69) (.const (.bool false)), 4, "law.go:144", #[⟨8, .data⟩, ⟨16, .data⟩], none⟩ rfl ?_
     refine wTk 18 ⟨some 71, .move (.tmp 70), 4, "law.go:144", #[⟨17, .data⟩, ⟨15, .chain⟩], none⟩ rfl ?_
     refine wTk 19 ⟨some 72, .move (.tmp 7), 3, "law.go:144", #[⟨18, .guard⟩], some (18, false)⟩ rfl ?_
     refine wTk 20 ⟨some 73, .binOp .gtr 3 (.tmp 72) (.const (.int .i64 0)) 3, 4, "law.go:144", #[⟨19, .data⟩, ⟨18, .guard⟩], some (18, false)⟩ rfl ?_
     refine wTk 21 ⟨some 74, .move (.tmp 73), 4, "law.go:144", #[⟨20, .data⟩, ⟨18, .chain⟩, ⟨18, .guard⟩], some (18, false)⟩ rfl ?_
     refine wTk 22 ⟨some 75, .move (.tmp 3), 23, "law.go:144", #[⟨21, .guard⟩], some (21, true)⟩ rfl ?_
     refine wTk 23 ⟨some 76, .move (.tmp 7), 3, "law.go:144", #[⟨21, .guard⟩], some (21, true)⟩ rfl ?_
     refine wTk 24 ⟨some 77, .binOp .sub 3 (.tmp 76) (.const (.int .i64 1)) 3, 3, "law.go:144", #[⟨23, .data⟩, ⟨21, .guard⟩], some (21, true)⟩ rfl ?_
     refine wTk 25 ⟨some 78, .indexAddr 23 (.tmp 75) (.tmp 77), 0, "law.go:144", #[⟨22, .data⟩, ⟨24, .data⟩, ⟨21, .guard⟩], some (21, true)⟩ rfl ?_
     refine wTk 26 ⟨some 79, .fieldAddr 49 (.tmp 78) 0, 0, "law.go:144", #[⟨25, .data⟩, ⟨21, .guard⟩], some (21, true)⟩ rfl ?_
     refine wTk 27 ⟨some 80, .load 47 (.tmp 79), 47, "law.go:144", #[⟨26, .data⟩, ⟨21, .guard⟩], some (21, true)⟩ rfl ?_
     refine wTk 28 ⟨some 81, .move (.tmp 3), 23, "law.go:144", #[⟨21, .guard⟩], some (21, true)⟩ rfl ?_
     refine wTk 29 ⟨some 82, .move (.tmp 7), 3, "law.go:144", #[⟨21, .guard⟩], some (21, true)⟩ rfl ?_
     refine wTk 30 ⟨some 83, .indexAddr 23 (.tmp 81) (.tmp 82), 0, "law.go:144", #[⟨28, .data⟩, ⟨29, .data⟩, ⟨21, .guard⟩], some (21, true)⟩ rfl ?_
     refine wTk 31 ⟨some 84, .fieldAddr 49 (.tmp 83) 0, 0, "law.go:144", #[⟨30, .data⟩, ⟨21, .guard⟩], some (21, true)⟩ rfl ?_
     refine wTk 32 ⟨some 85, .load 47 (.tmp 84), 47, "law.go:144", #[⟨31, .data⟩, ⟨21, .guard⟩], some (21, true)⟩ rfl ?_
     refine wpAnyH_ready (rs := [33]) (by kernel_rfl) (by simp) (.cons rfl (fun K hK => ?_) .nil)
     go_simp
     go_wp2_with fail
     refine (Go.Proofs.YtfpmijfcemopoaaGreat.K.refAhead_any y z _).mono ?_
     rintro e u33 ⟨rfl, b33⟩
     rw [HAh.out]
     have HT33 : Hid (Below wr.heap.size wr u33) := HT6.out.trans (b33.mono HT6.out.size)
     refine hK.out _ _ (HSt.out _ HT33.out) (fun hHeld => ?_)
     clear hK K
     clear b33
     refine wTk 34 ⟨some 87, .unOp .not 4 (.tmp 86), 4, "law.go:144", #[⟨33, .data⟩, ⟨21, .guard⟩], some (21, true)⟩ rfl ?_
     refine wTk 35 ⟨some 88, .pick (.tmp 74) (.tmp 87) (.const (.bool false)), 4, "law.go:144", #[⟨21, .data⟩, ⟨34, .data⟩, ⟨18, .guard⟩], some (18, false)⟩ rfl ?_
     refine wTk 36 ⟨some 89, .pick (.tmp 71) (.const (.bool true)) (.tmp 88), 4, "law.go:144", #[⟨18, .data⟩, ⟨35, .data⟩], none⟩ rfl ?_
     refine wpAnyH_done (by kernel_rfl) ?_ _
     clear hHeld
     have HNx := hide (HI.out.trans (HT33.out.mono HI.out.size))
     go_wp2_with fail
     go_roundw
     case rel => exact ⟨k + 1, Hlt.out, by simp, HNx⟩
     case measure => simp [intOf]; have := Hlt.out; omega
    | false =>
     have HBt : Hid (B.any (fun e => Go.Proofs.YtfpmijfcemopoaaGreat.K.eqE e z) = true) := HMz.out.resolve_left (by rw [hA]; decide)
     refine wTk 7 ⟨some 60, .unOp .not 4 (.tmp 59), 4, "law.go:144", #[⟨6, .data⟩], none⟩ rfl ?_
     refine wTk 8 ⟨some 61, .move (.tmp 60), 4, "law.go:144", #[⟨7, .data⟩, ⟨6, .chain⟩], none⟩ rfl ?_
     refine wTk 9 ⟨some 62, .fieldAddr 29 (.tmp 1) 3, 0, "law.go:144", #[⟨8, .guard⟩], some (8, true)⟩ rfl ?_
     refine wTk 10 ⟨some 63, .load 23 (.tmp 62), 23, "law.go:144", #[⟨9, .data⟩, ⟨8, .guard⟩], some (8, true)⟩ rfl ?_
     refine wTk 11 ⟨some 64, .move (.tmp 3), 23, "law.go:144", #[⟨8, .guard⟩], some (8, true)⟩ rfl ?_
     refine wTk 12 ⟨some 65, .move (.tmp 7), 3, "law.go:144", #[⟨8, .guard⟩], some (8, true)⟩ rfl ?_
     refine wTk 13 ⟨some 66, .indexAddr 23 (.tmp 64) (.tmp 65), 0, "law.go:144", #[⟨11, .data⟩, ⟨12, .data⟩, ⟨8, .guard⟩], some (8, true)⟩ rfl ?_
     refine wTk 14 ⟨some 67, .load 49 (.tmp 66), 49, "law.go:144", #[⟨13, .data⟩, ⟨8, .guard⟩], some (8, true)⟩ rfl ?_
     refine wpAnyH_ready (rs := [15]) (by kernel_rfl) (by simp) (.cons rfl (fun K hK => ?_) .nil)
     go_simp
     go_wp2_with fail
     refine (Go.Proofs.YtfpmijfcemopoaaGreat.K.hasE_any m.bo m.bn m.bc B z _ ((HS.out.b.below HKr.out.bel).below HT6.out)).mono ?_
     rintro e u15 ⟨rfl, b15⟩
     rw [HBt.out]
     have HT15 : Hid (Below wr.heap.size wr u15) := (HT6.out).trans (b15.mono (HT6.out).size)
     refine hK.out _ _ (HSt.out _ HT15.out) (fun hHeld => ?_)
     clear hK K
     clear b15
     refine wTk 16 ⟨some 69, .unOp .not 4 (.tmp 68), 4, "law.go:144", #[⟨15, .data⟩, ⟨8, .guard⟩], some (8, true)⟩ rfl ?_
     refine wTk 17 ⟨some 70, .pick (.tmp 61) (.tmp 69) (.const (.bool false)), 4, "law.go:144", #[⟨8, .data⟩, ⟨16, .data⟩], none⟩ rfl ?_
     refine wTk 18 ⟨some 71, .move (.tmp 70), 4, "law.go:144", #[⟨17, .data⟩, ⟨15, .chain⟩], none⟩ rfl ?_
     refine wTk 19 ⟨some 72, .move (.tmp 7), 3, "law.go:144", #[⟨18, .guard⟩], some (18, false)⟩ rfl ?_
     refine wTk 20 ⟨some 73, .binOp .gtr 3 (.tmp 72) (.const (.int .i64 0)) 3, 4, "law.go:144", #[⟨19, .data⟩, ⟨18, .guard⟩], some (18, false)⟩ rfl ?_
     refine wTk 21 ⟨some 74, .move (.tmp 73), 4, "law.go:144", #[⟨20, .data⟩, ⟨18, .chain⟩, ⟨18, .guard⟩], some (18, false)⟩ rfl ?_
     refine wTk 22 ⟨some 75, .move (.tmp 3), 23, "law.go:144", #[⟨21, .guard⟩], some (21, true)⟩ rfl ?_
     refine wTk 23 ⟨some 76, .move (.tmp 7), 3, "law.go:144", #[⟨21, .guard⟩], some (21, true)⟩ rfl ?_
     refine wTk 24 ⟨some 77, .binOp .sub 3 (.tmp 76) (.const (.int .i64 1)) 3, 3, "law.go:144", #[⟨23, .data⟩, ⟨21, .guard⟩], some (21, true)⟩ rfl ?_
     refine wTk 25 ⟨some 78, .indexAddr 23 (.tmp 75) (.tmp 77), 0, "law.go:144", #[⟨22, .data⟩, ⟨24, .data⟩, ⟨21, .guard⟩], some (21, true)⟩ rfl ?_
     refine wTk 26 ⟨some 79, .fieldAddr 49 (.tmp 78) 0, 0, "law.go:144", #[⟨25, .data⟩, ⟨21, .guard⟩], some (21, true)⟩ rfl ?_
     refine wTk 27 ⟨some 80, .load 47 (.tmp 79), 47, "law.go:144", #[⟨26, .data⟩, ⟨21, .guard⟩], some (21, true)⟩ rfl ?_
     refine wTk 28 ⟨some 81, .move (.tmp 3), 23, "law.go:144", #[⟨21, .guard⟩], some (21, true)⟩ rfl ?_
     refine wTk 29 ⟨some 82, .move (.tmp 7), 3, "law.go:144", #[⟨21, .guard⟩], some (21, true)⟩ rfl ?_
     refine wTk 30 ⟨some 83, .indexAddr 23 (.tmp 81) (.tmp 82), 0, "law.go:144", #[⟨28, .data⟩, ⟨29, .data⟩, ⟨21, .guard⟩], some (21, true)⟩ rfl ?_
     refine wTk 31 ⟨some 84, .fieldAddr 49 (.tmp 83) 0, 0, "law.go:144", #[⟨30, .data⟩, ⟨21, .guard⟩], some (21, true)⟩ rfl ?_
     refine wTk 32 ⟨some 85, .load 47 (.tmp 84), 47, "law.go:144", #[⟨31, .data⟩, ⟨21, .guard⟩], some (21, true)⟩ rfl ?_
     refine wpAnyH_ready (rs := [33]) (by kernel_rfl) (by simp) (.cons rfl (fun K hK => ?_) .nil)
     go_simp
     go_wp2_with fail
     refine (Go.Proofs.YtfpmijfcemopoaaGreat.K.refAhead_any y z _).mono ?_
     rintro e u33 ⟨rfl, b33⟩
     rw [HAh.out]
     have HT33 : Hid (Below wr.heap.size wr u33) := HT15.out.trans (b33.mono HT15.out.size)
     refine hK.out _ _ (HSt.out _ HT33.out) (fun hHeld => ?_)
     clear hK K
     clear b33
     refine wTk 34 ⟨some 87, .unOp .not 4 (.tmp 86), 4, "law.go:144", #[⟨33, .data⟩, ⟨21, .guard⟩], some (21, true)⟩ rfl ?_
     refine wTk 35 ⟨some 88, .pick (.tmp 74) (.tmp 87) (.const (.bool false)), 4, "law.go:144", #[⟨21, .data⟩, ⟨34, .data⟩, ⟨18, .guard⟩], some (18, false)⟩ rfl ?_
     refine wTk 36 ⟨some 89, .pick (.tmp 71) (.const (.bool true)) (.tmp 88), 4, "law.go:144", #[⟨18, .data⟩, ⟨35, .data⟩], none⟩ rfl ?_
     refine wpAnyH_done (by kernel_rfl) ?_ _
     clear hHeld
     have HNx := hide (HI.out.trans (HT33.out.mono HI.out.size))
     go_wp2_with fail
     go_roundw
     case rel => exact ⟨k + 1, Hlt.out, by simp, HNx⟩
     case measure => simp [intOf]; have := Hlt.out; omega
  ·have hlti : ¬ (k : Int) < (n3 : Int) := by omega
   have HI4 := hide (HK4.out.below HI.out)
   have HZr := hide (HZ4.out.below HI.out)
   clear hlt hk
   go_wp2_with fail
   clear hlti HI
   go_loopw [8] (fun i wq => ∃ k : Nat, k ≤ m.an ∧ i = .int .i64 (k : Int) ∧ Hid (Below wr.heap.size wr wq)) (fun i _ => m.an - (intOf i).toNat)
   case atStart => exact ⟨0, Nat.zero_le _, rfl, Below.refl _ _⟩
   case round =>
    obtain ⟨k, hk, rfl, HI⟩ := hrel
    rename World => wq
    have HKq := hide (HI4.out.below HI.out)
    have aq := HKq.out.box.a
    by_cases hlt : k < m.an
    ·have hlti : (k : Int) < (m.an : Int) := by omega
     obtain ⟨ad, hao, A0⟩ := (HS.out.a.below HKq.out.bel).at k hlt
     obtain ⟨x, Hx⟩ : ∃ x, Hid (A.getD k K.en0 = x) := ⟨_, rfl⟩
     rw [Hx.out] at A0
     rw [hao] at aq
     have HA0 := hide A0
     have Hao := hide hao
     have Hlt := hide hlt
     have HKa : Hid (Z.any (fun e => K.eqE e x) = stayB B m.o.P x) := by
      show _ = _
      rw [← Hx.out]
      exact kern_A HM.out (memE_at (by rw [HL.out.1]; exact hlt))
     have HSt : Hid (∀ W, Below wq.heap.size wq W → W.cell? ⟨G, 3, none⟩ = some (.slice m.bo m.bn m.bc) ∧ W.cell? ⟨G, 2, none⟩ = some (.slice (some ad) m.an m.ac) ∧ (K.ld26 (.pointer (some (ad.add (k * 4))))).run Tryz.prog W = .ok (.agg (K.DC x)) W ∧ (ldP (.pointer (some ⟨G, 6, none⟩))).run Tryz.prog W = .ok (PV m.o) W) := fun W hW => by
      have hb := HKq.out.box.below hW
      refine ⟨hb.b, ?_, K.run_ld26 (HA0.out.on hW), run_ldP hb.o⟩
      rw [← Hao.out]; exact hb.a
     clear A0 hao hlt hk
     go_upto_region 15 with fail
     clear aq
     refine wp_region_held_drew (S := fun W => W.cell? ⟨G, 3, none⟩ = some (.slice m.bo m.bn m.bc) ∧ W.cell? ⟨G, 2, none⟩ = some (.slice (some ad) m.an m.ac) ∧ (K.ld26 (.pointer (some (ad.add (k * 4))))).run Tryz.prog W = .ok (.agg (K.DC x)) W ∧ (ldP (.pointer (some ⟨G, 6, none⟩))).run Tryz.prog W = .ok (PV m.o) W) (by kernel_rfl) (HSt.out _ (below_drew1 wq)) (fun hHeld => ?_)
     refine wTk 0 ⟨some 97, .fieldAddr 29 (.tmp 1) 3, 0, "law.go:149", #[], none⟩ rfl ?_
     refine wTk 1 ⟨some 98, .load 23 (.tmp 97), 23, "law.go:149", #[⟨0, .data⟩], none⟩ rfl ?_
     refine wTk 2 ⟨some 99, .fieldAddr 29 (.tmp 1) 2, 0, "law.go:149", #[], none⟩ rfl ?_
     refine wTk 3 ⟨some 100, .load 23 (.tmp 99), 23, "law.go:149", #[⟨2, .data⟩], none⟩ rfl ?_
     refine wTk 4 ⟨some 101, .move (.tmp 8), 3, "law.go:149", #[], none⟩ rfl ?_
     refine wTk 5 ⟨some 102, .indexAddr 23 (.tmp 100) (.tmp 101), 0, "law.go:149", #[⟨3, .data⟩, ⟨4, .data⟩], none⟩ rfl ?_
     refine wTk 6 ⟨some 103, .fieldAddr 49 (.tmp 102) 0, 0, "law.go:149", #[⟨5, .data⟩], none⟩ rfl ?_
     refine wTk 7 ⟨some 104, .load 47 (.tmp 103), 47, "law.go:149", #[⟨6, .data⟩], none⟩ rfl ?_
     refine wpAnyH_ready (rs := [8]) (by kernel_rfl) (by simp) (.cons rfl (fun K hK => ?_) .nil)
     go_simp
     go_wp2_with fail
     refine (Go.Proofs.YtfpmijfcemopoaaGreat.K.dotInE_any m.bo m.bn m.bc B x _ ((HS.out.b.below HKq.out.bel).below (below_drew1 wq))).mono ?_
     rintro e u8 ⟨rfl, b8⟩
     have HT8 : Hid (Below wq.heap.size wq u8) := (below_drew1 wq).trans b8
     refine hK.out _ _ (HSt.out _ HT8.out) (fun hHeld => ?_)
     clear hK K
     clear b8
     cases hd : B.any (fun e => Go.Proofs.YtfpmijfcemopoaaGreat.K.sameDot e x) with
     | true =>
      refine wTk 9 ⟨some 106, .move (.tmp 105), 4, "law.go:149", #[⟨8, .data⟩, ⟨8, .chain⟩], none⟩ rfl ?_
      refine wSk 10 ⟨some 107, .fieldAddr 29 (.tmp 1) 5, 0, "law.go:149", #[⟨9, .guard⟩], some (9, false)⟩ rfl ?_
      refine wSk 11 ⟨some 108, .load 27 (.tmp 107), 27, "law.go:149", #[⟨10, .data⟩, ⟨9, .guard⟩], some (9, false)⟩ rfl ?_
      refine wSk 12 ⟨some 109, .fieldAddr 29 (.tmp 1) 2, 0, "law.go:149", #[⟨9, .guard⟩], some (9, false)⟩ rfl ?_
      refine wSk 13 ⟨some 110, .load 23 (.tmp 109), 23, "law.go:149", #[⟨12, .data⟩, ⟨9, .guard⟩], some (9, false)⟩ rfl ?_
      refine wSk 14 ⟨some 111, .move (.tmp 8), 3, "law.go:149", #[⟨9, .guard⟩], some (9, false)⟩ rfl ?_
      refine wSk 15 ⟨some 112, .indexAddr 23 (.tmp 110) (.tmp 111), 0, "law.go:149", #[⟨13, .data⟩, ⟨14, .data⟩, ⟨9, .guard⟩], some (9, false)⟩ rfl ?_
      refine wSk 16 ⟨some 113, .fieldAddr 49 (.tmp 112) 0, 0, "law.go:149", #[⟨15, .data⟩, ⟨9, .guard⟩], some (9, false)⟩ rfl ?_
      refine wSk 17 ⟨some 114, .load 47 (.tmp 113), 47, "law.go:149", #[⟨16, .data⟩, ⟨9, .guard⟩], some (9, false)⟩ rfl ?_
      refine wSk 18 ⟨some 115, .call ⟨.value (.func 37), #[.tmp 108, .tmp 114], #[27, 47]⟩, 4, "law.go:149", #[⟨11, .data⟩, ⟨17, .data⟩, ⟨9, .chain⟩, ⟨9, .guard⟩], some (9, false)⟩ rfl ?_
      refine wSk 19 ⟨some 116, .unOp .not 4 (.tmp 115), 4, "law.go:149", #[⟨18, .data⟩, ⟨9, .guard⟩], some (9, false)⟩ rfl ?_
      refine wTk 20 ⟨some 117, .pick (.tmp 106) (.const (.bool true)) (.tmp 116), 4, "law.go:149", #[⟨9, .data⟩, ⟨19, .data⟩], none⟩ rfl ?_
      refine wTk 21 ⟨some 9, .assign (.tmp 117), 4, "law.go:149", #[⟨20, .data⟩, ⟨18, .chain⟩, ⟨0, .phase⟩, ⟨1, .phase⟩, ⟨2, .phase⟩, ⟨3, .phase⟩, ⟨4, .phase⟩, ⟨5, .phase⟩, ⟨6, .phase⟩, ⟨7, .phase⟩, ⟨8, .phase⟩, ⟨9, .phase⟩, ⟨10, .phase⟩, ⟨11, .phase⟩, ⟨12, .phase⟩, ⟨13, .phase⟩, ⟨14, .phase⟩, ⟨15, .phase⟩, ⟨16, .phase⟩, ⟨17, .phase⟩, ⟨18, .phase⟩, ⟨19, .phase⟩, ⟨20, .phase⟩], none⟩ rfl ?_
      refine wpAnyH_done (by kernel_rfl) ?_ _
      clear hHeld
      have HSy : Hid (stayB B m.o.P x = true) := by
       show _ = _
       unfold stayB
       rw [hd]
       rfl
      clear hd
      have HKy := hide (HKq.out.below HT8.out)
      have HNx := hide (HI.out.trans (HT8.out.mono HI.out.size))
      have HAy := hide (HA0.out.on HT8.out)
      have ay := HKy.out.box.a
      rw [Hao.out] at ay
      have ly := K.run_ld28 HAy.out
      go_wp2_with fail
      clear ay ly
      refine (K.hasE_any a3 n3 c3 Z x _ ((HZr.out.below HI.out).below HT8.out)).mono ?_
      rintro e uf ⟨rfl, bf⟩
      rw [HKa.out, HSy.out]
      have HNf := hide (HNx.out.trans (bf.mono HNx.out.size))
      clear bf
      go_wp2_with fail
      go_roundw
      case rel => exact ⟨k + 1, Hlt.out, by simp, HNf⟩
      case measure => simp [intOf]; have := Hlt.out; omega
     | false =>
      refine wTk 9 ⟨some 106, .move (.tmp 105), 4, "law.go:149", #[⟨8, .data⟩, ⟨8, .chain⟩], none⟩ rfl ?_
      refine wTk 10 ⟨some 107, .fieldAddr 29 (.tmp 1) 5, 0, "law.go:149", #[⟨9, .guard⟩], some (9, false)⟩ rfl ?_
      refine wTk 11 ⟨some 108, .load 27 (.tmp 107), 27, "law.go:149", #[⟨10, .data⟩, ⟨9, .guard⟩], some (9, false)⟩ rfl ?_
      refine wTk 12 ⟨some 109, .fieldAddr 29 (.tmp 1) 2, 0, "law.go:149", #[⟨9, .guard⟩], some (9, false)⟩ rfl ?_
      refine wTk 13 ⟨some 110, .load 23 (.tmp 109), 23, "law.go:149", #[⟨12, .data⟩, ⟨9, .guard⟩], some (9, false)⟩ rfl ?_
      refine wTk 14 ⟨some 111, .move (.tmp 8), 3, "law.go:149", #[⟨9, .guard⟩], some (9, false)⟩ rfl ?_
      refine wTk 15 ⟨some 112, .indexAddr 23 (.tmp 110) (.tmp 111), 0, "law.go:149", #[⟨13, .data⟩, ⟨14, .data⟩, ⟨9, .guard⟩], some (9, false)⟩ rfl ?_
      refine wTk 16 ⟨some 113, .fieldAddr 49 (.tmp 112) 0, 0, "law.go:149", #[⟨15, .data⟩, ⟨9, .guard⟩], some (9, false)⟩ rfl ?_
      refine wTk 17 ⟨some 114, .load 47 (.tmp 113), 47, "law.go:149", #[⟨16, .data⟩, ⟨9, .guard⟩], some (9, false)⟩ rfl ?_
      refine wpAnyH_ready (rs := [18]) (by kernel_rfl) (by simp) (.cons rfl (fun K hK => ?_) .nil)
      go_simp
      go_wp2_with fail
      refine (pastHas_any m.o ⟨x.rep, x.num⟩ _ ((HS.out.o.below HKq.out.bel).below HT8.out)).mono ?_
      rintro e u18 ⟨b, rfl, hb, b18⟩
      have HT18 : Hid (Below wq.heap.size wq u18) := HT8.out.trans (b18.mono HT8.out.size)
      have hib := inB_is hb
      refine hK.out _ _ (HSt.out _ HT18.out) (fun hHeld => ?_)
      clear hK K
      clear b18 hb
      refine wTk 19 ⟨some 116, .unOp .not 4 (.tmp 115), 4, "law.go:149", #[⟨18, .data⟩, ⟨9, .guard⟩], some (9, false)⟩ rfl ?_
      refine wTk 20 ⟨some 117, .pick (.tmp 106) (.const (.bool true)) (.tmp 116), 4, "law.go:149", #[⟨9, .data⟩, ⟨19, .data⟩], none⟩ rfl ?_
      refine wTk 21 ⟨some 9, .assign (.tmp 117), 4, "law.go:149", #[⟨20, .data⟩, ⟨18, .chain⟩, ⟨0, .phase⟩, ⟨1, .phase⟩, ⟨2, .phase⟩, ⟨3, .phase⟩, ⟨4, .phase⟩, ⟨5, .phase⟩, ⟨6, .phase⟩, ⟨7, .phase⟩, ⟨8, .phase⟩, ⟨9, .phase⟩, ⟨10, .phase⟩, ⟨11, .phase⟩, ⟨12, .phase⟩, ⟨13, .phase⟩, ⟨14, .phase⟩, ⟨15, .phase⟩, ⟨16, .phase⟩, ⟨17, .phase⟩, ⟨18, .phase⟩, ⟨19, .phase⟩, ⟨20, .phase⟩], none⟩ rfl ?_
      refine wpAnyH_done (by kernel_rfl) ?_ _
      clear hHeld
      cases b with
      | true =>
       have HSy : Hid (stayB B m.o.P x = false) := by
        show _ = _
        unfold stayB
        rw [hd, hib]
        rfl
       clear hd hib
       have HKy := hide (HKq.out.below HT18.out)
       have HNx := hide (HI.out.trans (HT18.out.mono HI.out.size))
       have HAy := hide (HA0.out.on HT18.out)
       have ay := HKy.out.box.a
       rw [Hao.out] at ay
       have ly := K.run_ld28 HAy.out
       go_wp2_with fail
       clear ay ly
       refine (K.hasE_any a3 n3 c3 Z x _ ((HZr.out.below HI.out).below HT18.out)).mono ?_
       rintro e uf ⟨rfl, bf⟩
       rw [HKa.out, HSy.out]
       have HNf := hide (HNx.out.trans (bf.mono HNx.out.size))
       clear bf
       go_wp2_with fail
       go_roundw
       case rel => exact ⟨k + 1, Hlt.out, by simp, HNf⟩
       case measure => simp [intOf]; have := Hlt.out; omega
      | false =>
       have HSy : Hid (stayB B m.o.P x = true) := by
        show _ = _
        unfold stayB
        rw [hd, hib]
        rfl
       clear hd hib
       have HKy := hide (HKq.out.below HT18.out)
       have HNx := hide (HI.out.trans (HT18.out.mono HI.out.size))
       have HAy := hide (HA0.out.on HT18.out)
       have ay := HKy.out.box.a
       rw [Hao.out] at ay
       have ly := K.run_ld28 HAy.out
       go_wp2_with fail
       clear ay ly
       refine (K.hasE_any a3 n3 c3 Z x _ ((HZr.out.below HI.out).below HT18.out)).mono ?_
       rintro e uf ⟨rfl, bf⟩
       rw [HKa.out, HSy.out]
       have HNf := hide (HNx.out.trans (bf.mono HNx.out.size))
       clear bf
       go_wp2_with fail
       go_roundw
       case rel => exact ⟨k + 1, Hlt.out, by simp, HNf⟩
       case measure => simp [intOf]; have := Hlt.out; omega
    ·have hlti : ¬ (k : Int) < (m.an : Int) := by omega
     have HZq := hide (HZr.out.below HI.out)
     clear hlt hk
     go_wp2_with fail
     clear hlti HI aq
     go_loopw [10] (fun i wp => ∃ k : Nat, k ≤ m.bn ∧ i = .int .i64 (k : Int) ∧ Hid (Below wq.heap.size wq wp)) (fun i _ => m.bn - (intOf i).toNat)
     case atStart => exact ⟨0, Nat.zero_le _, rfl, Below.refl _ _⟩
     case round =>
      obtain ⟨k, hk, rfl, HI⟩ := hrel
      rename World => wp
      have HKp := hide (HKq.out.below HI.out)
      have bq := HKp.out.box.b
      by_cases hlt : k < m.bn
      ·have hlti : (k : Int) < (m.bn : Int) := by omega
       obtain ⟨ad, hao, A0⟩ := (HS.out.b.below HKp.out.bel).at k hlt
       obtain ⟨x, Hx⟩ : ∃ x, Hid (B.getD k K.en0 = x) := ⟨_, rfl⟩
       rw [Hx.out] at A0
       rw [hao] at bq
       have HA0 := hide A0
       have Hao := hide hao
       have Hlt := hide hlt
       have HKa : Hid (Z.any (fun e => K.eqE e x) = stayB A m.p.P x) := by
        show _ = _
        rw [← Hx.out]
        exact kern_B HM.out (memE_at (by rw [HL.out.2]; exact hlt))
       have HSt : Hid (∀ W, Below wp.heap.size wp W → W.cell? ⟨G, 2, none⟩ = some (.slice m.ao m.an m.ac) ∧ W.cell? ⟨G, 3, none⟩ = some (.slice (some ad) m.bn m.bc) ∧ (K.ld26 (.pointer (some (ad.add (k * 4))))).run Tryz.prog W = .ok (.agg (K.DC x)) W ∧ (ldP (.pointer (some ⟨G, 4, none⟩))).run Tryz.prog W = .ok (PV m.p) W) := fun W hW => by
        have hb := HKp.out.box.below hW
        refine ⟨hb.a, ?_, K.run_ld26 (HA0.out.on hW), run_ldP hb.p⟩
        rw [← Hao.out]; exact hb.b
       clear A0 hao hlt hk
       go_upto_region 21 with fail
       clear bq
       refine wp_region_held_drew (S := fun W => W.cell? ⟨G, 2, none⟩ = some (.slice m.ao m.an m.ac) ∧ W.cell? ⟨G, 3, none⟩ = some (.slice (some ad) m.bn m.bc) ∧ (K.ld26 (.pointer (some (ad.add (k * 4))))).run Tryz.prog W = .ok (.agg (K.DC x)) W ∧ (ldP (.pointer (some ⟨G, 4, none⟩))).run Tryz.prog W = .ok (PV m.p) W) (by kernel_rfl) (HSt.out _ (below_drew1 wp)) (fun hHeld => ?_)
       refine wTk 0 ⟨some 134, .fieldAddr 29 (.tmp 1) 2, 0, "law.go:155", #[], none⟩ rfl ?_
       refine wTk 1 ⟨some 135, .load 23 (.tmp 134), 23, "law.go:155", #[⟨0, .data⟩], none⟩ rfl ?_
       refine wTk 2 ⟨some 136, .fieldAddr 29 (.tmp 1) 3, 0, "law.go:155", #[], none⟩ rfl ?_
       refine wTk 3 ⟨some 137, .load 23 (.tmp 136), 23, "law.go:155", #[⟨2, .data⟩], none⟩ rfl ?_
       refine wTk 4 ⟨some 138, .move (.tmp 10), 3, "law.go:155", #[], none⟩ rfl ?_
       refine wTk 5 ⟨some 139, .indexAddr 23 (.tmp 137) (.tmp 138), 0, "law.go:155", #[⟨3, .data⟩, ⟨4, .data⟩], none⟩ rfl ?_
       refine wTk 6 ⟨some 140, .fieldAddr 49 (.tmp 139) 0, 0, "law.go:155", #[⟨5, .data⟩], none⟩ rfl ?_
       refine wTk 7 ⟨some 141, .load 47 (.tmp 140), 47, "law.go:155", #[⟨6, .data⟩], none⟩ rfl ?_
       refine wpAnyH_ready (rs := [8]) (by kernel_rfl) (by simp) (.cons rfl (fun K hK => ?_) .nil)
       go_simp
       go_wp2_with fail
       refine (Go.Proofs.YtfpmijfcemopoaaGreat.K.dotInE_any m.ao m.an m.ac A x _ ((HS.out.a.below HKp.out.bel).below (below_drew1 wp))).mono ?_
       rintro e u8 ⟨rfl, b8⟩
       have HT8 : Hid (Below wp.heap.size wp u8) := (below_drew1 wp).trans b8
       refine hK.out _ _ (HSt.out _ HT8.out) (fun hHeld => ?_)
       clear hK K
       clear b8
       cases hd : A.any (fun e => Go.Proofs.YtfpmijfcemopoaaGreat.K.sameDot e x) with
       | true =>
        refine wTk 9 ⟨some 143, .move (.tmp 142), 4, "law.go:155", #[⟨8, .data⟩, ⟨8, .chain⟩], none⟩ rfl ?_
        refine wSk 10 ⟨some 144, .fieldAddr 29 (.tmp 1) 4, 0, "law.go:155", #[⟨9, .guard⟩], some (9, false)⟩ rfl ?_
        refine wSk 11 ⟨some 145, .load 27 (.tmp 144), 27, "law.go:155", #[⟨10, .data⟩, ⟨9, .guard⟩], some (9, false)⟩ rfl ?_
        refine wSk 12 ⟨some 146, .fieldAddr 29 (.tmp 1) 3, 0, "law.go:155", #[⟨9, .guard⟩], some (9, false)⟩ rfl ?_
        refine wSk 13 ⟨some 147, .load 23 (.tmp 146), 23, "law.go:155", #[⟨12, .data⟩, ⟨9, .guard⟩], some (9, false)⟩ rfl ?_
        refine wSk 14 ⟨some 148, .move (.tmp 10), 3, "law.go:155", #[⟨9, .guard⟩], some (9, false)⟩ rfl ?_
        refine wSk 15 ⟨some 149, .indexAddr 23 (.tmp 147) (.tmp 148), 0, "law.go:155", #[⟨13, .data⟩, ⟨14, .data⟩, ⟨9, .guard⟩], some (9, false)⟩ rfl ?_
        refine wSk 16 ⟨some 150, .fieldAddr 49 (.tmp 149) 0, 0, "law.go:155", #[⟨15, .data⟩, ⟨9, .guard⟩], some (9, false)⟩ rfl ?_
        refine wSk 17 ⟨some 151, .load 47 (.tmp 150), 47, "law.go:155", #[⟨16, .data⟩, ⟨9, .guard⟩], some (9, false)⟩ rfl ?_
        refine wSk 18 ⟨some 152, .call ⟨.value (.func 37), #[.tmp 145, .tmp 151], #[27, 47]⟩, 4, "law.go:155", #[⟨11, .data⟩, ⟨17, .data⟩, ⟨9, .chain⟩, ⟨9, .guard⟩], some (9, false)⟩ rfl ?_
        refine wSk 19 ⟨some 153, .unOp .not 4 (.tmp 152), 4, "law.go:155", #[⟨18, .data⟩, ⟨9, .guard⟩], some (9, false)⟩ rfl ?_
        refine wTk 20 ⟨some 154, .pick (.tmp 143) (.const (.bool true)) (.tmp 153), 4, "law.go:155", #[⟨9, .data⟩, ⟨19, .data⟩], none⟩ rfl ?_
        refine wTk 21 ⟨some 11, .assign (.tmp 154), 4, "law.go:155", #[⟨20, .data⟩, ⟨18, .chain⟩, ⟨0, .phase⟩, ⟨1, .phase⟩, ⟨2, .phase⟩, ⟨3, .phase⟩, ⟨4, .phase⟩, ⟨5, .phase⟩, ⟨6, .phase⟩, ⟨7, .phase⟩, ⟨8, .phase⟩, ⟨9, .phase⟩, ⟨10, .phase⟩, ⟨11, .phase⟩, ⟨12, .phase⟩, ⟨13, .phase⟩, ⟨14, .phase⟩, ⟨15, .phase⟩, ⟨16, .phase⟩, ⟨17, .phase⟩, ⟨18, .phase⟩, ⟨19, .phase⟩, ⟨20, .phase⟩], none⟩ rfl ?_
        refine wpAnyH_done (by kernel_rfl) ?_ _
        clear hHeld
        have HSy : Hid (stayB A m.p.P x = true) := by
         show _ = _
         unfold stayB
         rw [hd]
         rfl
        clear hd
        have HKy := hide (HKp.out.below HT8.out)
        have HNx := hide (HI.out.trans (HT8.out.mono HI.out.size))
        have HAy := hide (HA0.out.on HT8.out)
        have ay := HKy.out.box.b
        rw [Hao.out] at ay
        have ly := K.run_ld28 HAy.out
        go_wp2_with fail
        clear ay ly
        refine (K.hasE_any a3 n3 c3 Z x _ ((HZq.out.below HI.out).below HT8.out)).mono ?_
        rintro e uf ⟨rfl, bf⟩
        rw [HKa.out, HSy.out]
        have HNf := hide (HNx.out.trans (bf.mono HNx.out.size))
        clear bf
        go_wp2_with fail
        go_roundw
        case rel => exact ⟨k + 1, Hlt.out, by simp, HNf⟩
        case measure => simp [intOf]; have := Hlt.out; omega
       | false =>
        refine wTk 9 ⟨some 143, .move (.tmp 142), 4, "law.go:155", #[⟨8, .data⟩, ⟨8, .chain⟩], none⟩ rfl ?_
        refine wTk 10 ⟨some 144, .fieldAddr 29 (.tmp 1) 4, 0, "law.go:155", #[⟨9, .guard⟩], some (9, false)⟩ rfl ?_
        refine wTk 11 ⟨some 145, .load 27 (.tmp 144), 27, "law.go:155", #[⟨10, .data⟩, ⟨9, .guard⟩], some (9, false)⟩ rfl ?_
        refine wTk 12 ⟨some 146, .fieldAddr 29 (.tmp 1) 3, 0, "law.go:155", #[⟨9, .guard⟩], some (9, false)⟩ rfl ?_
        refine wTk 13 ⟨some 147, .load 23 (.tmp 146), 23, "law.go:155", #[⟨12, .data⟩, ⟨9, .guard⟩], some (9, false)⟩ rfl ?_
        refine wTk 14 ⟨some 148, .move (.tmp 10), 3, "law.go:155", #[⟨9, .guard⟩], some (9, false)⟩ rfl ?_
        refine wTk 15 ⟨some 149, .indexAddr 23 (.tmp 147) (.tmp 148), 0, "law.go:155", #[⟨13, .data⟩, ⟨14, .data⟩, ⟨9, .guard⟩], some (9, false)⟩ rfl ?_
        refine wTk 16 ⟨some 150, .fieldAddr 49 (.tmp 149) 0, 0, "law.go:155", #[⟨15, .data⟩, ⟨9, .guard⟩], some (9, false)⟩ rfl ?_
        refine wTk 17 ⟨some 151, .load 47 (.tmp 150), 47, "law.go:155", #[⟨16, .data⟩, ⟨9, .guard⟩], some (9, false)⟩ rfl ?_
        refine wpAnyH_ready (rs := [18]) (by kernel_rfl) (by simp) (.cons rfl (fun K hK => ?_) .nil)
        go_simp
        go_wp2_with fail
        refine (pastHas_any m.p ⟨x.rep, x.num⟩ _ ((HS.out.p.below HKp.out.bel).below HT8.out)).mono ?_
        rintro e u18 ⟨b, rfl, hb, b18⟩
        have HT18 : Hid (Below wp.heap.size wp u18) := HT8.out.trans (b18.mono HT8.out.size)
        have hib := inB_is hb
        refine hK.out _ _ (HSt.out _ HT18.out) (fun hHeld => ?_)
        clear hK K
        clear b18 hb
        refine wTk 19 ⟨some 153, .unOp .not 4 (.tmp 152), 4, "law.go:155", #[⟨18, .data⟩, ⟨9, .guard⟩], some (9, false)⟩ rfl ?_
        refine wTk 20 ⟨some 154, .pick (.tmp 143) (.const (.bool true)) (.tmp 153), 4, "law.go:155", #[⟨9, .data⟩, ⟨19, .data⟩], none⟩ rfl ?_
        refine wTk 21 ⟨some 11, .assign (.tmp 154), 4, "law.go:155", #[⟨20, .data⟩, ⟨18, .chain⟩, ⟨0, .phase⟩, ⟨1, .phase⟩, ⟨2, .phase⟩, ⟨3, .phase⟩, ⟨4, .phase⟩, ⟨5, .phase⟩, ⟨6, .phase⟩, ⟨7, .phase⟩, ⟨8, .phase⟩, ⟨9, .phase⟩, ⟨10, .phase⟩, ⟨11, .phase⟩, ⟨12, .phase⟩, ⟨13, .phase⟩, ⟨14, .phase⟩, ⟨15, .phase⟩, ⟨16, .phase⟩, ⟨17, .phase⟩, ⟨18, .phase⟩, ⟨19, .phase⟩, ⟨20, .phase⟩], none⟩ rfl ?_
        refine wpAnyH_done (by kernel_rfl) ?_ _
        clear hHeld
        cases b with
        | true =>
         have HSy : Hid (stayB A m.p.P x = false) := by
          show _ = _
          unfold stayB
          rw [hd, hib]
          rfl
         clear hd hib
         have HKy := hide (HKp.out.below HT18.out)
         have HNx := hide (HI.out.trans (HT18.out.mono HI.out.size))
         have HAy := hide (HA0.out.on HT18.out)
         have ay := HKy.out.box.b
         rw [Hao.out] at ay
         have ly := K.run_ld28 HAy.out
         go_wp2_with fail
         clear ay ly
         refine (K.hasE_any a3 n3 c3 Z x _ ((HZq.out.below HI.out).below HT18.out)).mono ?_
         rintro e uf ⟨rfl, bf⟩
         rw [HKa.out, HSy.out]
         have HNf := hide (HNx.out.trans (bf.mono HNx.out.size))
         clear bf
         go_wp2_with fail
         go_roundw
         case rel => exact ⟨k + 1, Hlt.out, by simp, HNf⟩
         case measure => simp [intOf]; have := Hlt.out; omega
        | false =>
         have HSy : Hid (stayB A m.p.P x = true) := by
          show _ = _
          unfold stayB
          rw [hd, hib]
          rfl
         clear hd hib
         have HKy := hide (HKp.out.below HT18.out)
         have HNx := hide (HI.out.trans (HT18.out.mono HI.out.size))
         have HAy := hide (HA0.out.on HT18.out)
         have ay := HKy.out.box.b
         rw [Hao.out] at ay
         have ly := K.run_ld28 HAy.out
         go_wp2_with fail
         clear ay ly
         refine (K.hasE_any a3 n3 c3 Z x _ ((HZq.out.below HI.out).below HT18.out)).mono ?_
         rintro e uf ⟨rfl, bf⟩
         rw [HKa.out, HSy.out]
         have HNf := hide (HNx.out.trans (bf.mono HNx.out.size))
         clear bf
         go_wp2_with fail
         go_roundw
         case rel => exact ⟨k + 1, Hlt.out, by simp, HNf⟩
         case measure => simp [intOf]; have := Hlt.out; omega
      ·have hlti : ¬ (k : Int) < (m.bn : Int) := by omega
       go_wp2_with fail
       go_ret
       exact ⟨rfl, HKp.out.bel⟩
end Go.Proofs.YtfpmijfcemopoaaGreat
