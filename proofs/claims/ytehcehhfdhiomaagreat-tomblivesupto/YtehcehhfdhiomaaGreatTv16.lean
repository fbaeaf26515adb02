/- PCf LBase LSku LRSku -/
import Derived.Test.YtehcehhfdhiomaaGreatTv14
import Derived.Test.YtehcehhfdhiomaaGreatTv15
import Derived.Test.YtehcehhfdhiomaaGreatRows
import Derived.WalkKit
import Derived.WalkSpells
import Derived.Deep.QuietTactic
import Derived.BigQuiet
namespace Go.Proofs.YtehcehhfdhiomaaGreat
open Go.RowKit
attribute [local go_sem ↓] ldP_eq stP_eq
attribute [local go_sem] zero_PC cells_PV fold_PC PC_size fold_PC1
def GivesK (w w' : World) (e : Ending) (P : Int → Prop) : Prop := ∃ k, e = .returned (.int .i64 k) ∧ P k ∧ Below w.heap.size w w'
def CmpOf (P Q : Pst) (z : Int) : Prop := ∃ X Y, CanonOf (runsAt P) X ∧ CanonOf (runsAt Q) Y ∧ z = cmpP X Y
theorem CmpOf.unique {P Q : Pst} {z z' : Int} (h : CmpOf P Q z) (h' : CmpOf P Q z') : z = z' := by
 obtain ⟨X, Y, hX, hY, rfl⟩ := h
 obtain ⟨X', Y', hX', hY', rfl⟩ := h'
 rw [hX.unique hX' (fun _ _ _ => Iff.rfl), hY.unique hY' (fun _ _ _ => Iff.rfl)]
def PhE (a b : Pv) (_ : World) (_ : World) : Nat → Value → World → Prop
 | 0, x, _ => x = PV a
 | 2, x, _ => x = PV b
 | _, _, _ => True
theorem PhE_mono (a b : Pv) (w : World) (W0 : World) : Mono (PhE a b w W0) := fun i _ _ _ h _ => match i with
 | 0 => h
 | 2 => h
 | 1 => trivial
 | 3 => trivial
 | 4 => trivial
 | 5 => trivial
 | 6 => trivial
 | 7 => trivial
 | _ + 8 => trivial
theorem PhE_inv (a b : Pv) (w : World) (W0 : World) : ∀ j x U U', j ∉ [] → PhE a b w W0 j x U → PhE a b w W0 j x U' := fun j _ _ _ _ h => match j with
 | 0 => h
 | 2 => h
 | 1 => trivial
 | 3 => trivial
 | 4 => trivial
 | 5 => trivial
 | 6 => trivial
 | 7 => trivial
 | _ + 8 => trivial
set_option maxRecDepth 100000 in
set_option maxHeartbeats 4000000 in
theorem stE {a b : Pv} {w wk : World} (HXA : Hid (PBox wk w.heap.size a)) (HXB : Hid (PBox wk (w.heap.size + 1) b)) (HA : Hid (PSrc wk a)) (HB : Hid (PSrc wk b)) {Q : Exit → Act → World → Prop} :
  ∀ (l : Array Bool) (x : Act) (W : World), (∃ v1x0 v1x1 v1x2 v1x3 v1x4 v1x5, x = { tmps := #[PV a, PV b, ptr w.heap.size, ptr (w.heap.size + 1), .int .i64 0, v1x4, v1x5, undef, v1x0, v1x1, v1x2, v1x3, undef, undef, undef, undef, undef, undef, undef, undef, undef, undef, undef, undef, undef], defers := [] } ∧ BI 8 6 wk (PhE a b w wk) [] [(1, CanonOf (runsAt a.P)), (3, CanonOf (runsAt b.P))] [(4, 6, 1), (5, 7, 3)] l W [v1x0, v1x1, v1x2, v1x3, v1x4, v1x5, undef, undef]) → ∀ i, i ∈ Region.ready .any #[⟨some 8, .load 26 (.tmp 2), 26, "sets.go:53", #[], none⟩, ⟨some 9, .call ⟨.value (.func 111), #[.tmp 8], #[26]⟩, 26, "sets.go:53", #[⟨0, .data⟩], none⟩, ⟨some 10, .load 26 (.tmp 3), 26, "sets.go:53", #[], none⟩, ⟨some 11, .call ⟨.value (.func 111), #[.tmp 10], #[26]⟩, 26, "sets.go:53", #[⟨2, .data⟩, ⟨1, .chain⟩], none⟩, ⟨some 5, .alloc 26, 0, "sets.go:53", #[], none⟩, ⟨some 6, .alloc 26, 0, "sets.go:53", #[], none⟩, ⟨none, .store 26 (.tmp 5) (.tmp 9), 0, "sets.go:53", #[⟨4, .data⟩, ⟨1, .data⟩, ⟨3, .chain⟩, ⟨0, .phase⟩, ⟨1, .phase⟩, ⟨2, .textOnly .lateStores⟩, ⟨3, .textOnly .lateStoresUnsure⟩, ⟨4, .phase⟩, ⟨5, .phase⟩], none⟩, ⟨none, .store 26 (.tmp 6) (.tmp 11), 0, "sets.go:53", #[⟨5, .data⟩, ⟨3, .data⟩, ⟨6, .chain⟩, ⟨0, .phase⟩, ⟨1, .phase⟩, ⟨2, .phase⟩, ⟨3, .phase⟩, ⟨4, .phase⟩, ⟨5, .phase⟩, ⟨6, .phase⟩], none⟩] l → wpOp Tryz.prog #[⟨some 8, .load 26 (.tmp 2), 26, "sets.go:53", #[], none⟩, ⟨some 9, .call ⟨.value (.func 111), #[.tmp 8], #[26]⟩, 26, "sets.go:53", #[⟨0, .data⟩], none⟩, ⟨some 10, .load 26 (.tmp 3), 26, "sets.go:53", #[], none⟩, ⟨some 11, .call ⟨.value (.func 111), #[.tmp 10], #[26]⟩, 26, "sets.go:53", #[⟨2, .data⟩, ⟨1, .chain⟩], none⟩, ⟨some 5, .alloc 26, 0, "sets.go:53", #[], none⟩, ⟨some 6, .alloc 26, 0, "sets.go:53", #[], none⟩, ⟨none, .store 26 (.tmp 5) (.tmp 9), 0, "sets.go:53", #[⟨4, .data⟩, ⟨1, .data⟩, ⟨3, .chain⟩, ⟨0, .phase⟩, ⟨1, .phase⟩, ⟨2, .textOnly .lateStores⟩, ⟨3, .textOnly .lateStoresUnsure⟩, ⟨4, .phase⟩, ⟨5, .phase⟩], none⟩, ⟨none, .store 26 (.tmp 6) (.tmp 11), 0, "sets.go:53", #[⟨5, .data⟩, ⟨3, .data⟩, ⟨6, .chain⟩, ⟨0, .phase⟩, ⟨1, .phase⟩, ⟨2, .phase⟩, ⟨3, .phase⟩, ⟨4, .phase⟩, ⟨5, .phase⟩, ⟨6, .phase⟩], none⟩] Q i (fun a' w' => ∃ v1x0 v1x1 v1x2 v1x3 v1x4 v1x5, a' = { tmps := #[PV a, PV b, ptr w.heap.size, ptr (w.heap.size + 1), .int .i64 0, v1x4, v1x5, undef, v1x0, v1x1, v1x2, v1x3, undef, undef, undef, undef, undef, undef, undef, undef, undef, undef, undef, undef, undef], defers := [] } ∧ BI 8 6 wk (PhE a b w wk) [] [(1, CanonOf (runsAt a.P)), (3, CanonOf (runsAt b.P))] [(4, 6, 1), (5, 7, 3)] (l.setIfInBounds i true) w' [v1x0, v1x1, v1x2, v1x3, v1x4, v1x5, undef, undef]) x W := by
 rintro l x W ⟨v1x0, v1x1, v1x2, v1x3, v1x4, v1x5, rfl, T⟩ i hi
 obtain ⟨hi1, hi2, hi3⟩ := ready_mem hi
 have hi4 := no_true hi2
 have hc : i = 0 ∨ i = 1 ∨ i = 2 ∨ i = 3 ∨ i = 4 ∨ i = 5 ∨ i = 6 ∨ i = 7 := by have h : i < 8 := hi1; omega
 have HT := hide T
 clear T
 rcases hc with rfl | rfl | rfl | rfl | rfl | rfl | rfl | rfl
 ·have HL := hide hi4
  clear hi hi1 hi2 hi3 hi4
  have l1 := run_ldP (HXA.out.below HT.out.b).at
  refine wpOp_step (o := ⟨some 8, .load 26 (.tmp 2), 26, "sets.go:53", #[], none⟩) rfl (fun K hK => ?_)
  go_simp
  exact hK _ _ ⟨PV a, v1x1, v1x2, v1x3, v1x4, v1x5, rfl, HT.out.plain (PhE_mono a b w wk) (Below.refl _ _) 0 (by decide) HL.out _ rfl (by simp) (by simp) (by decide)⟩
 ·have d0 := hi3 _ rfl { on := 0, ground := Ground.data } (by simp) rfl
  have e0 : v1x0 = PV a := HT.out.h 0 (by decide) d0 (fun hm => absurd hm (by decide))
  subst e0
  have HL := hide hi4
  clear hi hi1 hi2 hi3 hi4 d0
  refine wpOp_step (o := ⟨some 9, .call ⟨.value (.func 111), #[.tmp 8], #[26]⟩, 26, "sets.go:53", #[⟨0, .data⟩], none⟩) rfl (fun K hK => ?_)
  go_simp
  go_wp2_with fail
  refine (formed_any a _ (HA.out.below HT.out.b)).mono ?_
  rintro e w' ⟨pp, rfl, pS, pN, pb, pq⟩
  exact hK _ _ ⟨_, PV pp, v1x2, v1x3, v1x4, v1x5, rfl, HT.out.callF (PhE_mono a b w wk) pb 1 (CanonOf (runsAt a.P)) (by decide) HL.out (by simp) (by simp) pp pS (fun g h1 h2 => pN.elim (fun e => by rw [e]; exact PFar.old HA.out h1) (fun h => PFar.new h h2)) (pq) (fun _ _ => trivial) (by simp) (by decide)⟩
 ·have HL := hide hi4
  clear hi hi1 hi2 hi3 hi4
  have l1 := run_ldP (HXB.out.below HT.out.b).at
  refine wpOp_step (o := ⟨some 10, .load 26 (.tmp 3), 26, "sets.go:53", #[], none⟩) rfl (fun K hK => ?_)
  go_simp
  exact hK _ _ ⟨v1x0, v1x1, PV b, v1x3, v1x4, v1x5, rfl, HT.out.plain (PhE_mono a b w wk) (Below.refl _ _) 2 (by decide) HL.out _ rfl (by simp) (by simp) (by decide)⟩
 ·have d2 := hi3 _ rfl { on := 2, ground := Ground.data } (by simp) rfl
  have e2 : v1x2 = PV b := HT.out.h 2 (by decide) d2 (fun hm => absurd hm (by decide))
  subst e2
  have HL := hide hi4
  clear hi hi1 hi2 hi3 hi4 d2
  refine wpOp_step (o := ⟨some 11, .call ⟨.value (.func 111), #[.tmp 10], #[26]⟩, 26, "sets.go:53", #[⟨2, .data⟩, ⟨1, .chain⟩], none⟩) rfl (fun K hK => ?_)
  go_simp
  go_wp2_with fail
  refine (formed_any b _ (HB.out.below HT.out.b)).mono ?_
  rintro e w' ⟨pp, rfl, pS, pN, pb, pq⟩
  exact hK _ _ ⟨v1x0, v1x1, _, PV pp, v1x4, v1x5, rfl, HT.out.callF (PhE_mono a b w wk) pb 3 (CanonOf (runsAt b.P)) (by decide) HL.out (by simp) (by simp) pp pS (fun g h1 h2 => pN.elim (fun e => by rw [e]; exact PFar.old HB.out h1) (fun h => PFar.new h h2)) (pq) (fun _ _ => trivial) (by simp) (by decide)⟩
 ·have HL := hide hi4
  clear hi hi1 hi2 hi3 hi4
  refine wpOp_step (o := ⟨some 5, .alloc 26, 0, "sets.go:53", #[], none⟩) rfl (fun K hK => ?_)
  go_simp
  exact hK _ _ ⟨v1x0, v1x1, v1x2, v1x3, ptr W.heap.size, v1x5, rfl, HT.out.make (PhE_mono a b w wk) 4 6 1 (by decide) HL.out (by simp) (by simp) (by simp) (by simp) (fun _ _ => trivial) (by decide)⟩
 ·have HL := hide hi4
  clear hi hi1 hi2 hi3 hi4
  refine wpOp_step (o := ⟨some 6, .alloc 26, 0, "sets.go:53", #[], none⟩) rfl (fun K hK => ?_)
  go_simp
  exact hK _ _ ⟨v1x0, v1x1, v1x2, v1x3, v1x4, ptr W.heap.size, rfl, HT.out.make (PhE_mono a b w wk) 5 7 3 (by decide) HL.out (by simp) (by simp) (by simp) (by simp) (fun _ _ => trivial) (by decide)⟩
 ·have da := hi3 _ rfl { on := 4, ground := Ground.data } (by simp) rfl
  have dc := hi3 _ rfl { on := 1, ground := Ground.data } (by simp) rfl
  obtain ⟨pc, ec, -, -, -⟩ := HT.out.r (1, CanonOf (runsAt a.P)) (by simp) dc
  obtain ⟨g, eg, PB, T2⟩ := HT.out.fill 4 6 1 pc (by decide) hi4 (by simp) (by simp) (by simp) da dc (Or.inl rfl) ec (by simp) (by simp) (PhE_inv a b w wk) (fun _ _ => trivial) undef
  have fg : v1x4 = ptr g := eg
  have fc : v1x1 = PV pc := ec
  subst fg fc
  have s1 := run_stP (p' := pc) PB
  have HT2 := hide T2
  clear T2 PB eg ec da dc HT hi hi1 hi2 hi3 hi4
  refine wpOp_step (o := ⟨none, .store 26 (.tmp 5) (.tmp 9), 0, "sets.go:53", #[⟨4, .data⟩, ⟨1, .data⟩, ⟨3, .chain⟩, ⟨0, .phase⟩, ⟨1, .phase⟩, ⟨2, .textOnly .lateStores⟩, ⟨3, .textOnly .lateStoresUnsure⟩, ⟨4, .phase⟩, ⟨5, .phase⟩], none⟩) rfl (fun K hK => ?_)
  go_simp
  exact hK _ _ ⟨v1x0, _, v1x2, v1x3, _, v1x5, rfl, HT2.out⟩
 ·have da := hi3 _ rfl { on := 5, ground := Ground.data } (by simp) rfl
  have dc := hi3 _ rfl { on := 3, ground := Ground.data } (by simp) rfl
  have dt := hi3 _ rfl { on := 6, ground := Ground.chain } (by simp) rfl
  obtain ⟨pc, ec, -, -, -⟩ := HT.out.r (3, CanonOf (runsAt b.P)) (by simp) dc
  obtain ⟨g, eg, PB, T2⟩ := HT.out.fill 5 7 3 pc (by decide) hi4 (by simp) (by simp) (by simp) da dc (Or.inr dt) ec (by simp) (by simp) (PhE_inv a b w wk) (fun _ _ => trivial) undef
  have fg : v1x5 = ptr g := eg
  have fc : v1x3 = PV pc := ec
  subst fg fc
  have s1 := run_stP (p' := pc) PB
  have HT2 := hide T2
  clear T2 PB eg ec da dc dt HT hi hi1 hi2 hi3 hi4
  refine wpOp_step (o := ⟨none, .store 26 (.tmp 6) (.tmp 11), 0, "sets.go:53", #[⟨5, .data⟩, ⟨3, .data⟩, ⟨6, .chain⟩, ⟨0, .phase⟩, ⟨1, .phase⟩, ⟨2, .phase⟩, ⟨3, .phase⟩, ⟨4, .phase⟩, ⟨5, .phase⟩, ⟨6, .phase⟩], none⟩) rfl (fun K hK => ?_)
  go_simp
  exact hK _ _ ⟨v1x0, v1x1, v1x2, _, v1x4, _, rfl, HT2.out⟩
set_option maxRecDepth 100000 in
set_option maxHeartbeats 4000000 in
theorem pastCompare_any (a b : Pv) (w : World) (hA : PSrc w a) (hB : PSrc w b) : Calls Tryz.prog 79 #[PV a, PV b] w fun e w' => GivesK w w' e (CmpOf a.P b.P) := by
 have b1 := below_new w (.cells (PC a) 26)
 have b2 := below_new (w.alloc (.cells (PC a) 26)) (.cells (PC b) 26)
 have p2 := pbox_new (w.alloc (.cells (PC a) 26)) b
 rw [World.size_alloc] at p2
 have HXA := hide ((pbox_new w a).below b2)
 have HXB := hide p2
 have HBWwk := hide (b1.trans (b2.mono b1.size))
 have HA := hide (hA.below HBWwk.out)
 have HB := hide (hB.below HBWwk.out)
 clear b1 b2 p2 hA hB
 obtain ⟨wk, hwk⟩ : ∃ wk, (w.alloc (.cells (PC a) 26)).alloc (.cells (PC b) 26) = wk := ⟨_, rfl⟩
 rw [hwk] at HXA HXB HBWwk HA HB
 go_enter Tryz.func79, Tryz.ntmps79
 go_wp2_with fail
 clear hwk
 refine wp_region_inv (by kernel_rfl) (fun l x W => ∃ v1x0 v1x1 v1x2 v1x3 v1x4 v1x5, x = { tmps := #[PV a, PV b, ptr w.heap.size, ptr (w.heap.size + 1), .int .i64 0, v1x4, v1x5, undef, v1x0, v1x1, v1x2, v1x3, undef, undef, undef, undef, undef, undef, undef, undef, undef, undef, undef, undef, undef], defers := [] } ∧ BI 8 6 wk (PhE a b w wk) [] [(1, CanonOf (runsAt a.P)), (3, CanonOf (runsAt b.P))] [(4, 6, 1), (5, 7, 3)] l W [v1x0, v1x1, v1x2, v1x3, v1x4, v1x5, undef, undef]) ⟨undef, undef, undef, undef, undef, undef, rfl, BI.start _ _ _ _ _ _ _ _ rfl⟩ ?_ ?_ ?_
 ·rintro l x W ⟨v1x0, v1x1, v1x2, v1x3, v1x4, v1x5, rfl, T⟩
  exact T.sz
 ·exact stE HXA HXB HA HB
 ·rintro l x W ⟨v1x0, v1x1, v1x2, v1x3, v1x4, v1x5, rfl, T⟩ hnil
  have hall := fun i (hi : i < 8) => ready_done (by kernel_rfl) T.sz hnil i hi
  have HT := hide T
  clear T hnil
  have e0 : v1x0 = PV a := HT.out.h 0 (by decide) (hall 0 (by decide)) (fun hm => absurd hm (by decide))
  subst e0
  obtain ⟨qa, e1, Sqa, qqa, -⟩ := HT.out.r (1, CanonOf (runsAt a.P)) (by simp) (hall 1 (by decide))
  have f1 : v1x1 = PV qa := e1
  subst f1
  have HSqa := hide Sqa
  have HQqa : Hid (CanonOf (runsAt a.P) qa.P) := qqa
  clear e1 Sqa qqa
  have e2 : v1x2 = PV b := HT.out.h 2 (by decide) (hall 2 (by decide)) (fun hm => absurd hm (by decide))
  subst e2
  obtain ⟨qb, e3, Sqb, qqb, -⟩ := HT.out.r (3, CanonOf (runsAt b.P)) (by simp) (hall 3 (by decide))
  have f3 : v1x3 = PV qb := e3
  subst f3
  have HSqb := hide Sqb
  have HQqb : Hid (CanonOf (runsAt b.P) qb.P) := qqb
  clear e3 Sqb qqb
  obtain ⟨ga, e4, -, -, -, k4⟩ := HT.out.a (4, 6, 1) (by simp) (hall 4 (by decide))
  have HXga : Hid (PBox W ga qa) := k4 (hall 6 (by decide)) qa rfl
  have f4 : v1x4 = ptr ga := e4
  subst f4
  clear e4 k4
  obtain ⟨gb, e5, -, -, -, k5⟩ := HT.out.a (5, 7, 3) (by simp) (hall 5 (by decide))
  have HXgb : Hid (PBox W gb qb) := k5 (hall 7 (by decide)) qb rfl
  have f5 : v1x5 = ptr gb := e5
  subst f5
  clear e5 k5
  have by1 := HT.out.b
  rename World => y1
  clear hall HT l
  replace HXA := hide (HXA.out.below by1)
  replace HXB := hide (HXB.out.below by1)
  replace HA := hide (HA.out.below by1)
  replace HB := hide (HB.out.below by1)
  have HBWy1 := hide (HBWwk.out.trans (by1.mono HBWwk.out.size))
  clear by1
  obtain ⟨va, ca⟩ := HXga.out.nums
  obtain ⟨vb, cb⟩ := HXgb.out.nums
  have HC : Hid (CmpOf a.P b.P (cmpP qa.P qb.P)) := ⟨qa.P, qb.P, HQqa.out, HQqb.out, rfl⟩
  go_wp2_with fail
  refine (slCompare_any _ _ _ _ _ _ qa.P.vec qb.P.vec _ HSqa.out.vec HSqb.out.vec HSqa.out.big HSqb.out.big).mono ?_
  rintro e z1 ⟨rfl, bz1⟩
  have ca' := (bz1.cell (World.block_lt_of_cell? _ _ ca)).trans ca
  have cb' := (bz1.cell (World.block_lt_of_cell? _ _ cb)).trans cb
  have HBz := hide (HBWy1.out.trans (bz1.mono HBWy1.out.size))
  have HCA := hide (HSqa.out.below bz1).cloud
  have HCC := hide (HSqb.out.below bz1).cloud
  clear va vb ca cb bz1
  by_cases h0 : lex cmpI qa.P.vec qb.P.vec = 0
  ·have HE : Hid (cmpP qa.P qb.P = lex cmp3 qa.P.cloud qb.P.cloud) := by show _ = _; unfold cmpP; rw [if_pos h0]
   rw [h0]
   clear h0
   go_wp2_with fail
   refine (slCompareS_any _ _ _ _ _ _ qa.P.cloud qb.P.cloud _ HCA.out HCC.out).mono ?_
   rintro e z2 ⟨rfl, bz2⟩
   have HBE := hide (HBz.out.trans (bz2.mono HBz.out.size))
   rw [← HE.out]
   generalize cmpP qa.P qb.P = z at HC ⊢
   clear HE bz2 ca' cb'
   go_wp2_with fail
   go_ret
   exact ⟨z, rfl, HC.out, HBE.out⟩
  ·have HE : Hid (cmpP qa.P qb.P = lex cmpI qa.P.vec qb.P.vec) := by show _ = _; unfold cmpP; rw [if_neg h0]
   rw [← HE.out] at h0 ⊢
   generalize cmpP qa.P qb.P = z at HC h0 ⊢
   have h0' : (z != 0) = true := by simpa using h0
   clear HE h0
   go_wp2_with fail
   go_ret
   exact ⟨z, rfl, HC.out, HBz.out⟩
end Go.Proofs.YtehcehhfdhiomaaGreat
namespace Go.Proofs.YtehcehhfdhiomaaGreat.K
open Go.RowKit

theorem hide {p : Prop} (h : p) : Hid p := h
def dig (c : UInt8) : Bool := decide (48 ≤ (c.toNat : Int)) && decide ((c.toNat : Int) ≤ 57)
theorem ret_bool {a b : Bool} (h : a = b) : Ending.returned (.bool a) = .returned (.bool b) := by rw [h]
theorem ret_int {k : IntKind} {a b : Int} (h : a = b) : Ending.returned (.int k a) = .returned (.int k b) := by rw [h]
theorem ret_two {a a' b b' : Int} (h : a = a') (h2 : b = b') : Ending.returned (.tuple #[.int .i64 a, .int .i64 b]) = .returned (.tuple #[.int .i64 a', .int .i64 b']) := by rw [h, h2]
theorem empty_yes (s : ByteArray) (h : s.size = 0) : s.toList.isEmpty = true := by
 rw [ByteArray.toList_eq, List.isEmpty_iff, ← List.length_eq_zero_iff]; simpa using h
theorem empty_no (s : ByteArray) (h : ¬ s.size = 0) : s.toList.isEmpty = false := by
 rw [ByteArray.toList_eq, List.isEmpty_eq_false_iff, ← List.length_pos_iff]; have : s.data.size = s.size := rfl; simp; omega
end Go.Proofs.YtehcehhfdhiomaaGreat.K
namespace Go.Proofs.YtehcehhfdhiomaaGreat.K
open Go.RowKit

def mk (c : UInt8) : Bool := ((c.toNat : Int) == 45) || ((c.toNat : Int) == 46)
def lt (c : UInt8) : Bool := decide (65 ≤ (c.toNat : Int)) && decide ((c.toNat : Int) ≤ 90)

set_option maxHeartbeats 800000 in
theorem isMark_any (c : UInt8) (w : World) : Calls Tryz.prog 167 #[.int .u8 (c.toNat : Int)] w fun e w' => e = .returned (.bool (mk c)) ∧ w' = w := by
 by_cases h : (c.toNat : Int) = 45
 ·have h' : ((c.toNat : Int) == 45) = true := by simpa using h
  have HM : Hid (mk c = true) := by show _ = _; unfold mk; rw [h']; rfl
  clear h
  go_enter Tryz.func167, Tryz.ntmps167
  go_wp2
  go_ret
  exact ⟨ret_bool HM.out.symm, rfl⟩
 ·have h' : ((c.toNat : Int) == 45) = false := by simpa using h
  have HM : Hid (((c.toNat : Int) == 46) = mk c) := by show _ = _; unfold mk; rw [h']; rfl
  clear h
  go_enter Tryz.func167, Tryz.ntmps167
  go_wp2
  go_ret
  exact ⟨ret_bool HM.out, rfl⟩
set_option maxHeartbeats 800000 in
theorem isLetter_any (c : UInt8) (w : World) : Calls Tryz.prog 168 #[.int .u8 (c.toNat : Int)] w fun e w' => e = .returned (.bool (lt c)) ∧ w' = w := by
 by_cases h : 65 ≤ (c.toNat : Int)
 ·have HM : Hid (decide ((c.toNat : Int) ≤ 90) = lt c) := by show _ = _; unfold lt; rw [decide_eq_true h, Bool.true_and]
  go_enter Tryz.func168, Tryz.ntmps168
  go_wp2
  go_ret
  exact ⟨ret_bool HM.out, rfl⟩
 ·have HM : Hid (false = lt c) := by show _ = _; unfold lt; rw [decide_eq_false h, Bool.false_and]
  go_enter Tryz.func168, Tryz.ntmps168
  go_wp2
  go_ret
  exact ⟨ret_bool HM.out, rfl⟩
set_option maxHeartbeats 800000 in
theorem isDigit_any (c : UInt8) (w : World) : Calls Tryz.prog 169 #[.int .u8 (c.toNat : Int)] w fun e w' => e = .returned (.bool (dig c)) ∧ w' = w := by
 by_cases h : 48 ≤ (c.toNat : Int)
 ·have HM : Hid (decide ((c.toNat : Int) ≤ 57) = dig c) := by show _ = _; unfold dig; rw [decide_eq_true h, Bool.true_and]
  go_enter Tryz.func169, Tryz.ntmps169
  go_wp2
  go_ret
  exact ⟨ret_bool HM.out, rfl⟩
 ·have HM : Hid (false = dig c) := by show _ = _; unfold dig; rw [decide_eq_false h, Bool.false_and]
  go_enter Tryz.func169, Tryz.ntmps169
  go_wp2
  go_ret
  exact ⟨ret_bool HM.out, rfl⟩

def stand (l : List UInt8) (i : Nat) : Bool :=
 if mk (l.getD i 0) = true then (decide (0 < i) && decide (i + 1 < l.length)) && !mk (l.getD (i - 1) 0) else lt (l.getD i 0) || dig (l.getD i 0)
theorem getD_at (s : ByteArray) (i : Nat) (h : i < s.size) : s.data.toList.getD i 0 = s[i] := by
 rw [List.getD, List.getElem?_eq_getElem (by simpa using h)]; rfl
theorem len_at (s : ByteArray) : s.data.toList.length = s.size := by simp

set_option maxHeartbeats 1600000 in
theorem canStand_any (s : ByteArray) (i : Nat) (w : World) (hi : i < s.size) (hs : s.size ≤ 1000) : Calls Tryz.prog 134 #[.string s, .int .i64 i] w fun e w' => e = .returned (.bool (stand s.data.toList i)) ∧ w' = w := by
 cases hm : mk s[i] with
 | true =>
  have HM := hide hm
  clear hm
  by_cases h0 : 0 < i
  ·by_cases h1 : i + 1 < s.size
   ·have HS : Hid ((!mk (s[i - 1]'(by omega))) = stand s.data.toList i) := by
     show _ = _
     unfold stand
     rw [getD_at s i hi, getD_at s (i - 1) (by omega), len_at, if_pos HM.out, decide_eq_true h0, decide_eq_true h1]; rfl
    have hz : ((i : Int) - 1).toNat = i - 1 := by omega
    have h1' : (i : Int) < (s.size : Int) - 1 := by omega
    have hK := hide (isMark_any (s[i - 1]'(by omega)))
    obtain ⟨x, hx⟩ : ∃ x : Int, ((s[i - 1]'(by omega)).toNat : Int) = x := ⟨_, rfl⟩
    rw [hx] at hK
    go_enter Tryz.func134, Tryz.ntmps134
    go_wp2_with fail
    refine (isMark_any s[i] _).mono ?_
    rintro e w' ⟨rfl, rfl⟩
    rw [HM.out]
    go_wp2_with fail
    refine (hK.out _).mono ?_
    rintro e w' ⟨rfl, rfl⟩
    go_wp2
    go_ret
    exact ⟨ret_bool HS.out, rfl⟩
   ·have HS : Hid (false = stand s.data.toList i) := by
     show _ = _
     unfold stand
     rw [getD_at s i hi, len_at, if_pos HM.out, decide_eq_true h0, decide_eq_false h1]; rfl
    have h1' : ¬ (i : Int) < (s.size : Int) - 1 := by omega
    go_enter Tryz.func134, Tryz.ntmps134
    go_wp2_with fail
    refine (isMark_any s[i] _).mono ?_
    rintro e w' ⟨rfl, rfl⟩
    rw [HM.out]
    go_wp2
    go_ret
    exact ⟨ret_bool HS.out, rfl⟩
  ·have HS : Hid (false = stand s.data.toList i) := by
    show _ = _
    unfold stand
    rw [getD_at s i hi, len_at, if_pos HM.out, decide_eq_false h0]; rfl
   obtain rfl : i = 0 := by omega
   go_enter Tryz.func134, Tryz.ntmps134
   go_wp2_with fail
   refine (isMark_any s[0] _).mono ?_
   rintro e w' ⟨rfl, rfl⟩
   rw [HM.out]
   go_wp2
   go_ret
   exact ⟨ret_bool HS.out, rfl⟩
 | false =>
  have HM := hide hm
  clear hm
  cases hl : lt s[i] with
  | true =>
   have HLt := hide hl
   clear hl
   have HS : Hid (true = stand s.data.toList i) := by
    show _ = _
    unfold stand
    rw [getD_at s i hi, if_neg (by rw [HM.out]; simp), HLt.out]; rfl
   go_enter Tryz.func134, Tryz.ntmps134
   go_wp2_with (first | (go_at_call 167; refine (isMark_any s[i] _).mono ?_; rintro e w' ⟨rfl, rfl⟩; rw [HM.out]) | (go_at_call 168; refine (isLetter_any s[i] _).mono ?_; rintro e w' ⟨rfl, rfl⟩; rw [HLt.out]))
   go_ret
   exact ⟨ret_bool HS.out, rfl⟩
  | false =>
   have HLt := hide hl
   clear hl
   have HS : Hid (dig s[i] = stand s.data.toList i) := by
    show _ = _
    unfold stand
    rw [getD_at s i hi, if_neg (by rw [HM.out]; simp), HLt.out]; rfl
   go_enter Tryz.func134, Tryz.ntmps134
   go_wp2_with (first | (go_at_call 167; refine (isMark_any s[i] _).mono ?_; rintro e w' ⟨rfl, rfl⟩; rw [HM.out]) | (go_at_call 168; refine (isLetter_any s[i] _).mono ?_; rintro e w' ⟨rfl, rfl⟩; rw [HLt.out]) | (go_at_call 169; refine (isDigit_any s[i] _).mono ?_; rintro e w' ⟨rfl, rfl⟩))
   go_ret
   exact ⟨ret_bool HS.out, rfl⟩

def stands (l : List UInt8) (k : Nat) : Bool := (List.range k).all (stand l)
def ckE (l : List UInt8) : Int := if l.length = 0 then 20 else if 24 < l.length then 21 else if stands l l.length = true then 0 else 22
theorem stands_succ (l : List UInt8) (k : Nat) : stands l (k + 1) = (stands l k && stand l k) := by
 unfold stands; rw [List.range_succ, List.all_append]; simp
theorem stands_no (l : List UInt8) (k n : Nat) (h : k < n) (hs : stand l k = false) : stands l n = false := by
 unfold stands; rw [List.all_eq_false]; exact ⟨k, by simpa using h, by rw [hs]; simp⟩

set_option maxHeartbeats 1600000 in
theorem check_any (s : ByteArray) (w : World) (hs : s.size ≤ maxLen) : Calls Tryz.prog 106 #[.string s] w fun e w' => (∃ p : Int, e = .returned (.tuple #[.int .i64 p, .int .i64 (ckE s.data.toList)])) ∧ w' = w := by
 unfold maxLen at hs
 by_cases h0 : s.size = 0
 ·have he := empty_yes s h0
  have HE : Hid (ckE s.data.toList = 20) := by show _ = _; unfold ckE; rw [len_at, if_pos h0]
  go_enter Tryz.func106, Tryz.ntmps106
  go_wp2
  go_ret2
  exact ⟨⟨0, ret_two rfl HE.out.symm⟩, rfl⟩
 have he := empty_no s h0
 by_cases h24 : 24 < s.size
 ·have HE : Hid (ckE s.data.toList = 21) := by show _ = _; unfold ckE; rw [len_at, if_neg h0, if_pos h24]
  have h24' : (24 : Int) < s.size := by omega
  go_enter Tryz.func106, Tryz.ntmps106
  go_wp2
  go_ret2
  exact ⟨⟨0, ret_two rfl HE.out.symm⟩, rfl⟩
 have h24' : ¬ (24 : Int) < s.size := by omega
 have HE : Hid (ckE s.data.toList = if stands s.data.toList s.size = true then 0 else 22) := by show _ = _; unfold ckE; rw [len_at, if_neg h0, if_neg h24]
 go_enter Tryz.func106, Tryz.ntmps106
 go_wp2
 go_loop [12] (fun i => ∃ k : Nat, k ≤ s.size ∧ i = .int .i64 k ∧ Hid (stands s.data.toList k = true)) (fun i => s.size - (intOf i).toNat)
 case atStart => exact ⟨0, Nat.zero_le _, rfl, rfl⟩
 case round =>
  obtain ⟨k, hk, rfl, HK⟩ := hrel
  by_cases hlt : k < s.size
  ·cases hst : stand s.data.toList k with
   | true =>
    have HST := hide hst
    clear hst
    go_wp2_with (go_at_call 134; refine (canStand_any s k _ hlt (by omega)).mono ?_; rintro e w' ⟨rfl, rfl⟩; rw [HST.out])
    go_round
    case rel => exact ⟨k + 1, by omega, by go_num, by show _ = _; rw [stands_succ, HK.out, HST.out]; rfl⟩
    case measure => simp [intOf]; omega
   | false =>
    have HST := hide hst
    clear hst
    have HF : Hid (ckE s.data.toList = 22) := by show _ = _; rw [HE.out, stands_no _ k _ hlt HST.out]; rfl
    go_wp2_with (go_at_call 134; refine (canStand_any s k _ hlt (by omega)).mono ?_; rintro e w' ⟨rfl, rfl⟩; rw [HST.out])
    go_ret2
    exact ⟨⟨k, ret_two rfl HF.out.symm⟩, rfl⟩
  ·obtain rfl : k = s.size := by omega
   have HF : Hid (ckE s.data.toList = 0) := by show _ = _; rw [HE.out, if_pos HK.out]
   go_wp2
   go_ret2
   exact ⟨⟨0, ret_two rfl HF.out.symm⟩, rfl⟩

def good (l : List UInt8) : Bool := ckE l == 0
set_option maxHeartbeats 800000 in
theorem good_any (s : ByteArray) (w : World) (hs : s.size ≤ maxLen) : Calls Tryz.prog 72 #[.string s] w fun e w' => e = .returned (.bool (good s.data.toList)) ∧ w' = w := by
 have HS := hide hs
 clear hs
 go_enter Tryz.func72, Tryz.ntmps72
 go_wp2_with (go_at_call 106; refine (check_any s _ HS.out).mono ?_; rintro e w' ⟨⟨p, rfl⟩, rfl⟩)
 go_ret
 exact ⟨rfl, rfl⟩
end Go.Proofs.YtehcehhfdhiomaaGreat.K
namespace Go.Proofs.YtehcehhfdhiomaaGreat.K
open Go.RowKit

set_option maxHeartbeats 800000 in
theorem refMark_any (c : UInt8) (w : World) : Calls Tryz.prog 166 #[.int .u8 (c.toNat : Int)] w fun e w' => e = .returned (.bool (mk c)) ∧ w' = w := by
 by_cases h : (c.toNat : Int) = 45
 ·have h' : ((c.toNat : Int) == 45) = true := by simpa using h
  have HM : Hid (mk c = true) := by show _ = _; unfold mk; rw [h']; rfl
  clear h
  go_enter Tryz.func166, Tryz.ntmps166
  go_wp2
  go_ret
  exact ⟨ret_bool HM.out.symm, rfl⟩
 ·have h' : ((c.toNat : Int) == 45) = false := by simpa using h
  have HM : Hid (((c.toNat : Int) == 46) = mk c) := by show _ = _; unfold mk; rw [h']; rfl
  clear h
  go_enter Tryz.func166, Tryz.ntmps166
  go_wp2
  go_ret
  exact ⟨ret_bool HM.out, rfl⟩
set_option maxHeartbeats 800000 in
theorem refLetter_any (c : UInt8) (w : World) : Calls Tryz.prog 164 #[.int .u8 (c.toNat : Int)] w fun e w' => e = .returned (.bool (lt c)) ∧ w' = w := by
 by_cases h : 65 ≤ (c.toNat : Int)
 ·have HM : Hid (decide ((c.toNat : Int) ≤ 90) = lt c) := by show _ = _; unfold lt; rw [decide_eq_true h, Bool.true_and]
  go_enter Tryz.func164, Tryz.ntmps164
  go_wp2
  go_ret
  exact ⟨ret_bool HM.out, rfl⟩
 ·have HM : Hid (false = lt c) := by show _ = _; unfold lt; rw [decide_eq_false h, Bool.false_and]
  go_enter Tryz.func164, Tryz.ntmps164
  go_wp2
  go_ret
  exact ⟨ret_bool HM.out, rfl⟩
set_option maxHeartbeats 800000 in
theorem refDigit_any (c : UInt8) (w : World) : Calls Tryz.prog 165 #[.int .u8 (c.toNat : Int)] w fun e w' => e = .returned (.bool (dig c)) ∧ w' = w := by
 by_cases h : 48 ≤ (c.toNat : Int)
 ·have HM : Hid (decide ((c.toNat : Int) ≤ 57) = dig c) := by show _ = _; unfold dig; rw [decide_eq_true h, Bool.true_and]
  go_enter Tryz.func165, Tryz.ntmps165
  go_wp2
  go_ret
  exact ⟨ret_bool HM.out, rfl⟩
 ·have HM : Hid (false = dig c) := by show _ = _; unfold dig; rw [decide_eq_false h, Bool.false_and]
  go_enter Tryz.func165, Tryz.ntmps165
  go_wp2
  go_ret
  exact ⟨ret_bool HM.out, rfl⟩
theorem mk_not (c : UInt8) (h : lt c || dig c = true) : mk c = false := by
 unfold mk; unfold lt dig at h
 generalize (c.toNat : Int) = x at h ⊢
 simp at h ⊢
 omega

set_option maxHeartbeats 1600000 in
theorem refStands_any (s : ByteArray) (i : Nat) (w : World) (hi : i < s.size) (hs : s.size ≤ 1000) : Calls Tryz.prog 133 #[.string s, .int .i64 i] w fun e w' => e = .returned (.bool (stand s.data.toList i)) ∧ w' = w := by
 cases hl : lt s[i] with
 | true =>
  have HLt := hide hl
  have HS : Hid (true = stand s.data.toList i) := by
   show _ = _
   unfold stand
   rw [getD_at s i hi, if_neg (by rw [mk_not _ (by rw [hl]; rfl)]; simp), hl]; rfl
  clear hl
  go_enter Tryz.func133, Tryz.ntmps133
  go_wp2_with (go_at_call 164; refine (refLetter_any s[i] _).mono ?_; rintro e w' ⟨rfl, rfl⟩; rw [HLt.out])
  go_ret
  exact ⟨ret_bool HS.out, rfl⟩
 | false =>
  have HLt := hide hl
  clear hl
  cases hd : dig s[i] with
  | true =>
   have HD := hide hd
   have HS : Hid (true = stand s.data.toList i) := by
    show _ = _
    unfold stand
    rw [getD_at s i hi, if_neg (by rw [mk_not _ (by rw [hd]; simp)]; simp), hd]; simp
   clear hd
   go_enter Tryz.func133, Tryz.ntmps133
   go_wp2_with (first | (go_at_call 164; refine (refLetter_any s[i] _).mono ?_; rintro e w' ⟨rfl, rfl⟩; rw [HLt.out]) | (go_at_call 165; refine (refDigit_any s[i] _).mono ?_; rintro e w' ⟨rfl, rfl⟩; rw [HD.out]))
   go_ret
   exact ⟨ret_bool HS.out, rfl⟩
  | false =>
   have HD := hide hd
   clear hd
   cases hm : mk s[i] with
   | false =>
    have HM := hide hm
    clear hm
    have HS : Hid (false = stand s.data.toList i) := by
     show _ = _
     unfold stand
     rw [getD_at s i hi, if_neg (by rw [HM.out]; simp), HLt.out, HD.out]; rfl
    go_enter Tryz.func133, Tryz.ntmps133
    go_wp2_with (first | (go_at_call 164; refine (refLetter_any s[i] _).mono ?_; rintro e w' ⟨rfl, rfl⟩; rw [HLt.out]) | (go_at_call 165; refine (refDigit_any s[i] _).mono ?_; rintro e w' ⟨rfl, rfl⟩; rw [HD.out]) | (go_at_call 166; refine (refMark_any s[i] _).mono ?_; rintro e w' ⟨rfl, rfl⟩; rw [HM.out]))
    go_ret
    exact ⟨ret_bool HS.out, rfl⟩
   | true =>
    have HM := hide hm
    clear hm
    by_cases h0 : i = 0
    ·have HS : Hid (false = stand s.data.toList i) := by
      show _ = _
      unfold stand
      rw [getD_at s i hi, if_pos HM.out, decide_eq_false (by omega)]; rfl
     subst h0
     go_enter Tryz.func133, Tryz.ntmps133
     go_wp2_with (first | (go_at_call 164; refine (refLetter_any s[0] _).mono ?_; rintro e w' ⟨rfl, rfl⟩; rw [HLt.out]) | (go_at_call 165; refine (refDigit_any s[0] _).mono ?_; rintro e w' ⟨rfl, rfl⟩; rw [HD.out]) | (go_at_call 166; refine (refMark_any s[0] _).mono ?_; rintro e w' ⟨rfl, rfl⟩; rw [HM.out]))
     go_ret
     exact ⟨ret_bool HS.out, rfl⟩
    ·have h0' : ((i : Int) == 0) = false := by simpa using h0
     by_cases h1 : i + 1 < s.size
     ·have HS : Hid ((!mk (s[i - 1]'(by omega))) = stand s.data.toList i) := by
       show _ = _
       unfold stand
       rw [getD_at s i hi, getD_at s (i - 1) (by omega), len_at, if_pos HM.out, decide_eq_true (by omega), decide_eq_true h1]; rfl
      have hz : ((i : Int) - 1).toNat = i - 1 := by omega
      have h1' : ((i : Int) == (s.size : Int) - 1) = false := by simp; omega
      have hK := hide (refMark_any (s[i - 1]'(by omega)))
      obtain ⟨x, hx⟩ : ∃ x : Int, ((s[i - 1]'(by omega)).toNat : Int) = x := ⟨_, rfl⟩
      rw [hx] at hK
      have hi1 : 1 ≤ i := by omega
      clear h0
      go_enter Tryz.func133, Tryz.ntmps133
      go_wp2_with (first | (go_at_call 164; refine (refLetter_any s[i] _).mono ?_; rintro e w' ⟨rfl, rfl⟩; rw [HLt.out]) | (go_at_call 165; refine (refDigit_any s[i] _).mono ?_; rintro e w' ⟨rfl, rfl⟩; rw [HD.out]))
      refine (refMark_any s[i] _).mono ?_
      rintro e w' ⟨rfl, rfl⟩
      rw [HM.out]
      go_wp2_with fail
      refine (hK.out _).mono ?_
      rintro e w' ⟨rfl, rfl⟩
      go_wp2
      go_ret
      exact ⟨ret_bool HS.out, rfl⟩
     ·have HS : Hid (false = stand s.data.toList i) := by
       show _ = _
       unfold stand
       rw [getD_at s i hi, len_at, if_pos HM.out, decide_eq_false h1]; simp
      have h1' : ((i : Int) == (s.size : Int) - 1) = true := by simp; omega
      clear h0
      go_enter Tryz.func133, Tryz.ntmps133
      go_wp2_with (first | (go_at_call 164; refine (refLetter_any s[i] _).mono ?_; rintro e w' ⟨rfl, rfl⟩; rw [HLt.out]) | (go_at_call 165; refine (refDigit_any s[i] _).mono ?_; rintro e w' ⟨rfl, rfl⟩; rw [HD.out]))
      refine (refMark_any s[i] _).mono ?_
      rintro e w' ⟨rfl, rfl⟩
      rw [HM.out]
      go_wp2
      go_ret
      exact ⟨ret_bool HS.out, rfl⟩

set_option maxHeartbeats 1600000 in
theorem refCheck_any (s : ByteArray) (w : World) (hs : s.size ≤ maxLen) : Calls Tryz.prog 105 #[.string s] w fun e w' => (∃ p : Int, e = .returned (.tuple #[.int .i64 p, .int .i64 (ckE s.data.toList)])) ∧ w' = w := by
 unfold maxLen at hs
 by_cases h0 : s.size = 0
 ·have h0' : ((s.size : Int) == 0) = true := by simpa using h0
  have HE : Hid (ckE s.data.toList = 20) := by show _ = _; unfold ckE; rw [len_at, if_pos h0]
  go_enter Tryz.func105, Tryz.ntmps105
  go_wp2
  go_ret2
  exact ⟨⟨0, ret_two rfl HE.out.symm⟩, rfl⟩
 have h0' : ((s.size : Int) == 0) = false := by simpa using h0
 by_cases h24 : 24 < s.size
 ·have HE : Hid (ckE s.data.toList = 21) := by show _ = _; unfold ckE; rw [len_at, if_neg h0, if_pos h24]
  have h24' : (24 : Int) < s.size := by omega
  clear h0
  go_enter Tryz.func105, Tryz.ntmps105
  go_wp2
  go_ret2
  exact ⟨⟨0, ret_two rfl HE.out.symm⟩, rfl⟩
 have h24' : ¬ (24 : Int) < s.size := by omega
 have HE : Hid (ckE s.data.toList = if stands s.data.toList s.size = true then 0 else 22) := by show _ = _; unfold ckE; rw [len_at, if_neg h0, if_neg h24]
 clear h0
 go_enter Tryz.func105, Tryz.ntmps105
 go_wp2
 go_loop [4] (fun i => ∃ k : Nat, k ≤ s.size ∧ i = .int .i64 k ∧ Hid (stands s.data.toList k = true)) (fun i => s.size - (intOf i).toNat)
 case atStart => exact ⟨0, Nat.zero_le _, rfl, rfl⟩
 case round =>
  obtain ⟨k, hk, rfl, HK⟩ := hrel
  by_cases hlt : k < s.size
  ·cases hst : stand s.data.toList k with
   | true =>
    have HST := hide hst
    clear hst
    go_wp2_with (go_at_call 133; refine (refStands_any s k _ hlt (by omega)).mono ?_; rintro e w' ⟨rfl, rfl⟩; rw [HST.out])
    go_round
    case rel => exact ⟨k + 1, by omega, by go_num, by show _ = _; rw [stands_succ, HK.out, HST.out]; rfl⟩
    case measure => simp [intOf]; omega
   | false =>
    have HST := hide hst
    clear hst
    have HF : Hid (ckE s.data.toList = 22) := by show _ = _; rw [HE.out, stands_no _ k _ hlt HST.out]; rfl
    go_wp2_with (go_at_call 133; refine (refStands_any s k _ hlt (by omega)).mono ?_; rintro e w' ⟨rfl, rfl⟩; rw [HST.out])
    go_ret2
    exact ⟨⟨k, ret_two rfl HF.out.symm⟩, rfl⟩
  ·obtain rfl : k = s.size := by omega
   have HF : Hid (ckE s.data.toList = 0) := by show _ = _; rw [HE.out, if_pos HK.out]
   go_wp2
   go_ret2
   exact ⟨⟨0, ret_two rfl HF.out.symm⟩, rfl⟩
set_option maxHeartbeats 800000 in
theorem refGood_any (s : ByteArray) (w : World) (hs : s.size ≤ maxLen) : Calls Tryz.prog 70 #[.string s] w fun e w' => e = .returned (.bool (good s.data.toList)) ∧ w' = w := by
 have HS := hide hs
 clear hs
 go_enter Tryz.func70, Tryz.ntmps70
 go_wp2_with (go_at_call 105; refine (refCheck_any s _ HS.out).mono ?_; rintro e w' ⟨⟨p, rfl⟩, rfl⟩)
 go_ret
 exact ⟨rfl, rfl⟩
end Go.Proofs.YtehcehhfdhiomaaGreat.K
