/- PCf Gsc GRr GKc BPg BLi -/
import Derived.Test.YtalcmdjiejhkgaaGreatTk
import Derived.Test.YtalcmdjiejhkgaaGreatKl20
import Derived.Test.YtalcmdjiejhkgaaGreatKl21
import Derived.Shelf.Small.Strs
import Derived.Test.YtalcmdjiejhkgaaGreatProg
import Derived.Test.YtalcmdjiejhkgaaGreatKl18
import Derived.Test.YtalcmdjiejhkgaaGreatKl10
import Derived.Test.YtalcmdjiejhkgaaGreatKl16
set_option maxRecDepth 100000
set_option maxHeartbeats 4000000
namespace Go.Proofs.YtalcmdjiejhkgaaGreat
open Go.RowKit
attribute [local go_sem ↓] ldP_eq stP_eq
attribute [local go_sem] zero_PC cells_PV fold_PC PC_size fold_PC1
def GivesK (w w' : World) (e : Ending) (P : Int -> Prop) : Prop := ∃ k, e = .returned (.int .i64 k) /\ P k /\ Below w.heap.size w w'
def CmpOf (P Q : Pst) (z : Int) : Prop := ∃ X Y, CanonOf (runsAt P) X /\ CanonOf (runsAt Q) Y /\ z = cmpP X Y
theorem CmpOf.unique {P Q : Pst} {z z' : Int} (h : CmpOf P Q z) (h' : CmpOf P Q z') : z = z' := by
 obtain ⟨X, Y, hX, hY, rfl⟩ := h
 obtain ⟨X', Y', hX', hY', rfl⟩ := h'
 rw [hX.unique hX' (fun _ _ _ => Iff.rfl), hY.unique hY' (fun _ _ _ => Iff.rfl)]
def PhE (a b : Pv) (_ : World) (_ : World) : Nat -> Value -> World -> Prop
 | 0, x, _ => x = PV a
 | 2, x, _ => x = PV b
 | _, _, _ => True
theorem PhE_mono (a b : Pv) (w : World) (W0 : World) : Mono (PhE a b w W0) := fun i _ _ _ h _ => match i with
 | 0 => h
 | 2 => h
 | 1 => trivial
 | 3 => trivial
 | 4 => trivial
 | 5 => trivial
 | 6 => trivial
 | 7 => trivial
 | _ + 8 => trivial
theorem PhE_inv (a b : Pv) (w : World) (W0 : World) : ∀ j x U U', j ∉ [] -> PhE a b w W0 j x U -> PhE a b w W0 j x U' := fun j _ _ _ _ h => match j with
 | 0 => h
 | 2 => h
 | 1 => trivial
 | 3 => trivial
 | 4 => trivial
 | 5 => trivial
 | 6 => trivial
 | 7 => trivial
 | _ + 8 => trivial
theorem stE {a b : Pv} {w wk : World} (HXA : Hid (PBox wk w.heap.size a)) (HXB : Hid (PBox wk (w.heap.size + 1) b)) (HA : Hid (PSrc wk a)) (HB : Hid (PSrc wk b)) {Q : Exit -> Act -> World -> Prop} :
  ∀ (l : Array Bool) (x : Act) (W : World), (∃ v1x0 v1x1 v1x2 v1x3 v1x4 v1x5, x = { tmps := #[PV a, PV b, ptr w.heap.size, ptr (w.heap.size + 1), .int .i64 0, v1x4, v1x5, undef, v1x0, v1x1, v1x2, v1x3, undef, undef, undef, undef, undef, undef, undef, undef, undef, undef, undef, undef, undef], defers := [] } /\ BI 8 6 wk (PhE a b w wk) [] [(1, CanonOf (runsAt a.P)), (3, CanonOf (runsAt b.P))] [(4, 6, 1), (5, 7, 3)] l W [v1x0, v1x1, v1x2, v1x3, v1x4, v1x5, undef, undef]) -> ∀ i, i ∈ Region.ready .any #[⟨some 8, .load 27 (.tmp 2), 27, "sets.go:53", #[], none⟩, ⟨some 9, .call ⟨.value (.func 91), #[.tmp 8], #[27]⟩, 27, "sets.go:53", #[⟨0, .data⟩], none⟩, ⟨some 10, .load 27 (.tmp 3), 27, "sets.go:53", #[], none⟩, ⟨some 11, .call ⟨.value (.func 91), #[.tmp 10], #[27]⟩, 27, "sets.go:53", #[⟨2, .data⟩, ⟨1, .chain⟩], none⟩, ⟨some 5, .alloc 27, 0, "sets.go:53", #[], none⟩, ⟨some 6, .alloc 27, 0, "sets.go:53", #[], none⟩, ⟨none, .store 27 (.tmp 5) (.tmp 9), 0, "sets.go:53", #[⟨4, .data⟩, ⟨1, .data⟩, ⟨3, .chain⟩, ⟨0, .phase⟩, ⟨1, .phase⟩, ⟨2, .textOnly .lateStores⟩, ⟨3, .textOnly .lateStoresUnsure⟩, ⟨4, .phase⟩, ⟨5, .phase⟩], none⟩, ⟨none, .store 27 (.tmp 6) (.tmp 11), 0, "sets.go:53", #[⟨5, .data⟩, ⟨3, .data⟩, ⟨6, .chain⟩, ⟨0, .phase⟩, ⟨1, .phase⟩, ⟨2, .phase⟩, ⟨3, .phase⟩, ⟨4, .phase⟩, ⟨5, .phase⟩, ⟨6, .phase⟩], none⟩] l -> wpOp Tryz.prog #[⟨some 8, .load 27 (.tmp 2), 27, "sets.go:53", #[], none⟩, ⟨some 9, .call ⟨.value (.func 91), #[.tmp 8], #[27]⟩, 27, "sets.go:53", #[⟨0, .data⟩], none⟩, ⟨some 10, .load 27 (.tmp 3), 27, "sets.go:53", #[], none⟩, ⟨some 11, .call ⟨.value (.func 91), #[.tmp 10], #[27]⟩, 27, "sets.go:53", #[⟨2, .data⟩, ⟨1, .chain⟩], none⟩, ⟨some 5, .alloc 27, 0, "sets.go:53", #[], none⟩, ⟨some 6, .alloc 27, 0, "sets.go:53", #[], none⟩, ⟨none, .store 27 (.tmp 5) (.tmp 9), 0, "sets.go:53", #[⟨4, .data⟩, ⟨1, .data⟩, ⟨3, .chain⟩, ⟨0, .phase⟩, ⟨1, .phase⟩, ⟨2, .textOnly .lateStores⟩, ⟨3, .textOnly .lateStoresUnsure⟩, ⟨4, .phase⟩, ⟨5, .phase⟩], none⟩, ⟨none, .store 27 (.tmp 6) (.tmp 11), 0, "sets.go:53", #[⟨5, .data⟩, ⟨3, .data⟩, ⟨6, .chain⟩, ⟨0, .phase⟩, ⟨1, .phase⟩, ⟨2, .phase⟩, ⟨3, .phase⟩, ⟨4, .phase⟩, ⟨5, .phase⟩, ⟨6, .phase⟩], none⟩] Q i (fun a' w' => ∃ v1x0 v1x1 v1x2 v1x3 v1x4 v1x5, a' = { tmps := #[PV a, PV b, ptr w.heap.size, ptr (w.heap.size + 1), .int .i64 0, v1x4, v1x5, undef, v1x0, v1x1, v1x2, v1x3, undef, undef, undef, undef, undef, undef, undef, undef, undef, undef, undef, undef, undef], defers := [] } /\ BI 8 6 wk (PhE a b w wk) [] [(1, CanonOf (runsAt a.P)), (3, CanonOf (runsAt b.P))] [(4, 6, 1), (5, 7, 3)] (l.setIfInBounds i true) w' [v1x0, v1x1, v1x2, v1x3, v1x4, v1x5, undef, undef]) x W := by
 rintro l x W ⟨v1x0, v1x1, v1x2, v1x3, v1x4, v1x5, rfl, T⟩ i hi
 obtain ⟨hi1, hi2, hi3⟩ := ready_mem hi
 have hi4 := no_true hi2
 have hc : i = 0 ∨ i = 1 ∨ i = 2 ∨ i = 3 ∨ i = 4 ∨ i = 5 ∨ i = 6 ∨ i = 7 := by have h : i < 8 := hi1; omega
 have HT := hide T
 clear T
 rcases hc with rfl | rfl | rfl | rfl | rfl | rfl | rfl | rfl
 ·have HL := hide hi4
  clear hi hi1 hi2 hi3 hi4
  have l1 := run_ldP (HXA.out.below HT.out.b).at
  refine wpOp_step (o := ⟨some 8, .load 27 (.tmp 2), 27, "sets.go:53", #[], none⟩) rfl (fun K hK => ?_)
  go_simp
  exact hK _ _ ⟨PV a, v1x1, v1x2, v1x3, v1x4, v1x5, rfl, HT.out.plain (PhE_mono a b w wk) (Below.refl _ _) 0 (by decide) HL.out _ rfl (by simp) (by simp) (by decide)⟩
 ·have d0 := hi3 _ rfl { on := 0, ground := Ground.data } (by simp) rfl
  have e0 : v1x0 = PV a := HT.out.h 0 (by decide) d0 (fun hm => absurd hm (by decide))
  subst e0
  have HL := hide hi4
  clear hi hi1 hi2 hi3 hi4 d0
  refine wpOp_step (o := ⟨some 9, .call ⟨.value (.func 91), #[.tmp 8], #[27]⟩, 27, "sets.go:53", #[⟨0, .data⟩], none⟩) rfl (fun K hK => ?_)
  go_simp
  go_wp2_with fail
  refine (formed_any a _ (HA.out.below HT.out.b)).mono ?_
  rintro e w' ⟨pp, rfl, pS, pN, pb, pq⟩
  exact hK _ _ ⟨_, PV pp, v1x2, v1x3, v1x4, v1x5, rfl, HT.out.callF (PhE_mono a b w wk) pb 1 (CanonOf (runsAt a.P)) (by decide) HL.out (by simp) (by simp) pp pS (fun g h1 h2 => pN.elim (fun e => by rw [e]; exact PFar.old HA.out h1) (fun h => PFar.new h h2)) (pq) (fun _ _ => trivial) (by simp) (by decide)⟩
 ·have HL := hide hi4
  clear hi hi1 hi2 hi3 hi4
  have l1 := run_ldP (HXB.out.below HT.out.b).at
  refine wpOp_step (o := ⟨some 10, .load 27 (.tmp 3), 27, "sets.go:53", #[], none⟩) rfl (fun K hK => ?_)
  go_simp
  exact hK _ _ ⟨v1x0, v1x1, PV b, v1x3, v1x4, v1x5, rfl, HT.out.plain (PhE_mono a b w wk) (Below.refl _ _) 2 (by decide) HL.out _ rfl (by simp) (by simp) (by decide)⟩
 ·have d2 := hi3 _ rfl { on := 2, ground := Ground.data } (by simp) rfl
  have e2 : v1x2 = PV b := HT.out.h 2 (by decide) d2 (fun hm => absurd hm (by decide))
  subst e2
  have HL := hide hi4
  clear hi hi1 hi2 hi3 hi4 d2
  refine wpOp_step (o := ⟨some 11, .call ⟨.value (.func 91), #[.tmp 10], #[27]⟩, 27, "sets.go:53", #[⟨2, .data⟩, ⟨1, .chain⟩], none⟩) rfl (fun K hK => ?_)
  go_simp
  go_wp2_with fail
  refine (formed_any b _ (HB.out.below HT.out.b)).mono ?_
  rintro e w' ⟨pp, rfl, pS, pN, pb, pq⟩
  exact hK _ _ ⟨v1x0, v1x1, _, PV pp, v1x4, v1x5, rfl, HT.out.callF (PhE_mono a b w wk) pb 3 (CanonOf (runsAt b.P)) (by decide) HL.out (by simp) (by simp) pp pS (fun g h1 h2 => pN.elim (fun e => by rw [e]; exact PFar.old HB.out h1) (fun h => PFar.new h h2)) (pq) (fun _ _ => trivial) (by simp) (by decide)⟩
 ·have HL := hide hi4
  clear hi hi1 hi2 hi3 hi4
  refine wpOp_step (o := ⟨some 5, .alloc 27, 0, "sets.go:53", #[], none⟩) rfl (fun K hK => ?_)
  go_simp
  exact hK _ _ ⟨v1x0, v1x1, v1x2, v1x3, ptr W.heap.size, v1x5, rfl, HT.out.make (PhE_mono a b w wk) 4 6 1 (by decide) HL.out (by simp) (by simp) (by simp) (by simp) (fun _ _ => trivial) (by decide)⟩
 ·have HL := hide hi4
  clear hi hi1 hi2 hi3 hi4
  refine wpOp_step (o := ⟨some 6, .alloc 27, 0, "sets.go:53", #[], none⟩) rfl (fun K hK => ?_)
  go_simp
  exact hK _ _ ⟨v1x0, v1x1, v1x2, v1x3, v1x4, ptr W.heap.size, rfl, HT.out.make (PhE_mono a b w wk) 5 7 3 (by decide) HL.out (by simp) (by simp) (by simp) (by simp) (fun _ _ => trivial) (by decide)⟩
 ·have da := hi3 _ rfl { on := 4, ground := Ground.data } (by simp) rfl
  have dc := hi3 _ rfl { on := 1, ground := Ground.data } (by simp) rfl
  obtain ⟨pc, ec, -, -, -⟩ := HT.out.r (1, CanonOf (runsAt a.P)) (by simp) dc
  obtain ⟨g, eg, PB, T2⟩ := HT.out.fill 4 6 1 pc (by decide) hi4 (by simp) (by simp) (by simp) da dc (Or.inl rfl) ec (by simp) (by simp) (PhE_inv a b w wk) (fun _ _ => trivial) undef
  have fg : v1x4 = ptr g := eg
  have fc : v1x1 = PV pc := ec
  subst fg fc
  have s1 := run_stP (p' := pc) PB
  have HT2 := hide T2
  clear T2 PB eg ec da dc HT hi hi1 hi2 hi3 hi4
  refine wpOp_step (o := ⟨none, .store 27 (.tmp 5) (.tmp 9), 0, "sets.go:53", #[⟨4, .data⟩, ⟨1, .data⟩, ⟨3, .chain⟩, ⟨0, .phase⟩, ⟨1, .phase⟩, ⟨2, .textOnly .lateStores⟩, ⟨3, .textOnly .lateStoresUnsure⟩, ⟨4, .phase⟩, ⟨5, .phase⟩], none⟩) rfl (fun K hK => ?_)
  go_simp
  exact hK _ _ ⟨v1x0, _, v1x2, v1x3, _, v1x5, rfl, HT2.out⟩
 ·have da := hi3 _ rfl { on := 5, ground := Ground.data } (by simp) rfl
  have dc := hi3 _ rfl { on := 3, ground := Ground.data } (by simp) rfl
  have dt := hi3 _ rfl { on := 6, ground := Ground.chain } (by simp) rfl
  obtain ⟨pc, ec, -, -, -⟩ := HT.out.r (3, CanonOf (runsAt b.P)) (by simp) dc
  obtain ⟨g, eg, PB, T2⟩ := HT.out.fill 5 7 3 pc (by decide) hi4 (by simp) (by simp) (by simp) da dc (Or.inr dt) ec (by simp) (by simp) (PhE_inv a b w wk) (fun _ _ => trivial) undef
  have fg : v1x5 = ptr g := eg
  have fc : v1x3 = PV pc := ec
  subst fg fc
  have s1 := run_stP (p' := pc) PB
  have HT2 := hide T2
  clear T2 PB eg ec da dc dt HT hi hi1 hi2 hi3 hi4
  refine wpOp_step (o := ⟨none, .store 27 (.tmp 6) (.tmp 11), 0, "sets.go:53", #[⟨5, .data⟩, ⟨3, .data⟩, ⟨6, .chain⟩, ⟨0, .phase⟩, ⟨1, .phase⟩, ⟨2, .phase⟩, ⟨3, .phase⟩, ⟨4, .phase⟩, ⟨5, .phase⟩, ⟨6, .phase⟩], none⟩) rfl (fun K hK => ?_)
  go_simp
  exact hK _ _ ⟨v1x0, v1x1, v1x2, _, v1x4, _, rfl, HT2.out⟩
theorem pastCompare_any (a b : Pv) (w : World) (hA : PSrc w a) (hB : PSrc w b) : Calls Tryz.prog 54 #[PV a, PV b] w fun e w' => GivesK w w' e (CmpOf a.P b.P) := by
 have b1 := below_new w (.cells (PC a) 27)
 have b2 := below_new (w.alloc (.cells (PC a) 27)) (.cells (PC b) 27)
 have p2 := pbox_new (w.alloc (.cells (PC a) 27)) b
 rw [World.size_alloc] at p2
 have HXA := hide ((pbox_new w a).below b2)
 have HXB := hide p2
 have HBWwk := hide (b1.trans (b2.mono b1.size))
 have HA := hide (hA.below HBWwk.out)
 have HB := hide (hB.below HBWwk.out)
 clear b1 b2 p2 hA hB
 obtain ⟨wk, hwk⟩ : ∃ wk, (w.alloc (.cells (PC a) 27)).alloc (.cells (PC b) 27) = wk := ⟨_, rfl⟩
 rw [hwk] at HXA HXB HBWwk HA HB
 go_enter Tryz.func54, Tryz.ntmps54
 go_wp2_with fail
 clear hwk
 refine wp_region_inv (by kernel_rfl) (fun l x W => ∃ v1x0 v1x1 v1x2 v1x3 v1x4 v1x5, x = { tmps := #[PV a, PV b, ptr w.heap.size, ptr (w.heap.size + 1), .int .i64 0, v1x4, v1x5, undef, v1x0, v1x1, v1x2, v1x3, undef, undef, undef, undef, undef, undef, undef, undef, undef, undef, undef, undef, undef], defers := [] } /\ BI 8 6 wk (PhE a b w wk) [] [(1, CanonOf (runsAt a.P)), (3, CanonOf (runsAt b.P))] [(4, 6, 1), (5, 7, 3)] l W [v1x0, v1x1, v1x2, v1x3, v1x4, v1x5, undef, undef]) ⟨undef, undef, undef, undef, undef, undef, rfl, BI.start _ _ _ _ _ _ _ _ rfl⟩ ?_ ?_ ?_
 ·rintro l x W ⟨v1x0, v1x1, v1x2, v1x3, v1x4, v1x5, rfl, T⟩
  exact T.sz
 ·exact stE HXA HXB HA HB
 ·rintro l x W ⟨v1x0, v1x1, v1x2, v1x3, v1x4, v1x5, rfl, T⟩ hnil
  have hall := fun i (hi : i < 8) => ready_done (by kernel_rfl) T.sz hnil i hi
  have HT := hide T
  clear T hnil
  have e0 : v1x0 = PV a := HT.out.h 0 (by decide) (hall 0 (by decide)) (fun hm => absurd hm (by decide))
  subst e0
  obtain ⟨qa, e1, Sqa, qqa, -⟩ := HT.out.r (1, CanonOf (runsAt a.P)) (by simp) (hall 1 (by decide))
  have f1 : v1x1 = PV qa := e1
  subst f1
  have HSqa := hide Sqa
  have HQqa : Hid (CanonOf (runsAt a.P) qa.P) := qqa
  clear e1 Sqa qqa
  have e2 : v1x2 = PV b := HT.out.h 2 (by decide) (hall 2 (by decide)) (fun hm => absurd hm (by decide))
  subst e2
  obtain ⟨qb, e3, Sqb, qqb, -⟩ := HT.out.r (3, CanonOf (runsAt b.P)) (by simp) (hall 3 (by decide))
  have f3 : v1x3 = PV qb := e3
  subst f3
  have HSqb := hide Sqb
  have HQqb : Hid (CanonOf (runsAt b.P) qb.P) := qqb
  clear e3 Sqb qqb
  obtain ⟨ga, e4, -, -, -, k4⟩ := HT.out.a (4, 6, 1) (by simp) (hall 4 (by decide))
  have HXga : Hid (PBox W ga qa) := k4 (hall 6 (by decide)) qa rfl
  have f4 : v1x4 = ptr ga := e4
  subst f4
  clear e4 k4
  obtain ⟨gb, e5, -, -, -, k5⟩ := HT.out.a (5, 7, 3) (by simp) (hall 5 (by decide))
  have HXgb : Hid (PBox W gb qb) := k5 (hall 7 (by decide)) qb rfl
  have f5 : v1x5 = ptr gb := e5
  subst f5
  clear e5 k5
  have by1 := HT.out.b
  rename World => y1
  clear hall HT l
  replace HXA := hide (HXA.out.below by1)
  replace HXB := hide (HXB.out.below by1)
  replace HA := hide (HA.out.below by1)
  replace HB := hide (HB.out.below by1)
  have HBWy1 := hide (HBWwk.out.trans (by1.mono HBWwk.out.size))
  clear by1
  obtain ⟨va, ca⟩ := HXga.out.nums
  obtain ⟨vb, cb⟩ := HXgb.out.nums
  have HC : Hid (CmpOf a.P b.P (cmpP qa.P qb.P)) := ⟨qa.P, qb.P, HQqa.out, HQqb.out, rfl⟩
  go_wp2_with fail
  refine (slCompare_any _ _ _ _ _ _ qa.P.vec qb.P.vec _ HSqa.out.vec HSqb.out.vec HSqa.out.big HSqb.out.big).mono ?_
  rintro e z1 ⟨rfl, bz1⟩
  have ca' := (bz1.cell (World.block_lt_of_cell? _ _ ca)).trans ca
  have cb' := (bz1.cell (World.block_lt_of_cell? _ _ cb)).trans cb
  have HBz := hide (HBWy1.out.trans (bz1.mono HBWy1.out.size))
  have HCA := hide (HSqa.out.below bz1).cloud
  have HCC := hide (HSqb.out.below bz1).cloud
  clear va vb ca cb bz1
  by_cases h0 : lex cmpI qa.P.vec qb.P.vec = 0
  ·have HE : Hid (cmpP qa.P qb.P = lex cmp3 qa.P.cloud qb.P.cloud) := by show _ = _; unfold cmpP; rw [if_pos h0]
   rw [h0]
   clear h0
   go_wp2_with fail
   refine (slCompareS_any _ _ _ _ _ _ qa.P.cloud qb.P.cloud _ HCA.out HCC.out).mono ?_
   rintro e z2 ⟨rfl, bz2⟩
   have HBE := hide (HBz.out.trans (bz2.mono HBz.out.size))
   rw [<- HE.out]
   generalize cmpP qa.P qb.P = z at HC ⊢
   clear HE bz2 ca' cb'
   go_wp2_with fail
   go_ret
   exact ⟨z, rfl, HC.out, HBE.out⟩
  ·have HE : Hid (cmpP qa.P qb.P = lex cmpI qa.P.vec qb.P.vec) := by show _ = _; unfold cmpP; rw [if_neg h0]
   rw [<- HE.out] at h0 ⊢
   generalize cmpP qa.P qb.P = z at HC h0 ⊢
   have h0' : (z != 0) = true := by simpa using h0
   clear HE h0
   go_wp2_with fail
   go_ret
   exact ⟨z, rfl, HC.out, HBz.out⟩
end Go.Proofs.YtalcmdjiejhkgaaGreat
namespace Go.Proofs
open Go.Shelf
def Tryz.lays106_ren : Go.Shelf.Ren := ⟨fun | 106 => 53 | 213 => 90 | 265 => 130 | n => n, fun | 9 => 9 | 3 => 3 | n => n, fun | n => n⟩
theorem Tryz.lays106 : Go.Proofs.Lays.n106 Tryz.prog Tryz.lays106_ren := {
 mixed := by kernel_rfl
 f106 := Tryz.func53.trans (congrArg some (by kernel_rfl))
 f213 := Tryz.func90.trans (congrArg some (by kernel_rfl))
 f265 := Tryz.func130.trans (congrArg some (by kernel_rfl))
 t3 := Tryz.underlying3
 a3 := Tryz.isAgg3
 z3 := Tryz.sizeOf3
 v3 := Tryz.zeroValue3
 t9 := Tryz.underlying9
 a9 := Tryz.isAgg9
 z9 := Tryz.sizeOf9
 v9 := Tryz.zeroValue9 }
theorem Tryz.strings_Compare (a b : ByteArray) (w : World) :
  Calls Tryz.prog 53 #[.string a, .string b] w fun e w' => e = .returned (.int .i64 (Lib.compareBytes a.data.toList b.data.toList)) /\ w' = w := Any.strings_Compare Tryz.lays106 a b w
end Go.Proofs
namespace Go.Proofs.YtalcmdjiejhkgaaGreat
section
open Go.RowKit
attribute [local go_sem ↓] ldP_eq stP_eq ldRe_eq stRe_eq
attribute [local go_sem] cells_PV PC_size cells_ReV ReC_size
structure Rc where
 s : ByteArray
 p : Pv
def rc0 : Rc := ⟨⟨#[]⟩, pv0⟩
def mkR (r : Rc) : RecV := ⟨r.s, r.p.vo, r.p.vn, r.p.vc, r.p.co, r.p.cn, r.p.cc⟩
theorem ReBox.sk {w : World} {g : Nat} {r : Rc} (h : ReBox w g (mkR r)) : w.cell? ⟨g, 0, none⟩ = some (.string r.s) := h.c0
theorem ReBox.past {w : World} {g : Nat} {r : Rc} (h : ReBox w g (mkR r)) : PAt w ⟨g, 1, none⟩ r.p := ⟨h.c1, h.c2⟩
def RcOk (w : World) (r : Rc) : Prop := PSrc w r.p /\ r.s.size <= maxLen
theorem RcOk.below {w w' : World} {r : Rc} (h : RcOk w r) (hb : Below w.heap.size w w') : RcOk w' r := ⟨h.1.below hb, h.2⟩
def EmptyP (P : Pst) : Prop := ∀ r, r < 16 -> ∀ n, ¬ mem (runsAt P r) n
def skuR (s : ByteArray) : Bool := decide (s.size = 0) || K.good s.data.toList
def FormP (P : Pst) : Prop := InForm P /\ ¬ EmptyP P
theorem pick_nil (F : Value) (w : World) : Calls Tryz.prog 113 #[.slice none 0 0, F] w fun e w' => e = .returned (.slice none 0 0) /\ Below w.heap.size w w' := by
 go_enter Tryz.func113, Tryz.ntmps113
 go_wp2_with fail
 go_loopw [5, 10] (fun o i wr => o = .slice none 0 0 /\ i = .int .i64 0 /\ wr = w) (fun _ _ _ => 0)
 case atStart => exact ⟨rfl, rfl, rfl⟩
 case round =>
  obtain ⟨rfl, rfl, rfl⟩ := hrel
  go_wp2_with fail
  go_ret
  exact ⟨rfl, Below.refl _ _⟩
def ofE (s : ByteArray) : Int := if K.good s.data.toList = true then 0 else 5
theorem esrc_nil (w : World) : K.ESrc w none 0 0 [] := ⟨rfl, fun _ => ⟨rfl, rfl⟩, (fun ad h => by cases h), (fun e h => by cases h), by decide⟩
theorem of_nil (s : ByteArray) (w : World) (hs : s.size <= maxLen) : Calls Tryz.prog 78 #[.slice none 0 0, .string s] w fun e w' => ∃ x, e = .returned (.tuple #[.slice none 0 0, .int .i64 x]) /\ x = ofE s /\ Below w.heap.size w w' := by
 have b1 := below_new w (.cells #[.string s] 9)
 obtain ⟨wk, hwk⟩ : ∃ wk, w.alloc (.cells #[.string s] 9) = wk := ⟨_, rfl⟩
 have c1 : wk.cell? ⟨w.heap.size, 0, none⟩ = some (.string s) := by rw [<- hwk]; have h := heap_alloc_new w (.cells #[.string s] 9); simp only [World.cell?, h]; rfl
 rw [hwk] at b1
 have HB := hide b1
 clear b1
 go_enter Tryz.func78, Tryz.ntmps78
 go_wp2_with fail
 clear hwk
 refine (K.lcheck_any none 0 0 [] _ (esrc_nil _)).mono ?_
 rintro e w2 ⟨rfl, b2⟩
 have c2 := (b2.cell (World.block_lt_of_cell? _ _ c1)).trans c1
 have HB2 := hide (HB.out.trans (b2.mono HB.out.size))
 clear b2 c1
 rw [show K.chk [] = 0 from rfl]
 go_wp2_with fail
 refine (K.good_any s _ hs).mono ?_
 rintro e w' ⟨rfl, rfl⟩
 cases hg : K.good s.data.toList with
 | false =>
  have HE : Hid (5 = ofE s) := by show _ = _; unfold ofE; rw [hg]; rfl
  clear hg
  go_wp2_with fail
  go_ret2
  exact ⟨5, rfl, HE.out, HB2.out⟩
 | true =>
  have HE : Hid (0 = ofE s) := by show _ = _; unfold ofE; rw [hg]; rfl
  clear hg
  go_wp2_with fail
  refine (pick_nil _ _).mono ?_
  rintro e w3 ⟨rfl, b3⟩
  have HB3 := hide (HB2.out.trans (b3.mono HB2.out.size))
  clear b3 c2
  go_wp2_with fail
  go_ret2
  exact ⟨0, rfl, HE.out, HB3.out⟩
theorem isSkuOrEmpty_any (s : ByteArray) (w : World) (hs : s.size <= maxLen) : Calls Tryz.prog 43 #[.string s] w fun e w' => e = .returned (.bool (skuR s)) /\ Below w.heap.size w w' := by
 go_enter Tryz.func43, Tryz.ntmps43
 go_wp2_with fail
 refine (of_nil s _ hs).mono ?_
 rintro e w2 ⟨x, rfl, hx, b2⟩
 have HB2 := hide b2
 clear b2
 by_cases h0 : s.size = 0
 ·have e0 := K.empty_yes s h0
  have HR : Hid (skuR s = true) := by show _ = _; unfold skuR; rw [decide_eq_true h0, Bool.true_or]
  clear h0 hx
  go_wp2_with fail
  go_ret
  exact ⟨by rw [HR.out]; rfl, HB2.out⟩
 ·have e0 := K.empty_no s h0
  have HR : Hid (skuR s = K.good s.data.toList) := by show _ = _; unfold skuR; rw [decide_eq_false h0, Bool.false_or]
  cases hg : K.good s.data.toList with
  | true =>
   rw [hg] at HR
   obtain rfl : x = 0 := by rw [hx]; unfold ofE; rw [hg]; rfl
   clear h0 hx hg
   go_wp2_with fail
   go_ret
   exact ⟨by rw [HR.out]; rfl, HB2.out⟩
  | false =>
   rw [hg] at HR
   obtain rfl : x = 5 := by rw [hx]; unfold ofE; rw [hg]; rfl
   clear h0 hx hg
   go_wp2_with fail
   go_ret
   exact ⟨by rw [HR.out]; rfl, HB2.out⟩
def RecE (r : Rc) (x : Int) : Prop := (skuR r.s = false /\ x = 5) ∨ (skuR r.s = true /\ ¬ FormP r.p.P /\ x = 1) ∨ (skuR r.s = true /\ FormP r.p.P /\ x = 0)
theorem RecE.zero {r : Rc} {x : Int} (h : RecE r x) : x = 0 ↔ (skuR r.s = true /\ FormP r.p.P) := by
 rcases h with ⟨h1, rfl⟩ | ⟨h1, h2, rfl⟩ | ⟨h1, h2, rfl⟩
 ·simp [h1]
 ·simp [h2]
 ·simp [h1, h2]
theorem checkRecord_any (r : Rc) (w : World) (hR : RcOk w r) : Calls Tryz.prog 41 #[ReV (mkR r)] w fun e w' => GivesK w w' e (RecE r) := by
 have HX := hide (ReBox_new w (mkR r))
 have HBK := hide (below_new w (.cells (ReC (mkR r)) 43))
 have HS := hide (hR.1.below HBK.out)
 have hs := hR.2
 clear hR
 obtain ⟨wk, hwk⟩ : ∃ wk, w.alloc (.cells (ReC (mkR r)) 43) = wk := ⟨_, rfl⟩
 obtain ⟨G, hG⟩ : ∃ G, w.heap.size = G := ⟨_, rfl⟩
 rw [hwk] at HX HBK HS
 rw [hG] at HX
 have c0 := HX.out.sk
 go_enter Tryz.func41, Tryz.ntmps41
 go_wp2_with fail
 clear hwk
 refine (isSkuOrEmpty_any r.s _ hs).mono ?_
 rintro e w2 ⟨rfl, b2⟩
 have HB2 := hide (HBK.out.trans (b2.mono HBK.out.size))
 have HX2 := hide (HX.out.below b2)
 have HS2 := hide (HS.out.below b2)
 clear b2 c0
 cases hg : skuR r.s with
 | false =>
  have HE : Hid (RecE r 5) := .inl ⟨hg, rfl⟩
  clear hg
  go_wp2_with fail
  go_ret
  exact ⟨_, rfl, HE.out, HB2.out⟩
 | true =>
  have HG := hide hg
  clear hg
  have l2 := run_ldP HX2.out.past
  go_wp2_with fail
  refine (isNormP_any r.p _ HS2.out).mono ?_
  rintro e w3 ⟨b, rfl, hb, b3⟩
  have HB3 := hide (HB2.out.trans (b3.mono HB2.out.size))
  have HX3 := hide (HX2.out.below b3)
  have HS3 := hide (HS2.out.below b3)
  clear b3 l2
  cases b with
  | false =>
   have HE : Hid (RecE r 1) := .inr (.inl ⟨HG.out, fun h => (by have := hb.out.2 h.1; cases this), rfl⟩)
   clear hb
   go_wp2_with fail
   go_ret
   exact ⟨_, rfl, HE.out, HB3.out⟩
  | true =>
   have HF : Hid (InForm r.p.P) := hb.out.1 rfl
   clear hb
   have l3 := run_ldP HX3.out.past
   go_wp2_with fail
   refine (pastEmpty_any r.p _ HS3.out).mono ?_
   rintro e w4 ⟨b, rfl, hb, b4⟩
   have HB4 := hide (HB3.out.trans (b4.mono HB3.out.size))
   clear b4 l3
   cases b with
   | true =>
    have HE : Hid (RecE r 1) := .inr (.inl ⟨HG.out, fun h => h.2 (hb.1 rfl), rfl⟩)
    clear hb
    go_wp2_with fail
    go_ret
    exact ⟨_, rfl, HE.out, HB4.out⟩
   | false =>
    have HE : Hid (RecE r 0) := .inr (.inr ⟨HG.out, ⟨HF.out, fun h => (by have := hb.2 h; cases this)⟩, rfl⟩)
    clear hb
    go_wp2_with fail
    go_ret
    exact ⟨_, rfl, HE.out, HB4.out⟩
def cmpS (a b : ByteArray) : Int := Lib.compareBytes a.data.toList b.data.toList
def CmpR (a b : Rc) (z : Int) : Prop := (cmpS a.s b.s ≠ 0 /\ z = cmpS a.s b.s) ∨ (cmpS a.s b.s = 0 /\ CmpOf a.p.P b.p.P z)
theorem CmpR.unique {a b : Rc} {z z' : Int} (h : CmpR a b z) (h' : CmpR a b z') : z = z' := by
 rcases h with ⟨h1, h2⟩ | ⟨h1, h2⟩ <;> rcases h' with ⟨g1, g2⟩ | ⟨g1, g2⟩
 ·rw [h2, g2]
 ·exact absurd g1 h1
 ·exact absurd h1 g1
 ·exact h2.unique g2
theorem keepCompare_any (a b : Rc) (w : World) (hA : RcOk w a) (hB : RcOk w b) : Calls Tryz.prog 21 #[ReV (mkR a), ReV (mkR b)] w fun e w' => GivesK w w' e (CmpR a b) := by
 have b1 := below_new w (.cells (ReC (mkR a)) 43)
 have b2 := below_new (w.alloc (.cells (ReC (mkR a)) 43)) (.cells (ReC (mkR b)) 43)
 have X2 := ReBox_new (w.alloc (.cells (ReC (mkR a)) 43)) (mkR b)
 rw [World.size_alloc] at X2
 have HXA := hide ((ReBox_new w (mkR a)).below b2)
 have HXB := hide X2
 have HBK := hide (b1.trans (b2.mono b1.size))
 have HSA := hide (hA.1.below HBK.out)
 have HSB := hide (hB.1.below HBK.out)
 clear b1 b2 X2 hA hB
 obtain ⟨wk, hwk⟩ : ∃ wk, (w.alloc (.cells (ReC (mkR a)) 43)).alloc (.cells (ReC (mkR b)) 43) = wk := ⟨_, rfl⟩
 obtain ⟨G, hG⟩ : ∃ G, w.heap.size = G := ⟨_, rfl⟩
 rw [hwk] at HXA HXB HBK HSA HSB
 rw [hG] at HXA HXB
 have c1 := HXA.out.sk
 have c2 := HXB.out.sk
 have l1 := run_ldP HXA.out.past
 have l2 := run_ldP HXB.out.past
 go_enter Tryz.func21, Tryz.ntmps21
 go_wp2_with fail
 clear hwk
 refine (Tryz.strings_Compare a.s b.s _).mono ?_
 rintro e w' ⟨rfl, rfl⟩
 by_cases h0 : cmpS a.s b.s = 0
 ·have HZ := hide h0
  rw [show Lib.compareBytes a.s.data.toList b.s.data.toList = 0 from h0]
  clear h0
  go_wp2_with fail
  refine (pastCompare_any a.p b.p _ HSA.out HSB.out).mono ?_
  rintro e w2 ⟨k, rfl, hk, b2⟩
  have HF : Hid (CmpR a b k /\ Below w.heap.size w w2) := ⟨.inr ⟨HZ.out, hk⟩, HBK.out.trans (b2.mono HBK.out.size)⟩
  clear hk b2 l1 l2
  go_wp2_with fail
  go_ret
  exact ⟨_, rfl, HF.out.1, HF.out.2⟩
 ·obtain ⟨z, hz⟩ : ∃ z, cmpS a.s b.s = z := ⟨_, rfl⟩
  have HF : Hid (CmpR a b z) := .inl ⟨h0, hz.symm⟩
  rw [show Lib.compareBytes a.s.data.toList b.s.data.toList = z from hz]
  have hne : (z != 0) = true := by rw [hz] at h0; simpa using h0
  clear h0 hz
  go_wp2_with fail
  go_ret
  exact ⟨_, rfl, HF.out, HBK.out⟩
end
section
open Go.RowKit
attribute [local go_sem ↓] ldP_eq stP_eq ldRe_eq stRe_eq
attribute [local go_sem] cells_PV PC_size cells_ReV ReC_size
theorem zero_ReC : (#[.string ⟨#[]⟩, .slice none 0 0, .slice none 0 0] : Array Value) = ReC re0 := rfl
attribute [local go_sem] zero_ReC
structure RcS (w : World) (ao : Option Addr) (n cap : Nat) (L : List Rc) : Prop where
 len : L.length = n
 nil : ao = none -> n = 0
 at_ : ∀ ad, ao = some ad -> ∀ t, t < n -> ReAt w (ad.add (t * 3)) (mkR (L.getD t rc0))
 ok : ∀ r ∈ L, RcOk w r
 big : n <= 2199023255552
theorem RcS.below {w w' : World} {ao : Option Addr} {n cap : Nat} {L : List Rc} (h : RcS w ao n cap L) (hb : Below w.heap.size w w') : RcS w' ao n cap L :=
 ⟨h.len, h.nil, fun ad e t ht => (h.at_ ad e t ht).on hb, fun r hr => (h.ok r hr).below hb, h.big⟩
theorem RcS.at {w : World} {ao : Option Addr} {n cap : Nat} {L : List Rc} (h : RcS w ao n cap L) (k : Nat) (hk : k < n) : ∃ ad, ao = some ad /\ ReAt w (ad.add (k * 3)) (mkR (L.getD k rc0)) := by
 cases ao with
 | none => have := h.nil rfl; omega
 | some ad => exact ⟨ad, rfl, h.at_ ad rfl k hk⟩
theorem RcS.okAt {w : World} {ao : Option Addr} {n cap : Nat} {L : List Rc} (h : RcS w ao n cap L) (k : Nat) (hk : k < n) : RcOk w (L.getD k rc0) := by
 have hl := h.len
 rw [List.getD_eq_getElem?_getD, List.getElem?_eq_getElem (by omega)]
 exact h.ok _ (List.getElem_mem _)
theorem RcS.empty (w : World) : RcS w none 0 0 [] := ⟨rfl, fun _ => rfl, (fun ad h => by cases h), (fun r h => by cases h), by decide⟩
def RecOk (r : Rc) : Prop := skuR r.s = true /\ FormP r.p.P
def LtR (a b : Rc) : Prop := ∃ z, CmpR a b z /\ z < 0
def OkR (L : List Rc) (k : Nat) : Prop := ∀ j, j < k -> RecOk (L.getD j rc0) /\ (0 < j -> LtR (L.getD (j - 1) rc0) (L.getD j rc0))
theorem OkR.snoc {L : List Rc} {k : Nat} (h : OkR L k) (h1 : RecOk (L.getD k rc0)) (h2 : 0 < k -> LtR (L.getD (k - 1) rc0) (L.getD k rc0)) : OkR L (k + 1) := by
 intro j hj
 by_cases e : j = k
 ·subst e; exact ⟨h1, h2⟩
 ·exact h j (by omega)
theorem okR_zero (L : List Rc) : OkR L 0 := fun j hj => absurd hj (Nat.not_lt_zero j)
def ChkR (L : List Rc) (n : Nat) (x : Int) : Prop := (x = 0 /\ OkR L n) ∨ (x = 1 /\ ¬ OkR L n)
theorem keepCheck_any (ao : Option Addr) (n cap : Nat) (L : List Rc) (w : World) (hS : RcS w ao n cap L) : Calls Tryz.prog 15 #[.slice ao n cap] w fun e w' => GivesK w w' e (ChkR L n) := by
 have HS := hide hS
 have hn := hS.big
 clear hS
 go_enter Tryz.func15, Tryz.ntmps15
 go_wp2_with fail
 go_loopw [7] (fun i wr => ∃ k : Nat, k <= n /\ i = .int .i64 k /\ Hid (OkR L k) /\ Hid (Below w.heap.size w wr)) (fun i _ => n - (intOf i).toNat)
 case atStart => exact ⟨0, Nat.zero_le _, rfl, okR_zero L, Below.refl _ _⟩
 case round =>
  obtain ⟨k, hk, rfl, HK, HB⟩ := hrel
  rename World => wr
  by_cases hlt : k < n
  ·obtain ⟨ad, rfl, A0⟩ := (HS.out.below HB.out).at k hlt
   have hld := run_laRe A0
   have HO := hide ((HS.out.below HB.out).okAt k hlt)
   have HSr := hide (HS.out.below HB.out)
   obtain ⟨r, Hr⟩ : ∃ r, Hid (L.getD k rc0 = r) := ⟨_, rfl⟩
   rw [Hr.out] at hld HO
   obtain ⟨gr, hgr⟩ : ∃ g, wr.heap.size = g := ⟨_, rfl⟩
   obtain ⟨w1, hst, X1, B1, -⟩ := madeRe wr (mkR r) gr hgr
   have HX := hide X1
   have HB1 := hide (HB.out.trans (B1.mono HB.out.size))
   have HO1 := hide (HO.out.below B1)
   have HSr1 := hide (HSr.out.below B1)
   clear X1 B1 A0 HO HSr
   have Hlt := hide hlt
   by_cases hk0 : k = 0
   ·have hk1 : decide (0 < k) = false := by rw [decide_eq_false_iff_not]; omega
    have HK0 := hide hk0
    clear hk0
    go_wp2_with fail
    clear hst hld
    refine wp_region_held_drew (S := fun v => (ldRe (.pointer (some ⟨gr, 0, none⟩))).run Tryz.prog v = .ok (.agg (ReC (mkR r))) v) (by kernel_rfl) (run_ldRe (HX.out.below (below_drew1 w1))) (fun hHeld => ?_)
    refine wTk 0 ⟨some 12, .load 43 (.tmp 4), 43, "records.go:34", #[], none⟩ rfl ?_
    refine wpAnyH_ready (rs := [1]) (by kernel_rfl) (by simp) (.cons rfl (fun K hK => ?_) .nil)
    go_simp
    go_wp2_with fail
    refine (checkRecord_any r _ (HO1.out.below (below_drew1 w1))).mono ?_
    rintro e w2 ⟨x, rfl, hx, b2⟩
    have hB2 : Below w1.heap.size w1 w2 := (below_drew1 w1).trans b2
    have HB2 := hide hB2
    refine hK.out _ _ (run_ldRe (HX.out.below (hB2))) (fun hHeld => ?_)
    clear hK K b2
    by_cases hx0 : x = 0
    ·obtain rfl := hx0
     have HOk : Hid (RecOk (L.getD k rc0)) := by rw [Hr.out]; exact hx.zero.1 rfl
     clear hx
     refine wTk 2 ⟨some 14, .binOp .neq 31 (.tmp 13) (.const (.int .i64 0)) 31, 4, "records.go:34", #[⟨1, .data⟩], none⟩ rfl ?_
     refine wTk 3 ⟨some 15, .move (.tmp 14), 4, "records.go:34", #[⟨2, .data⟩, ⟨1, .chain⟩], none⟩ rfl ?_
     refine wTk 4 ⟨some 16, .move (.tmp 3), 3, "records.go:34", #[⟨3, .guard⟩], some (3, false)⟩ rfl ?_
     refine wTk 5 ⟨some 17, .binOp .gtr 3 (.tmp 16) (.const (.int .i64 0)) 3, 4, "records.go:34", #[⟨4, .data⟩, ⟨3, .guard⟩], some (3, false)⟩ rfl ?_
     refine wTk 6 ⟨some 18, .move (.tmp 17), 4, "records.go:34", #[⟨5, .data⟩, ⟨3, .chain⟩, ⟨3, .guard⟩], some (3, false)⟩ rfl ?_
     refine wSk 7 ⟨some 19, .move (.tmp 0), 22, "records.go:34", #[⟨6, .guard⟩], some (6, true)⟩ rfl ?_
     refine wSk 8 ⟨some 20, .move (.tmp 3), 3, "records.go:34", #[⟨6, .guard⟩], some (6, true)⟩ rfl ?_
     refine wSk 9 ⟨some 21, .binOp .sub 3 (.tmp 20) (.const (.int .i64 1)) 3, 3, "records.go:34", #[⟨8, .data⟩, ⟨6, .guard⟩], some (6, true)⟩ rfl ?_
     refine wSk 10 ⟨some 22, .indexAddr 22 (.tmp 19) (.tmp 21), 0, "records.go:34", #[⟨7, .data⟩, ⟨9, .data⟩, ⟨6, .guard⟩], some (6, true)⟩ rfl ?_
     refine wSk 11 ⟨some 23, .load 43 (.tmp 22), 43, "records.go:34", #[⟨10, .data⟩, ⟨6, .guard⟩], some (6, true)⟩ rfl ?_
     refine wSk 12 ⟨some 24, .load 43 (.tmp 4), 43, "records.go:34", #[⟨6, .guard⟩], some (6, true)⟩ rfl ?_
     refine wSk 13 ⟨some 25, .call ⟨.value (.func 21), #[.tmp 23, .tmp 24], #[43, 43]⟩, 3, "records.go:34", #[⟨11, .data⟩, ⟨12, .data⟩, ⟨6, .chain⟩, ⟨6, .guard⟩], some (6, true)⟩ rfl ?_
     refine wSk 14 ⟨some 26, .binOp .geq 3 (.tmp 25) (.const (.int .i64 0)) 3, 4, "records.go:34", #[⟨13, .data⟩, ⟨6, .guard⟩], some (6, true)⟩ rfl ?_
     refine wTk 15 ⟨some 27, .pick (.tmp 18) (.tmp 26) (.const (.bool false)), 4, "records.go:34", #[⟨6, .data⟩, ⟨14, .data⟩, ⟨3, .guard⟩], some (3, false)⟩ rfl ?_
     refine wTk 16 ⟨some 28, .pick (.tmp 15) (.const (.bool true)) (.tmp 27), 4, "records.go:34", #[⟨3, .data⟩, ⟨15, .data⟩], none⟩ rfl ?_
     refine wpAnyH_done (by kernel_rfl) ?_ _
     clear hHeld
     go_wp2_with fail
     go_roundw
     case rel => exact ⟨k + 1, by omega, by simp, HK.out.snoc HOk.out (fun h => absurd h (by have := HK0.out; omega)), HB1.out.trans (HB2.out.mono HB1.out.size)⟩
     case measure => simp [intOf]; omega
    ·have HNo : Hid (¬ OkR L n) := fun h => hx0 (hx.zero.2 (by have := (h k Hlt.out).1; rw [Hr.out] at this; exact this))
     have hxb : (x != 0) = true := by simpa using hx0
     clear hx hx0
     refine wTk 2 ⟨some 14, .binOp .neq 31 (.tmp 13) (.const (.int .i64 0)) 31, 4, "records.go:34", #[⟨1, .data⟩], none⟩ rfl ?_
     refine wTk 3 ⟨some 15, .move (.tmp 14), 4, "records.go:34", #[⟨2, .data⟩, ⟨1, .chain⟩], none⟩ rfl ?_
     refine wSk 4 ⟨some 16, .move (.tmp 3), 3, "records.go:34", #[⟨3, .guard⟩], some (3, false)⟩ rfl ?_
     refine wSk 5 ⟨some 17, .binOp .gtr 3 (.tmp 16) (.const (.int .i64 0)) 3, 4, "records.go:34", #[⟨4, .data⟩, ⟨3, .guard⟩], some (3, false)⟩ rfl ?_
     refine wSk 6 ⟨some 18, .move (.tmp 17), 4, "records.go:34", #[⟨5, .data⟩, ⟨3, .chain⟩, ⟨3, .guard⟩], some (3, false)⟩ rfl ?_
     refine wSk 7 ⟨some 19, .move (.tmp 0), 22, "records.go:34", #[⟨6, .guard⟩], some (6, true)⟩ rfl ?_
     refine wSk 8 ⟨some 20, .move (.tmp 3), 3, "records.go:34", #[⟨6, .guard⟩], some (6, true)⟩ rfl ?_
     refine wSk 9 ⟨some 21, .binOp .sub 3 (.tmp 20) (.const (.int .i64 1)) 3, 3, "records.go:34", #[⟨8, .data⟩, ⟨6, .guard⟩], some (6, true)⟩ rfl ?_
     refine wSk 10 ⟨some 22, .indexAddr 22 (.tmp 19) (.tmp 21), 0, "records.go:34", #[⟨7, .data⟩, ⟨9, .data⟩, ⟨6, .guard⟩], some (6, true)⟩ rfl ?_
     refine wSk 11 ⟨some 23, .load 43 (.tmp 22), 43, "records.go:34", #[⟨10, .data⟩, ⟨6, .guard⟩], some (6, true)⟩ rfl ?_
     refine wSk 12 ⟨some 24, .load 43 (.tmp 4), 43, "records.go:34", #[⟨6, .guard⟩], some (6, true)⟩ rfl ?_
     refine wSk 13 ⟨some 25, .call ⟨.value (.func 21), #[.tmp 23, .tmp 24], #[43, 43]⟩, 3, "records.go:34", #[⟨11, .data⟩, ⟨12, .data⟩, ⟨6, .chain⟩, ⟨6, .guard⟩], some (6, true)⟩ rfl ?_
     refine wSk 14 ⟨some 26, .binOp .geq 3 (.tmp 25) (.const (.int .i64 0)) 3, 4, "records.go:34", #[⟨13, .data⟩, ⟨6, .guard⟩], some (6, true)⟩ rfl ?_
     refine wSk 15 ⟨some 27, .pick (.tmp 18) (.tmp 26) (.const (.bool false)), 4, "records.go:34", #[⟨6, .data⟩, ⟨14, .data⟩, ⟨3, .guard⟩], some (3, false)⟩ rfl ?_
     refine wTk 16 ⟨some 28, .pick (.tmp 15) (.const (.bool true)) (.tmp 27), 4, "records.go:34", #[⟨3, .data⟩, ⟨15, .data⟩], none⟩ rfl ?_
     refine wpAnyH_done (by kernel_rfl) ?_ _
     clear hHeld
     go_wp2_with fail
     go_ret
     exact ⟨_, rfl, .inr ⟨rfl, HNo.out⟩, HB1.out.trans (HB2.out.mono HB1.out.size)⟩
   ·obtain ⟨j, Hj⟩ : ∃ j, Hid (k = j + 1) := ⟨k - 1, (show k = k - 1 + 1 by omega)⟩
    have hjn : j < n := by have := Hj.out; omega
    have hwj : IntKind.i64.wrap ((k : Int) - 1) = (j : Int) := by rw [IntKind.wrap_i64]; have := Hj.out; omega
    have hk1 : decide (0 < k) = true := by rw [decide_eq_true_iff]; omega
    obtain ⟨ad', e', Aj⟩ := HSr1.out.at j hjn
    obtain rfl := Option.some.inj e'
    have HOj := hide (HSr1.out.okAt j hjn)
    obtain ⟨q, Hq⟩ : ∃ q, Hid (L.getD j rc0 = q) := ⟨_, rfl⟩
    rw [Hq.out] at Aj HOj
    have HAj := hide Aj
    clear Aj e'
    go_wp2_with fail
    clear hst hld
    refine wp_region_held_drew (S := fun v => (ldRe (.pointer (some ⟨gr, 0, none⟩))).run Tryz.prog v = .ok (.agg (ReC (mkR r))) v /\ (ldRe (.pointer (some (ad.add (j * 3))))).run Tryz.prog v = .ok (.agg (ReC (mkR q))) v) (by kernel_rfl) (⟨run_ldRe (HX.out.below (below_drew1 w1)), run_laRe (HAj.out.on (below_drew1 w1))⟩) (fun hHeld => ?_)
    refine wTk 0 ⟨some 12, .load 43 (.tmp 4), 43, "records.go:34", #[], none⟩ rfl ?_
    refine wpAnyH_ready (rs := [1]) (by kernel_rfl) (by simp) (.cons rfl (fun K hK => ?_) .nil)
    go_simp
    go_wp2_with fail
    refine (checkRecord_any r _ (HO1.out.below (below_drew1 w1))).mono ?_
    rintro e w2 ⟨x, rfl, hx, b2⟩
    have hB2 : Below w1.heap.size w1 w2 := (below_drew1 w1).trans b2
    have HB2 := hide hB2
    refine hK.out _ _ (⟨run_ldRe (HX.out.below (hB2)), run_laRe (HAj.out.on (hB2))⟩) (fun hHeld => ?_)
    clear hK K b2
    by_cases hx0 : x = 0
    ·obtain rfl := hx0
     have HOk : Hid (RecOk (L.getD k rc0)) := by rw [Hr.out]; exact hx.zero.1 rfl
     clear hx
     refine wTk 2 ⟨some 14, .binOp .neq 31 (.tmp 13) (.const (.int .i64 0)) 31, 4, "records.go:34", #[⟨1, .data⟩], none⟩ rfl ?_
     refine wTk 3 ⟨some 15, .move (.tmp 14), 4, "records.go:34", #[⟨2, .data⟩, ⟨1, .chain⟩], none⟩ rfl ?_
     refine wTk 4 ⟨some 16, .move (.tmp 3), 3, "records.go:34", #[⟨3, .guard⟩], some (3, false)⟩ rfl ?_
     refine wTk 5 ⟨some 17, .binOp .gtr 3 (.tmp 16) (.const (.int .i64 0)) 3, 4, "records.go:34", #[⟨4, .data⟩, ⟨3, .guard⟩], some (3, false)⟩ rfl ?_
     refine wTk 6 ⟨some 18, .move (.tmp 17), 4, "records.go:34", #[⟨5, .data⟩, ⟨3, .chain⟩, ⟨3, .guard⟩], some (3, false)⟩ rfl ?_
     refine wTk 7 ⟨some 19, .move (.tmp 0), 22, "records.go:34", #[⟨6, .guard⟩], some (6, true)⟩ rfl ?_
     refine wTk 8 ⟨some 20, .move (.tmp 3), 3, "records.go:34", #[⟨6, .guard⟩], some (6, true)⟩ rfl ?_
     refine wTk 9 ⟨some 21, .binOp .sub 3 (.tmp 20) (.const (.int .i64 1)) 3, 3, "records.go:34", #[⟨8, .data⟩, ⟨6, .guard⟩], some (6, true)⟩ rfl ?_
     refine wTk 10 ⟨some 22, .indexAddr 22 (.tmp 19) (.tmp 21), 0, "records.go:34", #[⟨7, .data⟩, ⟨9, .data⟩, ⟨6, .guard⟩], some (6, true)⟩ rfl ?_
     refine wTk 11 ⟨some 23, .load 43 (.tmp 22), 43, "records.go:34", #[⟨10, .data⟩, ⟨6, .guard⟩], some (6, true)⟩ rfl ?_
     refine wTk 12 ⟨some 24, .load 43 (.tmp 4), 43, "records.go:34", #[⟨6, .guard⟩], some (6, true)⟩ rfl ?_
     refine wpAnyH_ready (rs := [13]) (by kernel_rfl) (by simp) (.cons rfl (fun K hK => ?_) .nil)
     go_simp
     go_wp2_with fail
     refine (keepCompare_any q r _ (HOj.out.below hB2) (HO1.out.below hB2)).mono ?_
     rintro e w3 ⟨z, rfl, hz, b3⟩
     have hB3 : Below w1.heap.size w1 w3 := HB2.out.trans (b3.mono HB2.out.size)
     have HB3 := hide hB3
     refine hK.out _ _ (⟨run_ldRe (HX.out.below (hB3)), run_laRe (HAj.out.on (hB3))⟩) (fun hHeld => ?_)
     clear hK K b3 hB2
     by_cases hz0 : (0 : Int) <= z
     ·have hzb : decide (0 <= z) = true := decide_eq_true hz0
      have HNo : Hid (¬ OkR L n) := fun h => by
       have h2 := (h k Hlt.out).2 (by have := Hj.out; omega)
       rw [show k - 1 = j by have := Hj.out; omega, Hr.out, Hq.out] at h2
       obtain ⟨z2, h3, h4⟩ := h2
       have := hz.unique h3
       omega
      clear hz hz0
      refine wTk 14 ⟨some 26, .binOp .geq 3 (.tmp 25) (.const (.int .i64 0)) 3, 4, "records.go:34", #[⟨13, .data⟩, ⟨6, .guard⟩], some (6, true)⟩ rfl ?_
      refine wTk 15 ⟨some 27, .pick (.tmp 18) (.tmp 26) (.const (.bool false)), 4, "records.go:34", #[⟨6, .data⟩, ⟨14, .data⟩, ⟨3, .guard⟩], some (3, false)⟩ rfl ?_
      refine wTk 16 ⟨some 28, .pick (.tmp 15) (.const (.bool true)) (.tmp 27), 4, "records.go:34", #[⟨3, .data⟩, ⟨15, .data⟩], none⟩ rfl ?_
      refine wpAnyH_done (by kernel_rfl) ?_ _
      clear hHeld
      go_wp2_with fail
      go_ret
      exact ⟨_, rfl, .inr ⟨rfl, HNo.out⟩, HB1.out.trans (HB3.out.mono HB1.out.size)⟩
     ·have hzb : decide (0 <= z) = false := decide_eq_false hz0
      have HLt : Hid (0 < k -> LtR (L.getD (k - 1) rc0) (L.getD k rc0)) := fun _ => by
       rw [show k - 1 = j by have := Hj.out; omega, Hr.out, Hq.out]
       exact ⟨z, hz, by omega⟩
      clear hz hz0
      refine wTk 14 ⟨some 26, .binOp .geq 3 (.tmp 25) (.const (.int .i64 0)) 3, 4, "records.go:34", #[⟨13, .data⟩, ⟨6, .guard⟩], some (6, true)⟩ rfl ?_
      refine wTk 15 ⟨some 27, .pick (.tmp 18) (.tmp 26) (.const (.bool false)), 4, "records.go:34", #[⟨6, .data⟩, ⟨14, .data⟩, ⟨3, .guard⟩], some (3, false)⟩ rfl ?_
      refine wTk 16 ⟨some 28, .pick (.tmp 15) (.const (.bool true)) (.tmp 27), 4, "records.go:34", #[⟨3, .data⟩, ⟨15, .data⟩], none⟩ rfl ?_
      refine wpAnyH_done (by kernel_rfl) ?_ _
      clear hHeld
      go_wp2_with fail
      go_roundw
      case rel => exact ⟨k + 1, by omega, by simp, HK.out.snoc HOk.out HLt.out, HB1.out.trans (HB3.out.mono HB1.out.size)⟩
      case measure => simp [intOf]; omega
    ·have HNo : Hid (¬ OkR L n) := fun h => hx0 (hx.zero.2 (by have := (h k Hlt.out).1; rw [Hr.out] at this; exact this))
     have hxb : (x != 0) = true := by simpa using hx0
     clear hx hx0
     refine wTk 2 ⟨some 14, .binOp .neq 31 (.tmp 13) (.const (.int .i64 0)) 31, 4, "records.go:34", #[⟨1, .data⟩], none⟩ rfl ?_
     refine wTk 3 ⟨some 15, .move (.tmp 14), 4, "records.go:34", #[⟨2, .data⟩, ⟨1, .chain⟩], none⟩ rfl ?_
     refine wSk 4 ⟨some 16, .move (.tmp 3), 3, "records.go:34", #[⟨3, .guard⟩], some (3, false)⟩ rfl ?_
     refine wSk 5 ⟨some 17, .binOp .gtr 3 (.tmp 16) (.const (.int .i64 0)) 3, 4, "records.go:34", #[⟨4, .data⟩, ⟨3, .guard⟩], some (3, false)⟩ rfl ?_
     refine wSk 6 ⟨some 18, .move (.tmp 17), 4, "records.go:34", #[⟨5, .data⟩, ⟨3, .chain⟩, ⟨3, .guard⟩], some (3, false)⟩ rfl ?_
     refine wSk 7 ⟨some 19, .move (.tmp 0), 22, "records.go:34", #[⟨6, .guard⟩], some (6, true)⟩ rfl ?_
     refine wSk 8 ⟨some 20, .move (.tmp 3), 3, "records.go:34", #[⟨6, .guard⟩], some (6, true)⟩ rfl ?_
     refine wSk 9 ⟨some 21, .binOp .sub 3 (.tmp 20) (.const (.int .i64 1)) 3, 3, "records.go:34", #[⟨8, .data⟩, ⟨6, .guard⟩], some (6, true)⟩ rfl ?_
     refine wSk 10 ⟨some 22, .indexAddr 22 (.tmp 19) (.tmp 21), 0, "records.go:34", #[⟨7, .data⟩, ⟨9, .data⟩, ⟨6, .guard⟩], some (6, true)⟩ rfl ?_
     refine wSk 11 ⟨some 23, .load 43 (.tmp 22), 43, "records.go:34", #[⟨10, .data⟩, ⟨6, .guard⟩], some (6, true)⟩ rfl ?_
     refine wSk 12 ⟨some 24, .load 43 (.tmp 4), 43, "records.go:34", #[⟨6, .guard⟩], some (6, true)⟩ rfl ?_
     refine wSk 13 ⟨some 25, .call ⟨.value (.func 21), #[.tmp 23, .tmp 24], #[43, 43]⟩, 3, "records.go:34", #[⟨11, .data⟩, ⟨12, .data⟩, ⟨6, .chain⟩, ⟨6, .guard⟩], some (6, true)⟩ rfl ?_
     refine wSk 14 ⟨some 26, .binOp .geq 3 (.tmp 25) (.const (.int .i64 0)) 3, 4, "records.go:34", #[⟨13, .data⟩, ⟨6, .guard⟩], some (6, true)⟩ rfl ?_
     refine wSk 15 ⟨some 27, .pick (.tmp 18) (.tmp 26) (.const (.bool false)), 4, "records.go:34", #[⟨6, .data⟩, ⟨14, .data⟩, ⟨3, .guard⟩], some (3, false)⟩ rfl ?_
     refine wTk 16 ⟨some 28, .pick (.tmp 15) (.const (.bool true)) (.tmp 27), 4, "records.go:34", #[⟨3, .data⟩, ⟨15, .data⟩], none⟩ rfl ?_
     refine wpAnyH_done (by kernel_rfl) ?_ _
     clear hHeld
     go_wp2_with fail
     go_ret
     exact ⟨_, rfl, .inr ⟨rfl, HNo.out⟩, HB1.out.trans (HB2.out.mono HB1.out.size)⟩
  ·obtain rfl : k = n := by omega
   go_wp2_with fail
   go_ret
   exact ⟨_, rfl, .inl ⟨rfl, HK.out⟩, HB.out⟩
end
section
open Go.RowKit Go.Maps Go.Sort
theorem psrc_keep {W W' : World} {p : Pv} {g : Option Nat} (h : PSrc W p) (hf : ∀ k, g = some k -> PFar p k) (hk : ∀ q, q < W.heap.size -> some q ≠ g -> W'.heap[q]? = W.heap[q]?) : PSrc W' p := by
 have ev : ∀ ad, p.vo = some ad -> ∀ t, t < p.vn -> W'.cell? (ad.add t) = W.cell? (ad.add t) := fun ad e t ht => by
  have hc := h.vec.2.2 ad e t ht
  have hl := World.block_lt_of_cell? _ _ hc
  rw [block_add] at hl
  unfold World.cell?
  rw [block_add, hk _ hl (fun eg => (hf _ eg.symm).1 (by omega) ad e rfl)]
 have ec : ∀ ad, p.co = some ad -> ∀ t, t < p.cn -> ∀ j, W'.cell? (ad.add j) = W.cell? (ad.add j) := fun ad e t ht j => by
  have hl := World.block_lt_of_cell? _ _ (h.cloud.cell ad e t ht).c0
  rw [block_add] at hl
  unfold World.cell?
  rw [block_add, hk _ hl (fun eg => (hf _ eg.symm).2 (by omega) ad e rfl)]
 refine ⟨⟨h.vec.1, h.vec.2.1, fun ad e t ht => by rw [ev ad e t ht]; exact h.vec.2.2 ad e t ht⟩, ⟨h.cloud.len, h.cloud.nil, fun ad e t ht => ?_, h.cloud.big, h.cloud.cap⟩, h.big⟩
 have A := h.cloud.cell ad e t ht
 have e' := ec ad e t ht
 exact ⟨by rw [e']; exact A.c0, by have := A.c1; rw [add_add] at this ⊢; rw [e']; exact this, by have := A.c2; rw [add_add] at this ⊢; rw [e']; exact this⟩
def FarH (h : Hs) (p : Pv) : Prop := ∀ k, (HsV h).ownBlock = some k -> PFar p k
theorem OwnP.app {B : Nat} {w W : World} {h : Hs} {L : List Pv} (O : OwnP B w W h L) (hF : ∀ p ∈ L, FarH h p) (p : Pv) (hp : PSrc W p) (hf : FarH h p) (hn : h.n <= 2900000000000) :
  ∃ g c2 W2, (Builtin.append_ #[59, 59] 59 #[HsV h, .slice (some ⟨W.heap.size, 0, none⟩) 1 1]).run Tryz.prog (W.alloc (.cells (PC p) 27)) = .ok (.slice (some ⟨g, 0, none⟩) (h.n + 1) c2) W2 /\ OwnP B w W2 ⟨some ⟨g, 0, none⟩, h.n + 1, c2⟩ (L ++ [p]) /\ (∀ q ∈ L ++ [p], FarH ⟨some ⟨g, 0, none⟩, h.n + 1, c2⟩ q) /\ (∀ q, q < W.heap.size -> (HsV h).ownBlock ≠ some q -> W2.heap[q]? = W.heap[q]?) := by
 obtain ⟨i0, hi, hz0, hz1, hz2⟩ := info_parts infoPast
 have b1 := below_new W (.cells (PC p) 27)
 have O1 := O.later b1
 obtain ⟨v', W2, hrun, hown, hgrow, _, hat⟩ := run_append_own_at (P := Tryz.prog) (W.alloc (.cells (PC p) 27)) B 59 59 27 i0 (.agg #[.slice none 0 0, .slice none 0 0]) 2 48 Tryz.underlying59 hi hz0 hz1 hz2 (by simp [Value.cells]) (by decide) (HsV h) h.n (pvs L) O1.own ⟨W.heap.size, 0, none⟩ 1 1 (PC p).toList rfl (fun j u hj => by
  rw [Addr.add_lit, Nat.zero_add, World.cell?_alloc_new]
  simpa using hj) (pvs_cell p) (by unfold maxLen; omega) (by omega) O1.hB.2
 rcases hown.2 with ⟨h0, h00⟩ | ⟨g, cap2, cur, hv, hbg, hgg, hnc, hcm, hcsz, htake⟩
 ·omega
 ·subst hv
  have hall : ∀ q ∈ L ++ [p], PSrc (W.alloc (.cells (PC p) 27)) q /\ FarH h q := fun q hq => by
   rcases List.mem_append.1 hq with hq | hq
   ·exact ⟨O1.src q hq, hF q hq⟩
   ·obtain rfl : q = p := by simpa using hq
    exact ⟨hp.below b1, hf⟩
  have hrow : ∀ k, (HsV h).ownBlock = some k -> B <= k := fun k hk => (O1.own.lt k hk).1
  refine ⟨g, cap2, W2, hrun, ⟨by rw [pvs_append, pvs_one]; exact hown, fun q hq => psrc_keep (hall q hq).1 (fun k hk => (hall q hq).2 k hk) (fun k hk hn => hgrow.block k hk hn), O1.below.grown hgrow O1.below.size (fun k hk => by have := hrow k hk; have := O.hB; omega), O.hB.1, Nat.le_trans O1.hB.2 hgrow.size⟩, fun q hq k hk => ?_, fun q hq hn => (hgrow.block q (by simp; omega) (fun e => hn e.symm)).trans (Below.heap_alloc W _ q hq)⟩
  rcases hat with e | e
  ·exact (hall q hq).2 k (by rw [<- e]; exact hk)
  ·rw [e] at hk
   have := Option.some.inj hk
   exact PFar.old (hall q hq).1 (by omega)
/-! ### records -/
def rvs (L : List Rc) : List Value := (L.map (fun r => (ReC (mkR r)).toList)).flatten
theorem rvs_append (L R : List Rc) : rvs (L ++ R) = rvs L ++ rvs R := by simp [rvs]
theorem rvs_one (r : Rc) : rvs [r] = (ReC (mkR r)).toList := by simp [rvs]
theorem rvs_length (L : List Rc) : (rvs L).length = L.length * 3 := by
 induction L with
 | nil => rfl
 | cons a L ih => have : rvs (a :: L) = (ReC (mkR a)).toList ++ rvs L := rfl; rw [this, List.length_append, ih]; simp [ReC]; omega
theorem rvs_at (L : List Rc) (t j : Nat) (ht : t < L.length) (hj : j < 3) : (rvs L)[t * 3 + j]? = (ReC (mkR (L.getD t rc0))).toList[j]? := by
 induction L generalizing t with
 | nil => simp at ht
 | cons a L ih =>
  have e : rvs (a :: L) = (ReC (mkR a)).toList ++ rvs L := rfl
  cases t with
  | zero => rw [e, List.getElem?_append_left (by simp [ReC]; omega)]; simp [List.getD]
  | succ t =>
   rw [e, List.getElem?_append_right (by simp [ReC]; omega)]
   have h := ih t (by simpa using ht)
   have e4 : (t + 1) * 3 + j - (ReC (mkR a)).toList.length = t * 3 + j := by simp [ReC]; omega
   rw [e4, h]; simp [List.getD]
theorem rvs_cell (r : Rc) : ∀ v ∈ (ReC (mkR r)).toList, v.oneCell' = true := by
 intro v hv; simp [ReC] at hv; rcases hv with rfl | rfl | rfl <;> rfl
theorem infoRec : (Tryz.prog.info? 43).map (fun i => (i.zero, i.size, i.bytes)) = some (some (.agg #[.string ⟨#[]⟩, .slice none 0 0, .slice none 0 0]), 3, 64) := by kernel_rfl
structure OwnRc (B : Nat) (w W : World) (h : Hs) (L : List Rc) : Prop where
 own : W.ownsRow B 43 3 (HsV h) h.n (rvs L)
 ok : ∀ r ∈ L, RcOk W r /\ FarH h r.p
 below : Below w.heap.size w W
 hB : w.heap.size <= B /\ B <= W.heap.size
theorem OwnRc.nil (w : World) : OwnRc w.heap.size w w hs0 [] := ⟨World.ownsRow_nil _ _ _ _, fun p h => (by cases h), Below.refl _ _, Nat.le_refl _, Nat.le_refl _⟩
theorem OwnRc.later {B : Nat} {w W W2 : World} {h : Hs} {L : List Rc} (O : OwnRc B w W h L) (hb : Below W.heap.size W W2) : OwnRc B w W2 h L := by
 refine ⟨O.own.kept (grown_of_below hb) ?_, fun p hp => ⟨(O.ok p hp).1.below hb, (O.ok p hp).2⟩, O.below.trans (hb.mono O.below.size), O.hB.1, Nat.le_trans O.hB.2 hb.size⟩
 cases (HsV h).ownBlock with
 | none => exact .inl rfl
 | some g => exact .inr (by simp)
theorem OwnRc.app {B : Nat} {w W : World} {h : Hs} {L : List Rc} (O : OwnRc B w W h L) (r : Rc) (hp : RcOk W r) (hf : FarH h r.p) (hn : h.n <= 2199023255551) :
  ∃ g c2 W2, (Builtin.append_ #[22, 22] 22 #[HsV h, .slice (some ⟨W.heap.size, 0, none⟩) 1 1]).run Tryz.prog (W.alloc (.cells (ReC (mkR r)) 43)) = .ok (.slice (some ⟨g, 0, none⟩) (h.n + 1) c2) W2 /\ OwnRc B w W2 ⟨some ⟨g, 0, none⟩, h.n + 1, c2⟩ (L ++ [r]) /\ (∀ q, q < W.heap.size -> (HsV h).ownBlock ≠ some q -> W2.heap[q]? = W.heap[q]?) := by
 obtain ⟨i0, hi, hz0, hz1, hz2⟩ := info_parts infoRec
 have b1 := below_new W (.cells (ReC (mkR r)) 43)
 have O1 := O.later b1
 obtain ⟨v', W2, hrun, hown, hgrow, _, hat⟩ := run_append_own_at (P := Tryz.prog) (W.alloc (.cells (ReC (mkR r)) 43)) B 22 22 43 i0 (.agg #[.string ⟨#[]⟩, .slice none 0 0, .slice none 0 0]) 3 64 Tryz.underlying22 hi hz0 hz1 hz2 (by simp [Value.cells]) (by decide) (HsV h) h.n (rvs L) O1.own ⟨W.heap.size, 0, none⟩ 1 1 (ReC (mkR r)).toList rfl (fun j u hj => by
  rw [Addr.add_lit, Nat.zero_add, World.cell?_alloc_new]
  simpa using hj) (rvs_cell r) (by unfold maxLen; omega) (by omega) O1.hB.2
 rcases hown.2 with ⟨h0, h00⟩ | ⟨g, cap2, cur, hv, hbg, hgg, hnc, hcm, hcsz, htake⟩
 ·omega
 ·subst hv
  have hall : ∀ q ∈ L ++ [r], RcOk (W.alloc (.cells (ReC (mkR r)) 43)) q /\ FarH h q.p := fun q hq => by
   rcases List.mem_append.1 hq with hq | hq
   ·exact O1.ok q hq
   ·obtain rfl : q = r := by simpa using hq
    exact ⟨hp.below b1, hf⟩
  have hrow : ∀ k, (HsV h).ownBlock = some k -> B <= k := fun k hk => (O1.own.lt k hk).1
  refine ⟨g, cap2, W2, hrun, ⟨by rw [rvs_append, rvs_one]; exact hown, fun q hq => ⟨⟨psrc_keep (hall q hq).1.1 (fun k hk => (hall q hq).2 k hk) (fun k hk hn => hgrow.block k hk hn), (hall q hq).1.2⟩, fun k hk => ?_⟩, O1.below.grown hgrow O1.below.size (fun k hk => by have := hrow k hk; have := O.hB; omega), O.hB.1, Nat.le_trans O1.hB.2 hgrow.size⟩, fun q hq hn => (hgrow.block q (by simp; omega) (fun e => hn e.symm)).trans (Below.heap_alloc W _ q hq)⟩
  rcases hat with e | e
  ·exact (hall q hq).2 k (by rw [<- e]; exact hk)
  ·rw [e] at hk
   have := Option.some.inj hk
   exact PFar.old (hall q hq).1.1 (by omega)
theorem OwnRc.src {B : Nat} {w W : World} {h : Hs} {L : List Rc} (O : OwnRc B w W h L) (hn : h.n <= 2199023255552) : RcS W h.o h.n h.c L := by
 have hl : L.length = h.n := by have := O.own.1; rw [rvs_length] at this; omega
 have hok : ∀ r ∈ L, RcOk W r := fun r hr => (O.ok r hr).1
 have hr := O.own
 obtain ⟨o, n, c⟩ := h
 rcases hr.2 with ⟨h0, h00⟩ | ⟨g, cap, cur, hv, hbg, hgg, hnc, hcm, hcsz, htake⟩
 ·refine ⟨hl, fun _ => h00, fun ad e t ht => ?_, hok, hn⟩
  omega
 ·simp only [Value.slice.injEq] at hv
  obtain ⟨rfl, -, rfl⟩ := hv
  refine ⟨hl, fun e => (by cases e), fun ad e t ht => ?_, hok, hn⟩
  obtain rfl : (⟨g, 0, none⟩ : Addr) = ad := Option.some.inj e
  have hc : ∀ j, j < 3 -> W.cell? ⟨g, t * 3 + j, none⟩ = (ReC (mkR (L.getD t rc0))).toList[j]? := fun j hj => by
   have h1 := World.ownsRow.cellAt hr (t * 3 + j) (by dsimp only at ht ⊢; omega)
   rw [h1, rvs_at L t j (by omega) hj]
  refine ⟨?_, ?_, ?_⟩
  ·rw [Addr.add_lit, Nat.zero_add]
   exact hc 0 (by omega)
  ·rw [Addr.add_lit, Addr.add_lit, Nat.zero_add]
   exact hc 1 (by omega)
  ·rw [Addr.add_lit, Addr.add_lit, Nat.zero_add]
   exact hc 2 (by omega)
end
section
open Go.RowKit
theorem vsrc_lit (w : World) (T : TypeId) (C : Array Value) (Z : List Int) (hC : C = (Z.map fun x => Value.int .i64 x).toArray) (g n : Nat) (hg : w.heap.size = g) (hn : Z.length = n) : V.Src (w.alloc (.cells C T)) (some ⟨g, 0, none⟩) n n Z := by
 subst hg hn hC
 refine ⟨rfl, (fun h => by cases h), fun ad h t ht => ?_⟩
 obtain rfl := Option.some.inj h
 have h1 := heap_alloc_new w (.cells (Z.map fun x => Value.int .i64 x).toArray T)
 rw [Addr.add_lit, Nat.zero_add]
 simp only [World.cell?, h1]
 simp [ht]
theorem ssrc_one (w : World) (T : TypeId) (a b c : Int) (g : Nat) (hg : w.heap.size = g) : SSrc (w.alloc (.cells #[.int .i64 a, .int .i64 b, .int .i64 c] T)) (some ⟨g, 0, none⟩) 1 1 [⟨a, b, c⟩] := by
 subst hg
 refine ⟨rfl, (fun h => by cases h), fun ad h t ht => ?_, by decide, by decide⟩
 obtain rfl := Option.some.inj h
 obtain rfl : t = 0 := by omega
 have h1 := heap_alloc_new w (.cells #[.int .i64 a, .int .i64 b, .int .i64 c] T)
 rw [Addr.add_lit, Nat.zero_add]
 refine ⟨?_, ?_, ?_⟩ <;> (try rw [Addr.add_lit]) <;> simp only [World.cell?, h1] <;> rfl
theorem rcs_lit (w : World) (T : TypeId) (C : Array Value) (R : List Rc) (hC : C = (rvs R).toArray) (g n : Nat) (hg : w.heap.size = g) (hn : R.length = n) (hb : n <= 2199023255552) (hok : ∀ r ∈ R, RcOk w r) : RcS (w.alloc (.cells C T)) (some ⟨g, 0, none⟩) n n R := by
 subst hg hn hC
 have b1 := below_new w (.cells (rvs R).toArray T)
 refine ⟨rfl, (fun h => by cases h), fun ad h t ht => ?_, fun r hr => (hok r hr).below b1, hb⟩
 obtain rfl := Option.some.inj h
 have hc : ∀ j, j < 3 -> (w.alloc (.cells (rvs R).toArray T)).cell? ⟨w.heap.size, t * 3 + j, none⟩ = (ReC (mkR (R.getD t rc0))).toList[j]? := fun j hj => by
  rw [World.cell?_alloc_new, List.getElem?_toArray, rvs_at R t j ht hj]
 rw [Addr.add_lit, Nat.zero_add]
 refine ⟨?_, ?_, ?_⟩
 ·exact hc 0 (by omega)
 ·rw [Addr.add_lit]; exact hc 1 (by omega)
 ·rw [Addr.add_lit]; exact hc 2 (by omega)
def bldP (a : Array (Nat × Value)) : Sem Value := Instr.build 27 a
theorem bldP_eq (a : Array (Nat × Value)) : Instr.build 27 a = bldP a := rfl
theorem run_bldP2 (a b : Option Addr) (n c m d : Nat) (w : World) : (bldP #[(0, .slice a n c), (1, .slice b m d)]).run Tryz.prog w = .ok (.agg #[.slice a n c, .slice b m d]) w := by kernel_rfl
theorem run_bldP1 (a : Option Addr) (n c : Nat) (w : World) : (bldP #[(0, .slice a n c)]).run Tryz.prog w = .ok (.agg #[.slice a n c, .slice none 0 0]) w := by kernel_rfl
theorem run_bldP0 (w : World) : (bldP #[]).run Tryz.prog w = .ok (.agg #[.slice none 0 0, .slice none 0 0]) w := by kernel_rfl
def bldR (a : Array (Nat × Value)) : Sem Value := Instr.build 43 a
theorem bldR_eq (a : Array (Nat × Value)) : Instr.build 43 a = bldR a := rfl
theorem run_bldR2 (s : ByteArray) (a b : Option Addr) (n c m d : Nat) (w : World) : (bldR #[(0, .string s), (1, .agg #[.slice a n c, .slice b m d])]).run Tryz.prog w = .ok (.agg #[.string s, .slice a n c, .slice b m d]) w := by kernel_rfl
theorem run_bldR1 (s : ByteArray) (w : World) : (bldR #[(0, .string s)]).run Tryz.prog w = .ok (.agg #[.string s, .slice none 0 0, .slice none 0 0]) w := by kernel_rfl
theorem run_bldRp (s : ByteArray) (p : Pv) (w : World) : (bldR #[(0, .string s), (1, .agg (PC p))]).run Tryz.prog w = .ok (.agg (ReC (mkR ⟨s, p⟩))) w := by kernel_rfl
def bldE (a : Array (Nat × Value)) : Sem Value := Instr.build 49 a
theorem bldE_eq (a : Array (Nat × Value)) : Instr.build 49 a = bldE a := rfl
theorem run_bldE (a b q : Int) (s : ByteArray) (w : World) : (bldE #[(0, .agg #[.int .i64 a, .int .i64 b]), (1, .string s), (2, .int .i64 q)]).run Tryz.prog w = .ok (.agg #[.int .i64 a, .int .i64 b, .string s, .int .i64 q]) w := by kernel_rfl
def bldD (a : Array (Nat × Value)) : Sem Value := Instr.build 47 a
theorem bldD_eq (a : Array (Nat × Value)) : Instr.build 47 a = bldD a := rfl
theorem run_bldD (a b : Int) (w : World) : (bldD #[(0, .int .i64 a), (1, .int .i64 b)]).run Tryz.prog w = .ok (.agg #[.int .i64 a, .int .i64 b]) w := by kernel_rfl
def bldSp (a : Array (Nat × Value)) : Sem Value := Instr.build 45 a
theorem bldSp_eq (a : Array (Nat × Value)) : Instr.build 45 a = bldSp a := rfl
theorem run_bldSp (a b c : Int) (w : World) : (bldSp #[(0, .int .i64 a), (1, .int .i64 b), (2, .int .i64 c)]).run Tryz.prog w = .ok (.agg #[.int .i64 a, .int .i64 b, .int .i64 c]) w := by kernel_rfl
theorem cells_agg (xs : Array Value) : (Value.agg xs).cells = xs := by simp [Value.cells]
end
end Go.Proofs.YtalcmdjiejhkgaaGreat
