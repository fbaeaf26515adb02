/- past's Compare: its contract. -/
import Derived.Test.YtlnhafjpmkopgaaPBj
import Derived.Test.YtlnhafjpmkopgaaPCs
namespace Go.Proofs.Ytlnhafjpmkopgaa
open Go.RowKit
attribute [local go_sem ↓] ldP_eq stP_eq
attribute [local go_sem] zero_PC cells_PV fold_PC PC_size fold_PC1

/-- a number is handed back; old memory stands -/
def GivesC (w w' : World) (e : Ending) (P : Int → Prop) : Prop := ∃ k, e = .returned (.int .i64 k) ∧ P k ∧ Below w.heap.size w w'
theorem canon_ex (G : Nat → List Rn) : ∃ P, CanonOf G P := by
  have h : ∀ r, ∃ Y, NormOf (G r) Y := fun r => norm_ex _
  exact ⟨_, fun r => Classical.choose (h r), fun r _ => Classical.choose_spec (h r), rfl⟩
/-- how the sets of the two stand in the order of pasts -/
def CmpOf (P Q : Pst) (z : Int) : Prop := ∃ X Y, CanonOf (runsAt P) X ∧ CanonOf (runsAt Q) Y ∧ z = cmpP X Y
theorem CmpOf.unique {P Q : Pst} {z z' : Int} (h : CmpOf P Q z) (h' : CmpOf P Q z') : z = z' := by
  obtain ⟨X, Y, hX, hY, rfl⟩ := h
  obtain ⟨X', Y', hX', hY', rfl⟩ := h'
  rw [hX.unique hX' (fun _ _ _ => Iff.rfl), hY.unique hY' (fun _ _ _ => Iff.rfl)]
def PhE (a b : Pv) (_ : World) (_ : World) : Nat → Value → World → Prop
  | 0, x, _ => x = PV a
  | 2, x, _ => x = PV b
  | _, _, _ => True
theorem PhE_mono (a b : Pv) (w : World) (W0 : World) : Mono (PhE a b w W0) := fun i _ _ _ h _ => match i with
  | 0 => h
  | 2 => h
  | 1 => trivial
  | 3 => trivial
  | 4 => trivial
  | 5 => trivial
  | 6 => trivial
  | 7 => trivial
  | _ + 8 => trivial
theorem PhE_inv (a b : Pv) (w : World) (W0 : World) : ∀ j x U U', j ∉ [] → PhE a b w W0 j x U → PhE a b w W0 j x U' := fun j _ _ _ _ h => match j with
  | 0 => h
  | 2 => h
  | 1 => trivial
  | 3 => trivial
  | 4 => trivial
  | 5 => trivial
  | 6 => trivial
  | 7 => trivial
  | _ + 8 => trivial
set_option maxRecDepth 100000 in
set_option maxHeartbeats 4000000 in
theorem stE {a b : Pv} {w wk : World} (HXA : Hid (PBox wk w.heap.size a)) (HXB : Hid (PBox wk (w.heap.size + 1) b)) (HA : Hid (PSrc wk a)) (HB : Hid (PSrc wk b)) {Q : Exit → Act → World → Prop} :
    ∀ (l : Array Bool) (x : Act) (W : World), (∃ v1x0 v1x1 v1x2 v1x3 v1x4 v1x5, x = { tmps := #[PV a, PV b, ptr w.heap.size, ptr (w.heap.size + 1), .int .i64 0, v1x4, v1x5, undef, v1x0, v1x1, v1x2, v1x3, undef, undef, undef, undef, undef, undef, undef, undef, undef, undef, undef, undef, undef], defers := [] } ∧ BI 8 6 wk (PhE a b w wk) [] [(1, CanonOf (runsAt a.P)), (3, CanonOf (runsAt b.P))] [(4, 6, 1), (5, 7, 3)] l W [v1x0, v1x1, v1x2, v1x3, v1x4, v1x5, undef, undef]) → ∀ i, i ∈ Region.ready .any #[{ dst := some 8, op := Op.load 25 (Operand.tmp 2), type := 25, pos := "sets.go:53", after := #[], guard := none }, { dst := some 9, op := Op.call { callee := Callee.value (Operand.func 37), args := #[Operand.tmp 8], argTypes := #[25] }, type := 25, pos := "sets.go:53", after := #[{ on := 0, ground := Ground.data }], guard := none }, { dst := some 10, op := Op.load 25 (Operand.tmp 3), type := 25, pos := "sets.go:53", after := #[], guard := none }, { dst := some 11, op := Op.call { callee := Callee.value (Operand.func 37), args := #[Operand.tmp 10], argTypes := #[25] }, type := 25, pos := "sets.go:53", after := #[{ on := 2, ground := Ground.data }, { on := 1, ground := Ground.chain }], guard := none }, { dst := some 5, op := Op.alloc 25, type := 0, pos := "sets.go:53", after := #[], guard := none }, { dst := some 6, op := Op.alloc 25, type := 0, pos := "sets.go:53", after := #[], guard := none }, { dst := none, op := Op.store 25 (Operand.tmp 5) (Operand.tmp 9), type := 0, pos := "sets.go:53", after := #[{ on := 4, ground := Ground.data }, { on := 1, ground := Ground.data }, { on := 3, ground := Ground.chain }, { on := 0, ground := Ground.phase }, { on := 1, ground := Ground.phase }, { on := 2, ground := Ground.textOnly Departure.lateStores }, { on := 3, ground := Ground.textOnly Departure.lateStoresUnsure }, { on := 4, ground := Ground.phase }, { on := 5, ground := Ground.phase }], guard := none }, { dst := none, op := Op.store 25 (Operand.tmp 6) (Operand.tmp 11), type := 0, pos := "sets.go:53", after := #[{ on := 5, ground := Ground.data }, { on := 3, ground := Ground.data }, { on := 6, ground := Ground.chain }, { on := 0, ground := Ground.phase }, { on := 1, ground := Ground.phase }, { on := 2, ground := Ground.phase }, { on := 3, ground := Ground.phase }, { on := 4, ground := Ground.phase }, { on := 5, ground := Ground.phase }, { on := 6, ground := Ground.phase }], guard := none }] l → wpOp Try.prog #[{ dst := some 8, op := Op.load 25 (Operand.tmp 2), type := 25, pos := "sets.go:53", after := #[], guard := none }, { dst := some 9, op := Op.call { callee := Callee.value (Operand.func 37), args := #[Operand.tmp 8], argTypes := #[25] }, type := 25, pos := "sets.go:53", after := #[{ on := 0, ground := Ground.data }], guard := none }, { dst := some 10, op := Op.load 25 (Operand.tmp 3), type := 25, pos := "sets.go:53", after := #[], guard := none }, { dst := some 11, op := Op.call { callee := Callee.value (Operand.func 37), args := #[Operand.tmp 10], argTypes := #[25] }, type := 25, pos := "sets.go:53", after := #[{ on := 2, ground := Ground.data }, { on := 1, ground := Ground.chain }], guard := none }, { dst := some 5, op := Op.alloc 25, type := 0, pos := "sets.go:53", after := #[], guard := none }, { dst := some 6, op := Op.alloc 25, type := 0, pos := "sets.go:53", after := #[], guard := none }, { dst := none, op := Op.store 25 (Operand.tmp 5) (Operand.tmp 9), type := 0, pos := "sets.go:53", after := #[{ on := 4, ground := Ground.data }, { on := 1, ground := Ground.data }, { on := 3, ground := Ground.chain }, { on := 0, ground := Ground.phase }, { on := 1, ground := Ground.phase }, { on := 2, ground := Ground.textOnly Departure.lateStores }, { on := 3, ground := Ground.textOnly Departure.lateStoresUnsure }, { on := 4, ground := Ground.phase }, { on := 5, ground := Ground.phase }], guard := none }, { dst := none, op := Op.store 25 (Operand.tmp 6) (Operand.tmp 11), type := 0, pos := "sets.go:53", after := #[{ on := 5, ground := Ground.data }, { on := 3, ground := Ground.data }, { on := 6, ground := Ground.chain }, { on := 0, ground := Ground.phase }, { on := 1, ground := Ground.phase }, { on := 2, ground := Ground.phase }, { on := 3, ground := Ground.phase }, { on := 4, ground := Ground.phase }, { on := 5, ground := Ground.phase }, { on := 6, ground := Ground.phase }], guard := none }] Q i (fun a' w' => ∃ v1x0 v1x1 v1x2 v1x3 v1x4 v1x5, a' = { tmps := #[PV a, PV b, ptr w.heap.size, ptr (w.heap.size + 1), .int .i64 0, v1x4, v1x5, undef, v1x0, v1x1, v1x2, v1x3, undef, undef, undef, undef, undef, undef, undef, undef, undef, undef, undef, undef, undef], defers := [] } ∧ BI 8 6 wk (PhE a b w wk) [] [(1, CanonOf (runsAt a.P)), (3, CanonOf (runsAt b.P))] [(4, 6, 1), (5, 7, 3)] (l.setIfInBounds i true) w' [v1x0, v1x1, v1x2, v1x3, v1x4, v1x5, undef, undef]) x W := by
  rintro l x W ⟨v1x0, v1x1, v1x2, v1x3, v1x4, v1x5, rfl, T⟩ i hi
  obtain ⟨hi1, hi2, hi3⟩ := ready_mem hi
  have hi4 := no_true hi2
  have hc : i = 0 ∨ i = 1 ∨ i = 2 ∨ i = 3 ∨ i = 4 ∨ i = 5 ∨ i = 6 ∨ i = 7 := by have h : i < 8 := hi1; omega
  have HT := hide T
  clear T
  rcases hc with rfl | rfl | rfl | rfl | rfl | rfl | rfl | rfl
  · have HL := hide hi4
    clear hi hi1 hi2 hi3 hi4
    have l1 := run_ldP (HXA.out.below HT.out.b).at
    refine wpOp_step (o := { dst := some 8, op := Op.load 25 (Operand.tmp 2), type := 25, pos := "sets.go:53", after := #[], guard := none }) rfl (fun K hK => ?_)
    go_simp
    exact hK _ _ ⟨PV a, v1x1, v1x2, v1x3, v1x4, v1x5, rfl, HT.out.plain (PhE_mono a b w wk) (Below.refl _ _) 0 (by decide) HL.out _ rfl (by simp) (by simp) (by decide)⟩
  · have d0 := hi3 _ rfl { on := 0, ground := Ground.data } (by simp) rfl
    have e0 : v1x0 = PV a := HT.out.h 0 (by decide) d0 (fun hm => absurd hm (by decide))
    subst e0
    have HL := hide hi4
    clear hi hi1 hi2 hi3 hi4 d0
    refine wpOp_step (o := { dst := some 9, op := Op.call { callee := Callee.value (Operand.func 37), args := #[Operand.tmp 8], argTypes := #[25] }, type := 25, pos := "sets.go:53", after := #[{ on := 0, ground := Ground.data }], guard := none }) rfl (fun K hK => ?_)
    go_simp
    go_wp2_with fail
    refine (formed_any a _ (HA.out.below HT.out.b)).mono ?_
    rintro e w' ⟨pp, rfl, pS, pN, pb, pq⟩
    exact hK _ _ ⟨_, PV pp, v1x2, v1x3, v1x4, v1x5, rfl, HT.out.callF (PhE_mono a b w wk) pb 1 (CanonOf (runsAt a.P)) (by decide) HL.out (by simp) (by simp) pp pS (fun g h1 h2 => pN.elim (fun e => by rw [e]; exact PFar.old HA.out h1) (fun h => PFar.new h h2)) (pq) (fun _ _ => trivial) (by simp) (by decide)⟩
  · have HL := hide hi4
    clear hi hi1 hi2 hi3 hi4
    have l1 := run_ldP (HXB.out.below HT.out.b).at
    refine wpOp_step (o := { dst := some 10, op := Op.load 25 (Operand.tmp 3), type := 25, pos := "sets.go:53", after := #[], guard := none }) rfl (fun K hK => ?_)
    go_simp
    exact hK _ _ ⟨v1x0, v1x1, PV b, v1x3, v1x4, v1x5, rfl, HT.out.plain (PhE_mono a b w wk) (Below.refl _ _) 2 (by decide) HL.out _ rfl (by simp) (by simp) (by decide)⟩
  · have d2 := hi3 _ rfl { on := 2, ground := Ground.data } (by simp) rfl
    have e2 : v1x2 = PV b := HT.out.h 2 (by decide) d2 (fun hm => absurd hm (by decide))
    subst e2
    have HL := hide hi4
    clear hi hi1 hi2 hi3 hi4 d2
    refine wpOp_step (o := { dst := some 11, op := Op.call { callee := Callee.value (Operand.func 37), args := #[Operand.tmp 10], argTypes := #[25] }, type := 25, pos := "sets.go:53", after := #[{ on := 2, ground := Ground.data }, { on := 1, ground := Ground.chain }], guard := none }) rfl (fun K hK => ?_)
    go_simp
    go_wp2_with fail
    refine (formed_any b _ (HB.out.below HT.out.b)).mono ?_
    rintro e w' ⟨pp, rfl, pS, pN, pb, pq⟩
    exact hK _ _ ⟨v1x0, v1x1, _, PV pp, v1x4, v1x5, rfl, HT.out.callF (PhE_mono a b w wk) pb 3 (CanonOf (runsAt b.P)) (by decide) HL.out (by simp) (by simp) pp pS (fun g h1 h2 => pN.elim (fun e => by rw [e]; exact PFar.old HB.out h1) (fun h => PFar.new h h2)) (pq) (fun _ _ => trivial) (by simp) (by decide)⟩
  · have HL := hide hi4
    clear hi hi1 hi2 hi3 hi4
    refine wpOp_step (o := { dst := some 5, op := Op.alloc 25, type := 0, pos := "sets.go:53", after := #[], guard := none }) rfl (fun K hK => ?_)
    go_simp
    exact hK _ _ ⟨v1x0, v1x1, v1x2, v1x3, ptr W.heap.size, v1x5, rfl, HT.out.make (PhE_mono a b w wk) 4 6 1 (by decide) HL.out (by simp) (by simp) (by simp) (by simp) (fun _ _ => trivial) (by decide)⟩
  · have HL := hide hi4
    clear hi hi1 hi2 hi3 hi4
    refine wpOp_step (o := { dst := some 6, op := Op.alloc 25, type := 0, pos := "sets.go:53", after := #[], guard := none }) rfl (fun K hK => ?_)
    go_simp
    exact hK _ _ ⟨v1x0, v1x1, v1x2, v1x3, v1x4, ptr W.heap.size, rfl, HT.out.make (PhE_mono a b w wk) 5 7 3 (by decide) HL.out (by simp) (by simp) (by simp) (by simp) (fun _ _ => trivial) (by decide)⟩
  · have da := hi3 _ rfl { on := 4, ground := Ground.data } (by simp) rfl
    have dc := hi3 _ rfl { on := 1, ground := Ground.data } (by simp) rfl
    obtain ⟨pc, ec, -, -, -⟩ := HT.out.r (1, CanonOf (runsAt a.P)) (by simp) dc
    obtain ⟨g, eg, PB, T2⟩ := HT.out.fill 4 6 1 pc (by decide) hi4 (by simp) (by simp) (by simp) da dc (Or.inl rfl) ec (by simp) (by simp) (PhE_inv a b w wk) (fun _ _ => trivial) undef
    have fg : v1x4 = ptr g := eg
    have fc : v1x1 = PV pc := ec
    subst fg fc
    have s1 := run_stP (p' := pc) PB
    have HT2 := hide T2
    clear T2 PB eg ec da dc HT hi hi1 hi2 hi3 hi4
    refine wpOp_step (o := { dst := none, op := Op.store 25 (Operand.tmp 5) (Operand.tmp 9), type := 0, pos := "sets.go:53", after := #[{ on := 4, ground := Ground.data }, { on := 1, ground := Ground.data }, { on := 3, ground := Ground.chain }, { on := 0, ground := Ground.phase }, { on := 1, ground := Ground.phase }, { on := 2, ground := Ground.textOnly Departure.lateStores }, { on := 3, ground := Ground.textOnly Departure.lateStoresUnsure }, { on := 4, ground := Ground.phase }, { on := 5, ground := Ground.phase }], guard := none }) rfl (fun K hK => ?_)
    go_simp
    exact hK _ _ ⟨v1x0, _, v1x2, v1x3, _, v1x5, rfl, HT2.out⟩
  · have da := hi3 _ rfl { on := 5, ground := Ground.data } (by simp) rfl
    have dc := hi3 _ rfl { on := 3, ground := Ground.data } (by simp) rfl
    have dt := hi3 _ rfl { on := 6, ground := Ground.chain } (by simp) rfl
    obtain ⟨pc, ec, -, -, -⟩ := HT.out.r (3, CanonOf (runsAt b.P)) (by simp) dc
    obtain ⟨g, eg, PB, T2⟩ := HT.out.fill 5 7 3 pc (by decide) hi4 (by simp) (by simp) (by simp) da dc (Or.inr dt) ec (by simp) (by simp) (PhE_inv a b w wk) (fun _ _ => trivial) undef
    have fg : v1x5 = ptr g := eg
    have fc : v1x3 = PV pc := ec
    subst fg fc
    have s1 := run_stP (p' := pc) PB
    have HT2 := hide T2
    clear T2 PB eg ec da dc dt HT hi hi1 hi2 hi3 hi4
    refine wpOp_step (o := { dst := none, op := Op.store 25 (Operand.tmp 6) (Operand.tmp 11), type := 0, pos := "sets.go:53", after := #[{ on := 5, ground := Ground.data }, { on := 3, ground := Ground.data }, { on := 6, ground := Ground.chain }, { on := 0, ground := Ground.phase }, { on := 1, ground := Ground.phase }, { on := 2, ground := Ground.phase }, { on := 3, ground := Ground.phase }, { on := 4, ground := Ground.phase }, { on := 5, ground := Ground.phase }, { on := 6, ground := Ground.phase }], guard := none }) rfl (fun K hK => ?_)
    go_simp
    exact hK _ _ ⟨v1x0, v1x1, v1x2, _, v1x4, _, rfl, HT2.out⟩
set_option maxRecDepth 100000 in
set_option maxHeartbeats 4000000 in
theorem pastCompare_any (a b : Pv) (w : World) (hA : PSrc w a) (hB : PSrc w b) : Calls Try.prog 19 #[PV a, PV b] w fun e w' => GivesC w w' e (CmpOf a.P b.P) := by
  have b1 := below_new w (.cells (PC a) 25)
  have b2 := below_new (w.alloc (.cells (PC a) 25)) (.cells (PC b) 25)
  have p2 := pbox_new (w.alloc (.cells (PC a) 25)) b
  rw [World.size_alloc] at p2
  have HXA := hide ((pbox_new w a).below b2)
  have HXB := hide p2
  have HBWwk := hide (b1.trans (b2.mono b1.size))
  have HA := hide (hA.below HBWwk.out)
  have HB := hide (hB.below HBWwk.out)
  clear b1 b2 p2 hA hB
  obtain ⟨wk, hwk⟩ : ∃ wk, (w.alloc (.cells (PC a) 25)).alloc (.cells (PC b) 25) = wk := ⟨_, rfl⟩
  rw [hwk] at HXA HXB HBWwk HA HB
  go_enter Try.func19, Try.ntmps19
  go_wp2_with fail
  clear hwk
  refine wp_region_inv (by kernel_rfl) (fun l x W => ∃ v1x0 v1x1 v1x2 v1x3 v1x4 v1x5, x = { tmps := #[PV a, PV b, ptr w.heap.size, ptr (w.heap.size + 1), .int .i64 0, v1x4, v1x5, undef, v1x0, v1x1, v1x2, v1x3, undef, undef, undef, undef, undef, undef, undef, undef, undef, undef, undef, undef, undef], defers := [] } ∧ BI 8 6 wk (PhE a b w wk) [] [(1, CanonOf (runsAt a.P)), (3, CanonOf (runsAt b.P))] [(4, 6, 1), (5, 7, 3)] l W [v1x0, v1x1, v1x2, v1x3, v1x4, v1x5, undef, undef]) ⟨undef, undef, undef, undef, undef, undef, rfl, BI.start _ _ _ _ _ _ _ _ rfl⟩ ?_ ?_ ?_
  · rintro l x W ⟨v1x0, v1x1, v1x2, v1x3, v1x4, v1x5, rfl, T⟩
    exact T.sz
  · exact stE HXA HXB HA HB
  · rintro l x W ⟨v1x0, v1x1, v1x2, v1x3, v1x4, v1x5, rfl, T⟩ hnil
    have hall := fun i (hi : i < 8) => ready_done (by kernel_rfl) T.sz hnil i hi
    have HT := hide T
    clear T hnil
    have e0 : v1x0 = PV a := HT.out.h 0 (by decide) (hall 0 (by decide)) (fun hm => absurd hm (by decide))
    subst e0
    obtain ⟨qa, e1, Sqa, qqa, -⟩ := HT.out.r (1, CanonOf (runsAt a.P)) (by simp) (hall 1 (by decide))
    have f1 : v1x1 = PV qa := e1
    subst f1
    have HSqa := hide Sqa
    have HQqa : Hid (CanonOf (runsAt a.P) qa.P) := qqa
    clear e1 Sqa qqa
    have e2 : v1x2 = PV b := HT.out.h 2 (by decide) (hall 2 (by decide)) (fun hm => absurd hm (by decide))
    subst e2
    obtain ⟨qb, e3, Sqb, qqb, -⟩ := HT.out.r (3, CanonOf (runsAt b.P)) (by simp) (hall 3 (by decide))
    have f3 : v1x3 = PV qb := e3
    subst f3
    have HSqb := hide Sqb
    have HQqb : Hid (CanonOf (runsAt b.P) qb.P) := qqb
    clear e3 Sqb qqb
    obtain ⟨ga, e4, -, -, -, k4⟩ := HT.out.a (4, 6, 1) (by simp) (hall 4 (by decide))
    have HXga : Hid (PBox W ga qa) := k4 (hall 6 (by decide)) qa rfl
    have f4 : v1x4 = ptr ga := e4
    subst f4
    clear e4 k4
    obtain ⟨gb, e5, -, -, -, k5⟩ := HT.out.a (5, 7, 3) (by simp) (hall 5 (by decide))
    have HXgb : Hid (PBox W gb qb) := k5 (hall 7 (by decide)) qb rfl
    have f5 : v1x5 = ptr gb := e5
    subst f5
    clear e5 k5
    have by1 := HT.out.b
    rename World => y1
    clear hall HT l
    replace HXA := hide (HXA.out.below by1)
    replace HXB := hide (HXB.out.below by1)
    replace HA := hide (HA.out.below by1)
    replace HB := hide (HB.out.below by1)
    have HBWy1 := hide (HBWwk.out.trans (by1.mono HBWwk.out.size))
    clear by1
    obtain ⟨va, ca⟩ := HXga.out.nums
    obtain ⟨vb, cb⟩ := HXgb.out.nums
    have HC : Hid (CmpOf a.P b.P (cmpP qa.P qb.P)) := ⟨qa.P, qb.P, HQqa.out, HQqb.out, rfl⟩
    go_wp2_with fail
    refine (slCompare_any _ _ _ _ _ _ qa.P.vec qb.P.vec _ HSqa.out.vec HSqb.out.vec HSqa.out.big HSqb.out.big).mono ?_
    rintro e z1 ⟨rfl, bz1⟩
    have ca' := (bz1.cell (World.block_lt_of_cell? _ _ ca)).trans ca
    have cb' := (bz1.cell (World.block_lt_of_cell? _ _ cb)).trans cb
    have HBz := hide (HBWy1.out.trans (bz1.mono HBWy1.out.size))
    have HCA := hide (HSqa.out.below bz1).cloud
    have HCC := hide (HSqb.out.below bz1).cloud
    clear va vb ca cb bz1
    by_cases h0 : lex cmpI qa.P.vec qb.P.vec = 0
    · have HE : Hid (cmpP qa.P qb.P = lex cmp3 qa.P.cloud qb.P.cloud) := by show _ = _; unfold cmpP; rw [if_pos h0]
      rw [h0]
      clear h0
      go_wp2_with fail
      refine (slCompareS_any _ _ _ _ _ _ qa.P.cloud qb.P.cloud _ HCA.out HCC.out).mono ?_
      rintro e z2 ⟨rfl, bz2⟩
      have HBE := hide (HBz.out.trans (bz2.mono HBz.out.size))
      rw [← HE.out]
      generalize cmpP qa.P qb.P = z at HC ⊢
      clear HE bz2 ca' cb'
      go_wp2_with fail
      go_ret
      exact ⟨z, rfl, HC.out, HBE.out⟩
    · have HE : Hid (cmpP qa.P qb.P = lex cmpI qa.P.vec qb.P.vec) := by show _ = _; unfold cmpP; rw [if_neg h0]
      rw [← HE.out] at h0 ⊢
      generalize cmpP qa.P qb.P = z at HC h0 ⊢
      have h0' : (z != 0) = true := by simpa using h0
      clear HE h0
      go_wp2_with fail
      go_ret
      exact ⟨z, rfl, HC.out, HBz.out⟩
end Go.Proofs.Ytlnhafjpmkopgaa
