/- FRd FIr FJr FRs -/
import Derived.Test.YtbmjiedpaffifaaGreatDb25
namespace Go.Proofs.YtbmjiedpaffifaaGreat
open Go.RowKit
variable {w w' : World} {g : Nat} {Z : List Int} {B : Option Nat}

/-- a reader with these bytes left, in this block -/
def RB (w : World) (g : Nat) (Z : List Int) (B : Option Nat) : Prop := ∃ ro rn rc, U.RL w g ro rn rc Z ∧ (Z ≠ [] → U.blk ro = B)
/-- it gave up -/
def GaveE (w w' : World) (g : Nat) : Prop := ∃ e, e ≠ 0 ∧ U.Gave w w' g e
theorem GaveE.pre {w2 : World} (K : U.Kg w w' g) (h : GaveE w' w2 g) : GaveE w w2 g := by
  obtain ⟨e, he, h1, h2⟩ := h
  exact ⟨e, he, h1, K.trans h2⟩
def NumP (w w' : World) (g : Nat) (B : Option Nat) (o : Option (Nat × List Int)) (r : Ending) : Prop :=
  (o = none ∧ r = .panicked (U.ups g) ∧ GaveE w w' g) ∨ ∃ v Z1, o = some (v, Z1) ∧ r = .returned (.int .i64 (v : Int)) ∧ RB w' g Z1 B ∧ U.Kg w w' g
theorem num_p (R : RB w g Z B) (most : Int) : Calls Tryz.prog 72 #[U.ptr g, .int .i64 most] w fun r w' => NumP w w' g B (U.pNum most Z) r := by
  obtain ⟨ro, rn, rc, R, hB⟩ := R
  unfold U.pNum
  by_cases h : U.nmE Z most = 0
  · rw [if_pos h]
    refine (U.Num_ok R h).mono ?_
    rintro r w' ⟨rfl, so, sc, h1, h2, h3⟩
    exact .inr ⟨_, _, rfl, rfl, ⟨so, _, sc, h1, fun hz => h2.trans (hB (fun e => hz (by rw [e]; simp)))⟩, h3⟩
  · rw [if_neg h]
    refine (U.num_bad R rfl h).mono ?_
    rintro r w' ⟨rfl, h1⟩
    exact .inl ⟨rfl, rfl, _, h, h1⟩
theorem cnt_p (R : RB w g Z B) (each : Int) : Calls Tryz.prog 73 #[U.ptr g, .int .i64 each] w fun r w' => NumP w w' g B (U.pCnt each Z) r := by
  obtain ⟨ro, rn, rc, R, hB⟩ := R
  unfold U.pCnt
  by_cases h : U.ctE Z each = 0
  · rw [if_pos h]
    refine (U.count_ok R h).mono ?_
    rintro r w' ⟨rfl, so, sc, h1, h2, h3⟩
    exact .inr ⟨_, _, rfl, rfl, ⟨so, _, sc, h1, fun hz => h2.trans (hB (fun e => hz (by rw [e]; simp)))⟩, h3⟩
  · rw [if_neg h]
    refine (U.count_bad R rfl h).mono ?_
    rintro r w' ⟨rfl, h1⟩
    exact .inl ⟨rfl, rfl, _, h, h1⟩
theorem RB.lt (R : RB w g Z B) : g < w.heap.size := by obtain ⟨ro, rn, rc, R, hB⟩ := R; exact R.r.lt
theorem RB.below (R : RB w g Z B) (hb : Below w.heap.size w w') : RB w' g Z B := by obtain ⟨ro, rn, rc, R, hB⟩ := R; exact ⟨ro, rn, rc, R.kg_below hb, hB⟩
theorem TrB.kg {gt : Nat} {gap r0 : Int} {T : Nat → Int} (h : TrB w gt gap r0 T) (K : U.Kg w w' g) (hn : gt ≠ g) : TrB w' gt gap r0 T := (K.block gt h.lt hn).trans h
theorem pNum_le {most : Int} {v : Nat} {Z1 : List Int} (h : U.pNum most Z = some (v, Z1)) : (v : Int) ≤ most := by
  unfold U.pNum at h
  split at h
  · rename_i h0
    simp only [Option.some.injEq, Prod.mk.injEq] at h
    have := (U.nm_ok h0).2.1
    omega
  · cases h
/-- a place read, of things that lie so far apart at least -/
def plG (gap : Int) (T : Nat → Int) (r0 : Int) (Z : List Int) : Option (Int × Int × List Int) :=
  match U.pNum (15 - r0) Z with
  | none => none
  | some (a, Z1) =>
    match U.pNum (1000000000 - (T (r0 + a).toNat + gap)) Z1 with
    | none => none
    | some (b, Z2) => some (r0 + a, T (r0 + a).toNat + gap + b, Z2)
/-- a place read -/
def plF (T : Nat → Int) (r0 : Int) (Z : List Int) : Option (Int × Int × List Int) :=
  match U.pNum (15 - r0) Z with
  | none => none
  | some (a, Z1) =>
    match U.pNum (1000000000 - (T (r0 + a).toNat + 2)) Z1 with
    | none => none
    | some (b, Z2) => some (r0 + a, T (r0 + a).toNat + 2 + b, Z2)
def PlP (w w' : World) (g : Nat) (B : Option Nat) (o : Option (Int × Int × List Int)) (r : Ending) : Prop :=
  (o = none ∧ r = .panicked (U.ups g) ∧ GaveE w w' g) ∨ ∃ a b Z1, o = some (a, b, Z1) ∧ r = .returned (.tuple #[.int .i64 a, .int .i64 b]) ∧ RB w' g Z1 B ∧ U.Kg w w' g
set_option maxRecDepth 100000 in
set_option maxHeartbeats 3200000 in
theorem rplaceG_any {gt : Nat} {gap r0 : Int} {T : Nat → Int} (hgap : 1 ≤ gap ∧ gap ≤ 2) (R : RB w g Z B) (hT : TrB w gt gap r0 T) (hne : gt ≠ g) (h0 : 0 ≤ r0 ∧ r0 ≤ 15) (hTb : ∀ k, 0 ≤ T k ∧ T k ≤ 1000000000) :
    Calls Tryz.prog 74 #[.agg #[U.ptr g], U.ptr gt] w fun e w' => PlP w w' g B (plG gap T r0 Z) e := by
  have hb := U.below_new w (.cells #[U.ptr g] 102)
  have hx := heap_alloc_new w (.cells #[U.ptr g] 102)
  have HLT := hide R.lt
  have HTL := hide hT.lt
  have HR := hide (R.below hb)
  have HT := hide (hT.below hb)
  have HN := hide hne
  have HTb := hide hTb
  have H0 := hide h0
  have HK : Hid (U.Kg w (w.alloc (.cells #[U.ptr g] 102)) g) := U.Kg.of_below hb
  obtain ⟨W1, hW1⟩ : ∃ W1, w.alloc (.cells #[U.ptr g] 102) = W1 := ⟨_, rfl⟩
  obtain ⟨b2, hb2⟩ : ∃ b2, w.heap.size = b2 := ⟨_, rfl⟩
  rw [hW1] at HR HT hx HK
  rw [hb2] at hx HLT HTL
  have HX : Hid (W1.heap[b2]? = some (.cells #[U.ptr g] 102)) := hx
  have HBG : Hid (b2 ≠ g) := fun e => by have := HLT.out; omega
  obtain ⟨m1, hm1⟩ : ∃ m1 : Int, 15 - r0 = m1 := ⟨_, rfl⟩
  have hw1 : IntKind.i64.wrap (15 - r0) = m1 := by rw [IntKind.wrap_i64]; omega
  have hwz : ∀ v : Nat, (v : Int) ≤ m1 → ∃ kk : Nat, kk < 16 ∧ r0 + (v : Int) = kk ∧ IntKind.i64.wrap (r0 + (v : Int)) = kk := fun v hv => ⟨(r0 + (v : Int)).toNat, by omega, by omega, by rw [IntKind.wrap_i64]; omega⟩
  have HWZ := hide hwz
  have HM1 := hide hm1
  have HGp := hide hgap
  have HC : Hid (∀ V, U.Kg W1 V g → V.cell? ⟨b2, 0, none⟩ = some (U.ptr g) ∧ TrB V gt gap r0 T) := fun V K => ⟨box_cell ((K.block b2 (Array.getElem?_eq_some_iff.1 HX.out).1 HBG.out).trans HX.out), HT.out.kg K HN.out⟩
  clear R hT hb hx hne hTb h0 hwz hm1
  go_enter Tryz.func74, Tryz.ntmps74
  go_wp2_with fail
  clear hW1 hb2
  refine wp_region_held_drew (S := fun v => v.cell? ⟨b2, 0, none⟩ = some (U.ptr g) ∧ v.cell? ⟨gt, 1, none⟩ = some (.int .i64 r0)) (by kernel_rfl) (⟨(HC.out _ ((U.Kg.of_below (U.below_drew1 W1)))).1, (HC.out _ ((U.Kg.of_below (U.below_drew1 W1)))).2.c1⟩) (fun hHeld => ?_)
  refine wpAnyH_take (i := 0) (oi := { dst := some 6, op := Op.move (Operand.tmp 1), type := 85, pos := "reader.go:57", after := #[], guard := none }) (v := ?_) rfl (by kernel_rfl) (by kernel_rfl) (by kernel_rfl) (fun _ _ _ h => h) (Or.inl ⟨by rfl, ?_⟩) (by assumption) ?_
  rotate_left
  · (intro w hSw; (try dsimp only at hSw); go_simp); first | done | with_reducible rfl
  simp only [Act.put, List.setIfInBounds_toArray, List.set_cons_zero, List.set_cons_succ]
  refine wpAnyH_take (i := 1) (oi := { dst := some 7, op := Op.nilCheck (Operand.tmp 6), type := 0, pos := "reader.go:57", after := #[{ on := 0, ground := Ground.data }], guard := none }) (v := ?_) rfl (by kernel_rfl) (by kernel_rfl) (by kernel_rfl) (fun _ _ _ h => h) (Or.inl ⟨by rfl, ?_⟩) (by assumption) ?_
  rotate_left
  · (intro w hSw; (try dsimp only at hSw); go_simp); first | done | with_reducible rfl
  simp only [Act.put, List.setIfInBounds_toArray, List.set_cons_zero, List.set_cons_succ]
  refine wpAnyH_take (i := 2) (oi := { dst := some 8, op := Op.fieldAddr 115 (Operand.tmp 7) 1, type := 0, pos := "reader.go:57", after := #[{ on := 1, ground := Ground.data }], guard := none }) (v := ?_) rfl (by kernel_rfl) (by kernel_rfl) (by kernel_rfl) (fun _ _ _ h => h) (Or.inl ⟨by rfl, ?_⟩) (by assumption) ?_
  rotate_left
  · (intro w hSw; (try dsimp only at hSw); go_simp); first | done | with_reducible rfl
  simp only [Act.put, List.setIfInBounds_toArray, List.set_cons_zero, List.set_cons_succ]
  refine wpAnyH_take (i := 3) (oi := { dst := some 9, op := Op.load 3 (Operand.tmp 8), type := 3, pos := "reader.go:57", after := #[{ on := 2, ground := Ground.data }], guard := none }) (v := ?_) rfl (by kernel_rfl) (by kernel_rfl) (by kernel_rfl) (fun _ _ _ h => h) (Or.inl ⟨by rfl, ?_⟩) (by assumption) ?_
  rotate_left
  · (intro w hSw; (try dsimp only at hSw); go_simp); first | done | with_reducible rfl
  simp only [Act.put, List.setIfInBounds_toArray, List.set_cons_zero, List.set_cons_succ]
  refine wpAnyH_take (i := 4) (oi := { dst := some 10, op := Op.fieldAddr 102 (Operand.tmp 2) 0, type := 0, pos := "reader.go:57", after := #[], guard := none }) (v := ?_) rfl (by kernel_rfl) (by kernel_rfl) (by kernel_rfl) (fun _ _ _ h => h) (Or.inl ⟨by rfl, ?_⟩) (by assumption) ?_
  rotate_left
  · (intro w hSw; (try dsimp only at hSw); go_simp); first | done | with_reducible rfl
  simp only [Act.put, List.setIfInBounds_toArray, List.set_cons_zero, List.set_cons_succ]
  refine wpAnyH_take (i := 5) (oi := { dst := some 11, op := Op.load 47 (Operand.tmp 10), type := 47, pos := "reader.go:57", after := #[{ on := 4, ground := Ground.data }], guard := none }) (v := ?_) rfl (by kernel_rfl) (by kernel_rfl) (by kernel_rfl) (fun _ _ _ h => h) (Or.inl ⟨by rfl, ?_⟩) (by assumption) ?_
  rotate_left
  · (intro w hSw; (try dsimp only at hSw); go_simp); first | done | with_reducible rfl
  simp only [Act.put, List.setIfInBounds_toArray, List.set_cons_zero, List.set_cons_succ]
  refine wpAnyH_take (i := 6) (oi := { dst := some 12, op := Op.move (Operand.tmp 1), type := 85, pos := "reader.go:57", after := #[], guard := none }) (v := ?_) rfl (by kernel_rfl) (by kernel_rfl) (by kernel_rfl) (fun _ _ _ h => h) (Or.inl ⟨by rfl, ?_⟩) (by assumption) ?_
  rotate_left
  · (intro w hSw; (try dsimp only at hSw); go_simp); first | done | with_reducible rfl
  simp only [Act.put, List.setIfInBounds_toArray, List.set_cons_zero, List.set_cons_succ]
  refine wpAnyH_take (i := 7) (oi := { dst := some 13, op := Op.nilCheck (Operand.tmp 12), type := 0, pos := "reader.go:57", after := #[{ on := 6, ground := Ground.data }], guard := none }) (v := ?_) rfl (by kernel_rfl) (by kernel_rfl) (by kernel_rfl) (fun _ _ _ h => h) (Or.inl ⟨by rfl, ?_⟩) (by assumption) ?_
  rotate_left
  · (intro w hSw; (try dsimp only at hSw); go_simp); first | done | with_reducible rfl
  simp only [Act.put, List.setIfInBounds_toArray, List.set_cons_zero, List.set_cons_succ]
  refine wpAnyH_take (i := 8) (oi := { dst := some 14, op := Op.fieldAddr 115 (Operand.tmp 13) 1, type := 0, pos := "reader.go:57", after := #[{ on := 7, ground := Ground.data }], guard := none }) (v := ?_) rfl (by kernel_rfl) (by kernel_rfl) (by kernel_rfl) (fun _ _ _ h => h) (Or.inl ⟨by rfl, ?_⟩) (by assumption) ?_
  rotate_left
  · (intro w hSw; (try dsimp only at hSw); go_simp); first | done | with_reducible rfl
  simp only [Act.put, List.setIfInBounds_toArray, List.set_cons_zero, List.set_cons_succ]
  refine wpAnyH_take (i := 9) (oi := { dst := some 15, op := Op.load 3 (Operand.tmp 14), type := 3, pos := "reader.go:57", after := #[{ on := 8, ground := Ground.data }], guard := none }) (v := ?_) rfl (by kernel_rfl) (by kernel_rfl) (by kernel_rfl) (fun _ _ _ h => h) (Or.inl ⟨by rfl, ?_⟩) (by assumption) ?_
  rotate_left
  · (intro w hSw; (try dsimp only at hSw); go_simp); first | done | with_reducible rfl
  simp only [Act.put, List.setIfInBounds_toArray, List.set_cons_zero, List.set_cons_succ]
  refine wpAnyH_take (i := 10) (oi := { dst := some 16, op := Op.binOp BinOp.sub 3 (Operand.const (Value.int IntKind.i64 15)) (Operand.tmp 15) 3, type := 3, pos := "reader.go:57", after := #[{ on := 9, ground := Ground.data }], guard := none }) (v := ?_) rfl (by kernel_rfl) (by kernel_rfl) (by kernel_rfl) (fun _ _ _ h => h) (Or.inl ⟨by rfl, ?_⟩) (by assumption) ?_
  rotate_left
  · (intro w hSw; (try dsimp only at hSw); go_simp); first | done | with_reducible rfl
  simp only [Act.put, List.setIfInBounds_toArray, List.set_cons_zero, List.set_cons_succ]
  refine wpAnyH_ready (rs := [11]) (by kernel_rfl) (by simp) ?_
  refine AllReadyH.cons rfl (fun K hK => ?_) ?_
  rotate_left
  · exact AllReadyH.nil
  go_simp
  go_wp2_with fail
  refine (num_p (HR.out.below (U.below_drew1 W1)) m1).mono ?_
  rintro e W2 (⟨hn, rfl, hg⟩ | ⟨v, Z1, hs, rfl, R2, K2⟩)
  · have HF : Hid (PlP w W2 g B (plG gap T r0 Z) (.panicked (U.ups g))) := .inl ⟨by unfold plG; rw [HM1.out, hn], rfl, GaveE.pre HK.out (GaveE.pre (U.Kg.of_below (U.below_drew1 W1)) hg)⟩
    clear hn hg
    go_wp2_with fail
    exact ⟨rfl, HF.out⟩
  have HK2 : Hid (U.Kg W1 W2 g) := (U.Kg.of_below (U.below_drew1 W1)).trans K2
  have HR2 := hide R2
  have hvm := pNum_le hs
  obtain ⟨kk, hk16, hkk, hwv⟩ := HWZ.out v hvm
  have HKK := hide hkk
  have HK16 := hide hk16
  have HS1 := hide hs
  refine hK.out _ _ (⟨(HC.out _ (HK2.out)).1, (HC.out _ (HK2.out)).2.c1⟩) (fun hHeld => ?_)
  clear hK K hs R2 K2 hkk hvm hk16
  refine wpAnyH_take (i := 12) (oi := { dst := some 18, op := Op.binOp BinOp.add 3 (Operand.tmp 9) (Operand.tmp 17) 3, type := 3, pos := "reader.go:57", after := #[{ on := 3, ground := Ground.data }, { on := 11, ground := Ground.data }], guard := none }) (v := ?_) rfl (by kernel_rfl) (by kernel_rfl) (by kernel_rfl) (fun _ _ _ h => h) (Or.inl ⟨by rfl, ?_⟩) (by assumption) ?_
  rotate_left
  · (intro w hSw; (try dsimp only at hSw); go_simp); first | done | with_reducible rfl
  simp only [Act.put, List.setIfInBounds_toArray, List.set_cons_zero, List.set_cons_succ]
  refine wpAnyH_take (i := 13) (oi := { dst := some 4, op := Op.assign (Operand.tmp 18), type := 3, pos := "reader.go:57", after := #[{ on := 12, ground := Ground.data }, { on := 11, ground := Ground.chain }, { on := 0, ground := Ground.phase }, { on := 1, ground := Ground.phase }, { on := 2, ground := Ground.phase }, { on := 3, ground := Ground.phase }, { on := 4, ground := Ground.phase }, { on := 5, ground := Ground.phase }, { on := 6, ground := Ground.phase }, { on := 7, ground := Ground.phase }, { on := 8, ground := Ground.phase }, { on := 9, ground := Ground.phase }, { on := 10, ground := Ground.phase }, { on := 11, ground := Ground.phase }, { on := 12, ground := Ground.phase }], guard := none }) (v := ?_) rfl (by kernel_rfl) (by kernel_rfl) (by kernel_rfl) (fun _ _ _ h => h) (Or.inl ⟨by rfl, ?_⟩) (by assumption) ?_
  rotate_left
  · (intro w hSw; (try dsimp only at hSw); go_simp); first | done | with_reducible rfl
  simp only [Act.put, List.setIfInBounds_toArray, List.set_cons_zero, List.set_cons_succ]
  refine wpAnyH_done (by kernel_rfl) ?_ _
  clear hHeld
  have hTk := HTb.out kk
  have hgp := HGp.out
  obtain ⟨tk, htk⟩ : ∃ tk, T kk + gap = tk := ⟨_, rfl⟩
  have HTK := hide htk
  obtain ⟨m2, hm2⟩ : ∃ m2 : Int, 1000000000 - tk = m2 := ⟨_, rfl⟩
  have hw2 : IntKind.i64.wrap (1000000000 - tk) = m2 := by rw [IntKind.wrap_i64]; omega
  have HWY : Hid (∀ v : Nat, (v : Int) ≤ m2 → IntKind.i64.wrap (tk + (v : Int)) = tk + (v : Int)) := fun v hv => by rw [IntKind.wrap_i64]; omega
  have HM2 := hide hm2
  clear htk hm2 hTk hgp
  go_wp2_with fail
  refine wp_region_held_drew (S := fun v => v.cell? ⟨b2, 0, none⟩ = some (U.ptr g) ∧ v.cell? ⟨gt, 1, none⟩ = some (.int .i64 r0)) (by kernel_rfl) (⟨(HC.out _ ((HK2.out.trans (U.Kg.of_below (U.below_drew1 W2))))).1, (HC.out _ ((HK2.out.trans (U.Kg.of_below (U.below_drew1 W2))))).2.c1⟩) (fun hHeld => ?_)
  refine wpAnyH_take (i := 0) (oi := { dst := some 19, op := Op.move (Operand.tmp 1), type := 85, pos := "reader.go:58", after := #[], guard := none }) (v := ?_) rfl (by kernel_rfl) (by kernel_rfl) (by kernel_rfl) (fun _ _ _ h => h) (Or.inl ⟨by rfl, ?_⟩) (by assumption) ?_
  rotate_left
  · (intro w hSw; (try dsimp only at hSw); go_simp); first | done | with_reducible rfl
  simp only [Act.put, List.setIfInBounds_toArray, List.set_cons_zero, List.set_cons_succ]
  refine wpAnyH_take (i := 1) (oi := { dst := some 20, op := Op.move (Operand.tmp 4), type := 3, pos := "reader.go:58", after := #[], guard := none }) (v := ?_) rfl (by kernel_rfl) (by kernel_rfl) (by kernel_rfl) (fun _ _ _ h => h) (Or.inl ⟨by rfl, ?_⟩) (by assumption) ?_
  rotate_left
  · (intro w hSw; (try dsimp only at hSw); go_simp); first | done | with_reducible rfl
  simp only [Act.put, List.setIfInBounds_toArray, List.set_cons_zero, List.set_cons_succ]
  refine wpAnyH_take (i := 3) (oi := { dst := some 22, op := Op.fieldAddr 102 (Operand.tmp 2) 0, type := 0, pos := "reader.go:58", after := #[], guard := none }) (v := ?_) rfl (by kernel_rfl) (by kernel_rfl) (by kernel_rfl) (fun _ _ _ h => h) (Or.inl ⟨by rfl, ?_⟩) (by assumption) ?_
  rotate_left
  · (intro w hSw; (try dsimp only at hSw); go_simp); first | done | with_reducible rfl
  simp only [Act.put, List.setIfInBounds_toArray, List.set_cons_zero, List.set_cons_succ]
  refine wpAnyH_take (i := 4) (oi := { dst := some 23, op := Op.load 47 (Operand.tmp 22), type := 47, pos := "reader.go:58", after := #[{ on := 3, ground := Ground.data }], guard := none }) (v := ?_) rfl (by kernel_rfl) (by kernel_rfl) (by kernel_rfl) (fun _ _ _ h => h) (Or.inl ⟨by rfl, ?_⟩) (by assumption) ?_
  rotate_left
  · (intro w hSw; (try dsimp only at hSw); go_simp); first | done | with_reducible rfl
  simp only [Act.put, List.setIfInBounds_toArray, List.set_cons_zero, List.set_cons_succ]
  refine wpAnyH_take (i := 5) (oi := { dst := some 24, op := Op.move (Operand.tmp 1), type := 85, pos := "reader.go:58", after := #[], guard := none }) (v := ?_) rfl (by kernel_rfl) (by kernel_rfl) (by kernel_rfl) (fun _ _ _ h => h) (Or.inl ⟨by rfl, ?_⟩) (by assumption) ?_
  rotate_left
  · (intro w hSw; (try dsimp only at hSw); go_simp); first | done | with_reducible rfl
  simp only [Act.put, List.setIfInBounds_toArray, List.set_cons_zero, List.set_cons_succ]
  refine wpAnyH_take (i := 6) (oi := { dst := some 25, op := Op.move (Operand.tmp 4), type := 3, pos := "reader.go:58", after := #[], guard := none }) (v := ?_) rfl (by kernel_rfl) (by kernel_rfl) (by kernel_rfl) (fun _ _ _ h => h) (Or.inl ⟨by rfl, ?_⟩) (by assumption) ?_
  rotate_left
  · (intro w hSw; (try dsimp only at hSw); go_simp); first | done | with_reducible rfl
  simp only [Act.put, List.setIfInBounds_toArray, List.set_cons_zero, List.set_cons_succ]
  refine wpAnyH_ready (rs := [2]) (by kernel_rfl) (by simp) ?_
  refine AllReadyH.cons rfl (fun K hK => ?_) ?_
  rotate_left
  · exact AllReadyH.nil
  go_simp
  go_wp2_with fail
  refine (least_any (HC.out _ (HK2.out.trans (U.Kg.of_below (U.below_drew1 W2)))).2 kk HK16.out (by have := HGp.out; omega) (HTb.out kk)).mono ?_
  rintro e W3 ⟨rfl, b3⟩
  rw [HTK.out]
  have HK3 : Hid (U.Kg W1 W3 g) := (HK2.out.trans (U.Kg.of_below (U.below_drew1 W2))).trans (U.Kg.of_below b3)
  have HR3 := hide ((HR2.out.below (U.below_drew1 W2)).below b3)
  refine hK.out _ _ (⟨(HC.out _ (HK3.out)).1, (HC.out _ (HK3.out)).2.c1⟩) (fun hHeld => ?_)
  clear hK K b3
  refine wpAnyH_ready (rs := [7]) (by kernel_rfl) (by simp) ?_
  refine AllReadyH.cons rfl (fun K hK => ?_) ?_
  rotate_left
  · exact AllReadyH.nil
  go_simp
  go_wp2_with fail
  refine (least_any (HC.out _ HK3.out).2 kk HK16.out (by have := HGp.out; omega) (HTb.out kk)).mono ?_
  rintro e W4 ⟨rfl, b4⟩
  rw [HTK.out]
  have HK4 : Hid (U.Kg W1 W4 g) := HK3.out.trans (U.Kg.of_below b4)
  have HR4 := hide (HR3.out.below b4)
  refine hK.out _ _ (⟨(HC.out _ (HK4.out)).1, (HC.out _ (HK4.out)).2.c1⟩) (fun hHeld => ?_)
  clear hK K b4
  refine wpAnyH_take (i := 8) (oi := { dst := some 27, op := Op.binOp BinOp.sub 3 (Operand.const (Value.int IntKind.i64 1000000000)) (Operand.tmp 26) 3, type := 3, pos := "reader.go:58", after := #[{ on := 7, ground := Ground.data }], guard := none }) (v := ?_) rfl (by kernel_rfl) (by kernel_rfl) (by kernel_rfl) (fun _ _ _ h => h) (Or.inl ⟨by rfl, ?_⟩) (by assumption) ?_
  rotate_left
  · (intro w hSw; (try dsimp only at hSw); go_simp); first | done | with_reducible rfl
  simp only [Act.put, List.setIfInBounds_toArray, List.set_cons_zero, List.set_cons_succ]
  refine wpAnyH_ready (rs := [9]) (by kernel_rfl) (by simp) ?_
  refine AllReadyH.cons rfl (fun K hK => ?_) ?_
  rotate_left
  · exact AllReadyH.nil
  go_simp
  go_wp2_with fail
  refine (num_p HR4.out m2).mono ?_
  rintro e W5 (⟨hn, rfl, hg⟩ | ⟨u, Z2, hs, rfl, R5, K5⟩)
  · have HF : Hid (PlP w W5 g B (plG gap T r0 Z) (.panicked (U.ups g))) := .inl ⟨by unfold plG; rw [HM1.out, HS1.out]; simp only; rw [HKK.out, Int.toNat_natCast, HTK.out, HM2.out, hn], rfl, GaveE.pre HK.out (GaveE.pre HK4.out hg)⟩
    clear hn hg
    go_wp2_with fail
    exact ⟨rfl, HF.out⟩
  have hwu := HWY.out u (pNum_le hs)
  have HF : Hid (PlP w W5 g B (plG gap T r0 Z) (.returned (.tuple #[.int .i64 (kk : Int), .int .i64 (tk + (u : Int))]))) := .inr ⟨_, _, Z2, by unfold plG; rw [HM1.out, HS1.out]; simp only; rw [HKK.out, Int.toNat_natCast, HTK.out, HM2.out, hs], rfl, R5, HK.out.trans (HK4.out.trans K5)⟩
  refine hK.out _ _ (⟨(HC.out _ (HK4.out.trans K5)).1, (HC.out _ (HK4.out.trans K5)).2.c1⟩) (fun hHeld => ?_)
  clear hK K hs R5 K5
  refine wpAnyH_take (i := 10) (oi := { dst := some 29, op := Op.binOp BinOp.add 3 (Operand.tmp 21) (Operand.tmp 28) 3, type := 3, pos := "reader.go:58", after := #[{ on := 2, ground := Ground.data }, { on := 9, ground := Ground.data }], guard := none }) (v := ?_) rfl (by kernel_rfl) (by kernel_rfl) (by kernel_rfl) (fun _ _ _ h => h) (Or.inl ⟨by rfl, ?_⟩) (by assumption) ?_
  rotate_left
  · (intro w hSw; (try dsimp only at hSw); go_simp); first | done | with_reducible rfl
  simp only [Act.put, List.setIfInBounds_toArray, List.set_cons_zero, List.set_cons_succ]
  refine wpAnyH_take (i := 11) (oi := { dst := some 5, op := Op.assign (Operand.tmp 29), type := 3, pos := "reader.go:58", after := #[{ on := 10, ground := Ground.data }, { on := 9, ground := Ground.chain }, { on := 0, ground := Ground.phase }, { on := 1, ground := Ground.phase }, { on := 2, ground := Ground.phase }, { on := 3, ground := Ground.phase }, { on := 4, ground := Ground.phase }, { on := 5, ground := Ground.phase }, { on := 6, ground := Ground.phase }, { on := 7, ground := Ground.phase }, { on := 8, ground := Ground.phase }, { on := 9, ground := Ground.phase }, { on := 10, ground := Ground.phase }], guard := none }) (v := ?_) rfl (by kernel_rfl) (by kernel_rfl) (by kernel_rfl) (fun _ _ _ h => h) (Or.inl ⟨by rfl, ?_⟩) (by assumption) ?_
  rotate_left
  · (intro w hSw; (try dsimp only at hSw); go_simp); first | done | with_reducible rfl
  simp only [Act.put, List.setIfInBounds_toArray, List.set_cons_zero, List.set_cons_succ]
  refine wpAnyH_done (by kernel_rfl) ?_ _
  clear hHeld
  go_wp2_with fail
  go_ret2
  exact HF.out
theorem rplace_any {gt : Nat} {r0 : Int} {T : Nat → Int} (R : RB w g Z B) (hT : TrB w gt 2 r0 T) (hne : gt ≠ g) (h0 : 0 ≤ r0 ∧ r0 ≤ 15) (hTb : ∀ k, 0 ≤ T k ∧ T k ≤ 1000000000) :
    Calls Tryz.prog 74 #[.agg #[U.ptr g], U.ptr gt] w fun e w' => PlP w w' g B (plF T r0 Z) e := rplaceG_any (gap := 2) ⟨by decide, by decide⟩ R hT hne h0 hTb
end Go.Proofs.YtbmjiedpaffifaaGreat
namespace Go.Proofs.YtbmjiedpaffifaaGreat.I
open Go.RowKit
variable {w w' w2 : World} {g : Nat}
def bcs (L : List Int) : List Value := L.map (Value.int .i64)
theorem bcs_append (L M : List Int) : bcs (L ++ M) = bcs L ++ bcs M := by simp [bcs]
theorem bcs_length (L : List Int) : (bcs L).length = L.length := by simp [bcs]
theorem bcs_one (L : List Int) : ∀ u ∈ bcs L, u.oneCell' = true := by
  intro u hu
  obtain ⟨z, _, rfl⟩ := List.mem_map.1 hu
  rfl
theorem bcs_at (L : List Int) (t : Nat) (ht : t < L.length) : (bcs L)[t]? = some (.int .i64 (L.getD t 0)) := by
  simp [bcs, ht, List.getD]
/-- a row of numbers with its room behind it, at the beginning of a block -/
def BR (w : World) (ao : Option Addr) (n cap : Nat) (Z : List Int) : Prop := w.ownsRow 0 3 1 (.slice ao n cap) n (bcs Z)
theorem BR.len {ao : Option Addr} {n cap : Nat} {Z : List Int} (h : BR w ao n cap Z) : Z.length = n := by
  have := h.1
  rw [bcs_length] at this
  omega
theorem BR.nil (w : World) : BR w none 0 0 [] := World.ownsRow_nil _ _ _ _
theorem infoB : (Tryz.prog.info? 3).map (fun i => (i.zero, i.size, i.bytes)) = some (some (.int .i64 0), 1, 8) := by kernel_rfl
theorem BR.out {n : Nat} {Z : List Int} {v : Value} (h : w.ownsRow 0 3 1 v n (bcs Z)) : ∃ ao cap, v = .slice ao n cap ∧ BR w ao n cap Z := by
  rcases h.2 with ⟨h0, h00⟩ | ⟨q, cap2, cur, hv, r⟩
  · subst h0 h00
    exact ⟨none, 0, rfl, h⟩
  · subst hv
    exact ⟨_, _, rfl, h⟩
/-- an append of bytes that are read at an address -/
theorem BR.app {ao : Option Addr} {n cap : Nat} {Z Y : List Int} (h : BR w ao n cap Z) (ad : Addr) (m c : Nat) (hY : Y.length = m) (hc : ∀ t, t < m → w.cell? (ad.add t) = some (.int .i64 (Y.getD t 0))) (hb : n + m ≤ 17592186044416)
    {ops : Array Oper} {rest : List Oper} {o : Oper} {a : Act} {Q : Exit → Act → World → Prop} (hgd : o.guard = none) (s y : Operand) (ho : o.op = .call { callee := .builtin .append, args := #[s, y], argTypes := #[22, 22] })
    (hs : a.eval s = .slice ao n cap) (hy : a.eval y = .slice (some ad) m c)
    (hK : ∀ (bo : Option Addr) (cap2 : Nat) (w2 : World), BR w2 bo (n + m) cap2 (Z ++ Y) → U.Ap w w2 ao bo → wpList Tryz.prog ops Q rest (a.put o.dst (.slice bo (n + m) cap2)) w2) :
    wpList Tryz.prog ops Q (o :: rest) a w := by
  obtain ⟨i0, hi, hz0, hz1, hz2⟩ := info_parts infoB
  refine wpList_append_own_at _ hgd s y 22 ho 0 3 i0 (.int .i64 0) 1 8 Tryz.underlying22 hi hz0 hz1 hz2 rfl (by decide) _ n (bcs Z) hs h ad m c (bcs Y) hy (by rw [bcs_length, hY, Nat.mul_one]) (fun j u hj => ?_) (bcs_one Y) (by unfold maxLen; omega) (by omega) (Nat.zero_le _) ?_
  · have hl : j < Y.length := by rw [← bcs_length]; exact (List.getElem?_eq_some_iff.1 hj).1
    rw [bcs_at Y j hl] at hj
    rw [hc j (by omega)]
    exact hj
  · intro v' w2 hown hgrow _ hat
    rw [← bcs_append] at hown
    obtain ⟨bo, c2, rfl, hB⟩ := BR.out hown
    rw [U.ownBlock_blk] at hgrow
    rw [U.ownBlock_blk, U.ownBlock_blk] at hat
    refine hK bo c2 w2 hB ⟨hgrow, ?_⟩
    rcases hat with e | e
    · exact Or.inl e
    · exact Or.inr ⟨_, e, Nat.le_refl _⟩
theorem BR.keep {ao : Option Addr} {n cap : Nat} {Z : List Int} (h : BR w ao n cap Z) (hk : ∀ k, U.blk ao = some k → w'.heap[k]? = w.heap[k]?) : BR w' ao n cap Z := by
  refine ⟨h.1, ?_⟩
  rcases h.2 with h0 | ⟨q, cap2, cur, hv, hq, hh, r⟩
  · exact Or.inl h0
  · simp only [Value.slice.injEq, true_and] at hv
    obtain ⟨rfl, rfl⟩ := hv
    exact Or.inr ⟨q, cap, cur, rfl, hq, (hk q rfl).trans hh, r⟩
theorem BR.lt {ao : Option Addr} {n cap : Nat} {Z : List Int} (h : BR w ao n cap Z) (k : Nat) (hk : U.blk ao = some k) : k < w.heap.size := by
  rcases h.2 with h0 | ⟨q, cap2, cur, hv, hq, hh, r⟩
  · simp only [Value.slice.injEq] at h0
    rw [h0.1.1] at hk
    cases hk
  · simp only [Value.slice.injEq, true_and] at hv
    obtain ⟨rfl, rfl⟩ := hv
    have : q = k := Option.some.inj hk
    subst this
    exact (Array.getElem?_eq_some_iff.1 hh).1
theorem BR.new {ao : Option Addr} {n cap : Nat} {Z : List Int} (h : BR w ao n cap Z) (o : Obj) : BR (w.alloc o) ao n cap Z := h.keep fun k hk => Below.heap_alloc w o k (h.lt k hk)
/-- of one byte, laid ahead of it -/
theorem BR.app1 {ao : Option Addr} {n cap : Nat} {Z : List Int} (h : BR w ao n cap Z) (x : Int) (hb : n + 1 ≤ 17592186044416)
    {ops : Array Oper} {rest : List Oper} {o : Oper} {a : Act} {Q : Exit → Act → World → Prop} (hgd : o.guard = none) (s y : Operand) (ho : o.op = .call { callee := .builtin .append, args := #[s, y], argTypes := #[22, 22] })
    (hs : a.eval s = .slice ao n cap) (hy : a.eval y = .slice (some ⟨w.heap.size, 0, none⟩) 1 1)
    (hK : ∀ (bo : Option Addr) (cap2 : Nat) (w2 : World), BR w2 bo (n + 1) cap2 (Z ++ [x]) → U.Ap w w2 ao bo → wpList Tryz.prog ops Q rest (a.put o.dst (.slice bo (n + 1) cap2)) w2) :
    wpList Tryz.prog ops Q (o :: rest) a (w.alloc (.cells #[.int .i64 x] 3)) := by
  refine (h.new (.cells #[.int .i64 x] 3)).app ⟨w.heap.size, 0, none⟩ 1 1 (Y := [x]) rfl (fun t ht => ?_) hb hgd s y ho hs hy fun bo c2 w2 hB hA => hK bo c2 w2 hB ((U.Ap.new w _ ao).trans hA)
  obtain rfl : t = 0 := by omega
  exact cell_one_new w _ _ 0 _ rfl

/-- read as a source -/
theorem BR.at {ao : Option Addr} {n cap : Nat} {Z : List Int} (h : BR w ao n cap Z) : (ao = none → n = 0 ∧ cap = 0) ∧ ∀ ad, ao = some ad → ∀ t, t < n → w.cell? (ad.add t) = some (.int .i64 (Z.getD t 0)) := by
  have hl := h.len
  rcases h.2 with ⟨h0, h00⟩ | ⟨q, cap2, cur, hv, r⟩
  · simp only [Value.slice.injEq] at h0
    obtain ⟨rfl, e0, rfl⟩ := h0
    exact ⟨fun _ => ⟨h00, rfl⟩, fun ad h => by cases h⟩
  · simp only [Value.slice.injEq, true_and] at hv
    obtain ⟨rfl, rfl⟩ := hv
    refine ⟨fun h => (by cases h), fun ad e t ht => ?_⟩
    obtain rfl := Option.some.inj e
    rw [Addr.add_lit, Nat.zero_add, World.ownsRow.cellAt (show w.ownsRow 0 3 1 (.slice (some ⟨q, 0, none⟩) n cap) n (bcs Z) from h) t (by omega), bcs_at Z t (by omega)]
end Go.Proofs.YtbmjiedpaffifaaGreat.I
namespace Go.Proofs.YtbmjiedpaffifaaGreat.J
open Go.RowKit
variable {w w' w2 : World} {g : Nat}
def BR (w : World) (ao : Option Addr) (n cap : Nat) (Z : List Sn) : Prop := w.ownsRow 0 62 3 (.slice ao n cap) n (scs Z)
theorem scs_len3 (Z : List Sn) : (scs Z).length = Z.length * 3 := by induction Z with
  | nil => rfl
  | cons a t ih => simp [scs, SC] at ih ⊢; omega
theorem BR.len {ao : Option Addr} {n cap : Nat} {Z : List Sn} (h : BR w ao n cap Z) : Z.length = n := by
  have := h.1
  rw [scs_len3] at this
  omega
theorem BR.nil (w : World) : BR w none 0 0 [] := World.ownsRow_nil _ _ _ _
theorem BR.out {n : Nat} {Z : List Sn} {v : Value} (h : w.ownsRow 0 62 3 v n (scs Z)) : ∃ ao cap, v = .slice ao n cap ∧ BR w ao n cap Z := by
  rcases h.2 with ⟨h0, h00⟩ | ⟨q, cap2, cur, hv, r⟩
  · subst h0 h00
    exact ⟨none, 0, rfl, h⟩
  · subst hv
    exact ⟨_, _, rfl, h⟩
theorem BR.keep {ao : Option Addr} {n cap : Nat} {Z : List Sn} (h : BR w ao n cap Z) (hk : ∀ k, U.blk ao = some k → w'.heap[k]? = w.heap[k]?) : BR w' ao n cap Z := by
  refine ⟨h.1, ?_⟩
  rcases h.2 with h0 | ⟨q, cap2, cur, hv, hq, hh, r⟩
  · exact Or.inl h0
  · simp only [Value.slice.injEq, true_and] at hv
    obtain ⟨rfl, rfl⟩ := hv
    exact Or.inr ⟨q, cap, cur, rfl, hq, (hk q rfl).trans hh, r⟩
theorem BR.lt {ao : Option Addr} {n cap : Nat} {Z : List Sn} (h : BR w ao n cap Z) (k : Nat) (hk : U.blk ao = some k) : k < w.heap.size := by
  rcases h.2 with h0 | ⟨q, cap2, cur, hv, hq, hh, r⟩
  · simp only [Value.slice.injEq] at h0
    rw [h0.1.1] at hk
    cases hk
  · simp only [Value.slice.injEq, true_and] at hv
    obtain ⟨rfl, rfl⟩ := hv
    have : q = k := Option.some.inj hk
    subst this
    exact (Array.getElem?_eq_some_iff.1 hh).1
theorem BR.new {ao : Option Addr} {n cap : Nat} {Z : List Sn} (h : BR w ao n cap Z) (o : Obj) : BR (w.alloc o) ao n cap Z := h.keep fun k hk => Below.heap_alloc w o k (h.lt k hk)
/-- an append of one span, laid ahead of it -/
theorem BR.app1 {ao : Option Addr} {n cap : Nat} {Z : List Sn} (h : BR w ao n cap Z) (e : Sn) (C : Array Value) (hC : C = SC e) (hb : n + 1 ≤ 5864062014805)
    {ops : Array Oper} {rest : List Oper} {o : Oper} {a : Act} {Q : Exit → Act → World → Prop} (hgd : o.guard = none) (s y : Operand) (ho : o.op = .call { callee := .builtin .append, args := #[s, y], argTypes := #[23, 23] })
    (hs : a.eval s = .slice ao n cap) (hy : a.eval y = .slice (some ⟨w.heap.size, 0, none⟩) 1 1)
    (hK : ∀ (bo : Option Addr) (cap2 : Nat) (w2 : World), BR w2 bo (n + 1) cap2 (Z ++ [e]) → U.Ap w w2 ao bo → wpList Tryz.prog ops Q rest (a.put o.dst (.slice bo (n + 1) cap2)) w2) :
    wpList Tryz.prog ops Q (o :: rest) a (w.alloc (.cells C 62)) := by
  subst hC
  obtain ⟨i0, hi, hz0, hz1, hz2⟩ := info_parts infoS3
  refine wpList_append_own_at _ hgd s y 23 ho 0 62 i0 (.agg #[.int .i64 0, .int .i64 0, .int .i64 0]) 3 24 Tryz.underlying23 hi hz0 hz1 hz2 rfl (by decide) _ n (scs Z) hs (h.new _) ⟨w.heap.size, 0, none⟩ 1 1 (SC e).toList hy (by simp [SC]) ?_ ?_ (by unfold maxLen; omega) (by omega) (Nat.zero_le _) ?_
  · intro j u hj
    rw [Addr.add_lit, Nat.zero_add, World.cell?_alloc_new]
    simpa using hj
  · intro u hu
    exact SC_one e u hu
  · intro v' w2 hown hgrow _ hat
    have e1 : scs Z ++ (SC e).toList = scs (Z ++ [e]) := by rw [scs_append, scs_one]
    rw [e1] at hown
    obtain ⟨bo, c2, rfl, hB⟩ := BR.out hown
    rw [U.ownBlock_blk] at hgrow
    rw [U.ownBlock_blk, U.ownBlock_blk] at hat
    refine hK bo c2 w2 hB ((U.Ap.new w _ ao).trans ⟨hgrow, ?_⟩)
    rcases hat with x | x
    · exact Or.inl x
    · exact Or.inr ⟨_, x, Nat.le_refl _⟩
/-- read as a source -/
theorem BR.src {ao : Option Addr} {n cap : Nat} {Z : List Sn} (h : BR w ao n cap Z) (hb : n ≤ 5864062014805) : SSrc w ao n cap Z := by
  have hl := h.len
  subst hl
  exact (OwnS.src (B0 := 0) (B := 0) (w := w) ⟨h, Below.refl _ _, Nat.zero_le _, Nat.le_refl _⟩ hb).1
end Go.Proofs.YtbmjiedpaffifaaGreat.J
namespace Go.Proofs.YtbmjiedpaffifaaGreat
open Go.RowKit
variable {w w' w2 W W' W2 w0 : World} {g b3 : Nat} {Z : List Int} {B : Option Nat}

theorem I.BR.runs1 {ao : Option Addr} {n cap : Nat} {Z : List Int} (h : I.BR w ao n cap Z) (x : Int) (hb : n + 1 ≤ 17592186044316) (ty : TypeId) :
    ∃ bo c2 w2, (Builtin.append_ #[22, 22] ty #[.slice ao n cap, .slice (some ⟨w.heap.size, 0, none⟩) 1 1]).run Tryz.prog (w.alloc (.cells #[.int .i64 x] 3)) = .ok (.slice bo (n + 1) c2) w2 ∧ I.BR w2 bo (n + 1) c2 (Z ++ [x]) ∧ U.Ap w w2 ao bo := by
  obtain ⟨i0, hi, hz0, hz1, hz2⟩ := info_parts I.infoB
  have hk := h.new (.cells #[.int .i64 x] 3)
  obtain ⟨v', w2, hrun, hown, hgrow, hnil, hat⟩ := run_append_own_at (P := Tryz.prog) (w.alloc (.cells #[.int .i64 x] 3)) 0 22 ty 3 i0 (.int .i64 0) 1 8 Tryz.underlying22 hi hz0 hz1 hz2 rfl (by decide) (.slice ao n cap) n (I.bcs Z) hk ⟨w.heap.size, 0, none⟩ 1 1 (I.bcs [x]) rfl (fun j u hj => by
    have hl : j < 1 := (List.getElem?_eq_some_iff.1 hj).1
    obtain rfl : j = 0 := by omega
    rw [cell_one_new w _ _ 0 _ rfl]
    exact hj) (I.bcs_one [x]) (by unfold maxLen; omega) (by omega) (Nat.zero_le _)
  rw [← I.bcs_append] at hown
  obtain ⟨bo, c2, rfl, hP⟩ := I.BR.out hown
  rw [U.ownBlock_blk] at hgrow
  rw [U.ownBlock_blk, U.ownBlock_blk] at hat
  refine ⟨bo, c2, w2, hrun, hP, (U.Ap.new w _ ao).trans ⟨hgrow, ?_⟩⟩
  rcases hat with e | e
  · exact Or.inl e
  · exact Or.inr ⟨_, e, Nat.le_refl _⟩
/-- append as an operation that comes up -/
theorem step_appI {ops : Array Oper} {o : Oper} {a : Act} {K : Act → World → Prop} {Q : Exit → Act → World → Prop} {E : Prop} {v1 v2 v' : Value} (hgd : o.guard = none) (s x : Operand) (ho : o.op = .call { callee := .builtin .append, args := #[s, x], argTypes := #[22, 22] })
    (hs : a.eval s = v1) (hx : a.eval x = v2) (hrun : (Builtin.append_ #[22, 22] o.type #[v1, v2]).run Tryz.prog W = .ok v' w2) (hK : K (a.put o.dst v') w2) :
    if Region.wanted o (yielded ops a.tmps) = true then Oper.wp Tryz.prog o a W K Q else E := by
  have hw : Region.wanted o (yielded ops a.tmps) = true := by simp [Region.wanted, hgd]
  rw [if_pos hw]
  unfold Oper.wp
  simp [execOp, ho, resolve, invoke, builtin, hs, hx, hrun, Result.andThen]
  exact hK
theorem RB.keep (R : RB W g Z B) (hg : W'.heap[g]? = W.heap[g]?) (hB : ∀ k, B = some k → W'.heap[k]? = W.heap[k]?) : RB W' g Z B := by
  obtain ⟨ro, rn, rc, R, e⟩ := R
  refine ⟨ro, rn, rc, ⟨hg.trans R.r, ⟨R.s.1, R.s.2.1, fun ad ea t ht => ?_, R.s.2.2.2⟩, R.cap, R.big, R.ne⟩, e⟩
  rw [World.cell?_of_block (w := W) (by rw [U.block_of_add]; exact hB _ (by rw [← e (fun ez => by have := R.s.1; rw [ez] at this; simp at this; omega), ea]; rfl))]
  exact R.s.2.2.1 ad ea t ht
/-- a reader, a past that grows (its box, its two rows) and blocks that are kept, all of them new -/
structure RP (w0 W : World) (g : Nat) (Z : List Int) (B : Option Nat) (b3 : Nat) (vo : Option Addr) (vn vc : Nat) (V : List Int) (co : Option Addr) (cn cc : Nat) (C : List Sn) (F : List (Nat × Obj)) : Prop where
  r : RB W g Z B
  gl : g < w0.heap.size
  bl : ∀ k, B = some k → k < w0.heap.size
  k : U.Kg w0 W g
  box : W.heap[b3]? = some (.cells #[.slice vo vn vc, .slice co cn cc] 25 (0, 0))
  b3n : w0.heap.size ≤ b3
  v : I.BR W vo vn vc V
  c : J.BR W co cn cc C
  vnew : ∀ k, U.blk vo = some k → w0.heap.size ≤ k ∧ k ≠ b3 ∧ ∀ x ∈ F, x.1 ≠ k
  cnew : ∀ k, U.blk co = some k → w0.heap.size ≤ k ∧ k ≠ b3 ∧ U.blk vo ≠ some k ∧ ∀ x ∈ F, x.1 ≠ k
  keep : ∀ x ∈ F, W.heap[x.1]? = some x.2 ∧ w0.heap.size ≤ x.1 ∧ x.1 ≠ b3
variable {vo co : Option Addr} {vn vc cn cc : Nat} {V : List Int} {C : List Sn} {F : List (Nat × Obj)}
theorem some_lt {W : World} {k : Nat} {o : Obj} (h : W.heap[k]? = some o) : k < W.heap.size := (Array.getElem?_eq_some_iff.1 h).1
/-- the reader went on -/
theorem RP.num (h : RP w0 W g Z B b3 vo vn vc V co cn cc C F) (K : U.Kg W W' g) {Z' : List Int} (R : RB W' g Z' B) : RP w0 W' g Z' B b3 vo vn vc V co cn cc C F := by
  have hg := h.gl
  have hb := h.b3n
  refine ⟨R, h.gl, h.bl, h.k.trans K, (K.block b3 (some_lt h.box) (by omega)).trans h.box, h.b3n, h.v.keep fun k e => K.block k (h.v.lt k e) (by have := (h.vnew k e).1; omega), h.c.keep fun k e => K.block k (h.c.lt k e) (by have := (h.cnew k e).1; omega), h.vnew, h.cnew, fun x hx => ?_⟩
  obtain ⟨k1, k2, k3⟩ := h.keep x hx
  exact ⟨(K.block x.1 (some_lt k1) (by omega)).trans k1, k2, k3⟩
theorem RP.below (h : RP w0 W g Z B b3 vo vn vc V co cn cc C F) (b : Below W.heap.size W W') : RP w0 W' g Z B b3 vo vn vc V co cn cc C F := h.num (U.Kg.of_below b) (h.r.below b)
/-- a new block is kept too -/
theorem RP.add (h : RP w0 W g Z B b3 vo vn vc V co cn cc C F) (b : Below W.heap.size W W') {q : Nat} {o : Obj} (hq : W.heap.size ≤ q) (ho : W'.heap[q]? = some o) : RP w0 W' g Z B b3 vo vn vc V co cn cc C ((q, o) :: F) := by
  have h2 := h.below b
  have hs := h.k.size
  have h3 := some_lt h.box
  refine ⟨h2.r, h2.gl, h2.bl, h2.k, h2.box, h2.b3n, h2.v, h2.c, fun k e => ⟨(h.vnew k e).1, (h.vnew k e).2.1, fun x hx => ?_⟩, fun k e => ⟨(h.cnew k e).1, (h.cnew k e).2.1, (h.cnew k e).2.2.1, fun x hx => ?_⟩, fun x hx => ?_⟩
  · rcases List.mem_cons.1 hx with rfl | hx
    · have := h.v.lt k e; show q ≠ k; omega
    · exact (h.vnew k e).2.2 x hx
  · rcases List.mem_cons.1 hx with rfl | hx
    · have := h.c.lt k e; show q ≠ k; omega
    · exact (h.cnew k e).2.2.2 x hx
  · rcases List.mem_cons.1 hx with rfl | hx
    · exact ⟨ho, by show _ ≤ q; omega, by show q ≠ b3; omega⟩
    · exact h2.keep x hx
/-- one of the kept blocks was written -/
theorem RP.turn (h : RP w0 W g Z B b3 vo vn vc V co cn cc C F) {q : Nat} {o1 o2 : Obj} (h1 : (q, o1) ∈ F) (K : U.Kg W W' q) (h2 : W'.heap[q]? = some o2) {F' : List (Nat × Obj)} (hF : ∀ x ∈ F', x = (q, o2) ∨ (x ∈ F ∧ x.1 ≠ q)) : RP w0 W' g Z B b3 vo vn vc V co cn cc C F' := by
  obtain ⟨q1, q2, q3⟩ := h.keep _ h1
  have hg := h.gl
  have hk := h.k
  have e1 : ∀ k, k < W.heap.size → k ≠ q → W'.heap[k]? = W.heap[k]? := fun k hk hn => K.block k hk hn
  have hin : ∀ x ∈ F', ∃ y ∈ F, y.1 = x.1 := fun x hx => by
    rcases hF x hx with rfl | ⟨hx, _⟩
    · exact ⟨_, h1, rfl⟩
    · exact ⟨x, hx, rfl⟩
  simp only at q1 q2 q3
  refine ⟨h.r.keep (e1 g h.r.lt (by omega)) (fun k e => ?_), h.gl, h.bl, ⟨K.os.trans hk.os, K.tape.trans hk.tape, K.output.trans hk.output, Nat.le_trans hk.size K.size, fun k hk1 hn => (e1 k (Nat.lt_of_lt_of_le hk1 hk.size) (by omega)).trans (hk.block k hk1 hn)⟩, (e1 b3 (some_lt h.box) (fun e => q3 e.symm)).trans h.box, h.b3n, h.v.keep fun k e => e1 k (h.v.lt k e) (fun x => (h.vnew k e).2.2 _ h1 x.symm), h.c.keep fun k e => e1 k (h.c.lt k e) (fun x => (h.cnew k e).2.2.2 _ h1 x.symm), fun k e => ⟨(h.vnew k e).1, (h.vnew k e).2.1, fun x hx => ?_⟩, fun k e => ⟨(h.cnew k e).1, (h.cnew k e).2.1, (h.cnew k e).2.2.1, fun x hx => ?_⟩, fun x hx => ?_⟩
  · have := h.bl k e
    have := hk.size
    exact e1 k (by omega) (by omega)
  · obtain ⟨y, hy, ey⟩ := hin x hx; rw [← ey]; exact (h.vnew k e).2.2 y hy
  · obtain ⟨y, hy, ey⟩ := hin x hx; rw [← ey]; exact (h.cnew k e).2.2.2 y hy
  · rcases hF x hx with rfl | ⟨hx, hn⟩
    · exact ⟨h2, q2, q3⟩
    · obtain ⟨k1, k2, k3⟩ := h.keep x hx
      exact ⟨(e1 x.1 (some_lt k1) hn).trans k1, k2, k3⟩
/-- the places grew, and are stored -/
theorem RP.appV (h : RP w0 W g Z B b3 vo vn vc V co cn cc C F) {bo : Option Addr} {n2 c2 : Nat} {V2 : List Int} (A : U.Ap W W2 vo bo) (h2 : I.BR W2 bo n2 c2 V2) : RP w0 (W2.setCell ⟨b3, 0, none⟩ (.slice bo n2 c2)) g Z B b3 bo n2 c2 V2 co cn cc C F := by
  have hg := h.gl
  have hb := h.b3n
  have hk := h.k
  have hsz := A.grown.size
  have hvo : ∀ k, k < W.heap.size → U.blk vo ≠ some k → W2.heap[k]? = W.heap[k]? := fun k hk hn => A.grown.block k hk (fun e => hn e.symm)
  have nb3 : U.blk vo ≠ some b3 := fun e => (h.vnew b3 e).2.1 rfl
  have nlow : ∀ k, k < w0.heap.size → U.blk vo ≠ some k := fun k hk e => by have := (h.vnew k e).1; omega
  have e1 : ∀ k, k < W.heap.size → k ≠ b3 → U.blk vo ≠ some k → (W2.setCell ⟨b3, 0, none⟩ (.slice bo n2 c2)).heap[k]? = W.heap[k]? := fun k hk h3 hn => (U.set_other W2 b3 0 k _ h3).trans (hvo k hk hn)
  have hbo : ∀ k, U.blk bo = some k → U.blk vo = some k ∨ W.heap.size ≤ k := fun k e => by
    rcases A.lies with x | ⟨j, x, hj⟩
    · exact .inl (x ▸ e)
    · rw [x] at e; exact .inr (by have := Option.some.inj e; omega)
  have hbox : W2.heap[b3]? = some (.cells #[.slice vo vn vc, .slice co cn cc] 25 (0, 0)) := (hvo b3 (some_lt h.box) nb3).trans h.box
  have hb3 := some_lt h.box
  have bne : ∀ k, U.blk bo = some k → k ≠ b3 := fun k e e3 => by
    rcases hbo k e with x | x
    · exact nb3 (e3 ▸ x)
    · omega
  refine ⟨h.r.keep (e1 g h.r.lt (by omega) (nlow g hg)) (fun k e => ?_), h.gl, h.bl, ⟨?_, ?_, ?_, ?_, fun k hk1 hn => ?_⟩, U.set_heap W2 b3 _ _ _ 0 _ hbox, h.b3n, h2.keep fun k e => U.set_other W2 b3 0 k _ (bne k e), h.c.keep fun k e => e1 k (h.c.lt k e) (h.cnew k e).2.1 (h.cnew k e).2.2.1, fun k e => ⟨?_, bne k e, fun x hx => ?_⟩, fun k e => ⟨(h.cnew k e).1, (h.cnew k e).2.1, fun e2 => ?_, (h.cnew k e).2.2.2⟩, fun x hx => ?_⟩
  · have := h.bl k e
    have := hk.size
    exact e1 k (by omega) (by omega) (nlow k (h.bl k e))
  · rw [U.setCell_os]; exact A.grown.os.trans hk.os
  · rw [U.setCell_tape]; exact A.grown.tape.trans hk.tape
  · rw [U.setCell_output]; exact A.grown.output.trans hk.output
  · rw [U.set_size]; exact Nat.le_trans hk.size hsz
  · exact (e1 k (Nat.lt_of_lt_of_le hk1 hk.size) (by omega) (nlow k hk1)).trans (hk.block k hk1 hn)
  · rcases hbo k e with x | x
    · exact (h.vnew k x).1
    · have := hk.size; omega
  · rcases hbo k e with y | y
    · exact (h.vnew k y).2.2 x hx
    · have := some_lt (h.keep x hx).1; omega
  · rcases hbo k e2 with y | y
    · exact (h.cnew k e).2.2.1 y
    · have := h.c.lt k e; omega
  · obtain ⟨k1, k2, k3⟩ := h.keep x hx
    exact ⟨(e1 x.1 (some_lt k1) k3 (fun e => (h.vnew _ e).2.2 x hx rfl)).trans k1, k2, k3⟩
/-- the spans grew, and are stored -/
theorem RP.appC (h : RP w0 W g Z B b3 vo vn vc V co cn cc C F) {bo : Option Addr} {n2 c2 : Nat} {C2 : List Sn} (A : U.Ap W W2 co bo) (h2 : J.BR W2 bo n2 c2 C2) : RP w0 (W2.setCell ⟨b3, 1, none⟩ (.slice bo n2 c2)) g Z B b3 vo vn vc V bo n2 c2 C2 F := by
  have hg := h.gl
  have hb := h.b3n
  have hk := h.k
  have hsz := A.grown.size
  have hvo : ∀ k, k < W.heap.size → U.blk co ≠ some k → W2.heap[k]? = W.heap[k]? := fun k hk hn => A.grown.block k hk (fun e => hn e.symm)
  have nb3 : U.blk co ≠ some b3 := fun e => (h.cnew b3 e).2.1 rfl
  have nlow : ∀ k, k < w0.heap.size → U.blk co ≠ some k := fun k hk e => by have := (h.cnew k e).1; omega
  have e1 : ∀ k, k < W.heap.size → k ≠ b3 → U.blk co ≠ some k → (W2.setCell ⟨b3, 1, none⟩ (.slice bo n2 c2)).heap[k]? = W.heap[k]? := fun k hk h3 hn => (U.set_other W2 b3 1 k _ h3).trans (hvo k hk hn)
  have hbo : ∀ k, U.blk bo = some k → U.blk co = some k ∨ W.heap.size ≤ k := fun k e => by
    rcases A.lies with x | ⟨j, x, hj⟩
    · exact .inl (x ▸ e)
    · rw [x] at e; exact .inr (by have := Option.some.inj e; omega)
  have hbox : W2.heap[b3]? = some (.cells #[.slice vo vn vc, .slice co cn cc] 25 (0, 0)) := (hvo b3 (some_lt h.box) nb3).trans h.box
  have hb3 := some_lt h.box
  have bne : ∀ k, U.blk bo = some k → k ≠ b3 := fun k e e3 => by
    rcases hbo k e with x | x
    · exact nb3 (e3 ▸ x)
    · omega
  have nvc : ∀ k, U.blk vo = some k → U.blk co ≠ some k := fun k e e2 => (h.cnew k e2).2.2.1 e
  refine ⟨h.r.keep (e1 g h.r.lt (by omega) (nlow g hg)) (fun k e => ?_), h.gl, h.bl, ⟨?_, ?_, ?_, ?_, fun k hk1 hn => ?_⟩, U.set_heap W2 b3 _ _ _ 1 _ hbox, h.b3n, h.v.keep fun k e => e1 k (h.v.lt k e) (h.vnew k e).2.1 (nvc k e), h2.keep fun k e => U.set_other W2 b3 1 k _ (bne k e), h.vnew, fun k e => ⟨?_, bne k e, fun e2 => ?_, fun x hx => ?_⟩, fun x hx => ?_⟩
  · have := h.bl k e
    have := hk.size
    exact e1 k (by omega) (by omega) (nlow k (h.bl k e))
  · rw [U.setCell_os]; exact A.grown.os.trans hk.os
  · rw [U.setCell_tape]; exact A.grown.tape.trans hk.tape
  · rw [U.setCell_output]; exact A.grown.output.trans hk.output
  · rw [U.set_size]; exact Nat.le_trans hk.size hsz
  · exact (e1 k (Nat.lt_of_lt_of_le hk1 hk.size) (by omega) (nlow k hk1)).trans (hk.block k hk1 hn)
  · rcases hbo k e with x | x
    · exact (h.cnew k x).1
    · have := hk.size; omega
  · rcases hbo k e with y | y
    · exact nvc k e2 y
    · have := h.v.lt k e2; omega
  · rcases hbo k e with y | y
    · exact (h.cnew k y).2.2.2 x hx
    · have := some_lt (h.keep x hx).1; omega
  · obtain ⟨k1, k2, k3⟩ := h.keep x hx
    exact ⟨(e1 x.1 (some_lt k1) k3 (fun e => (h.cnew _ e).2.2.2 x hx rfl)).trans k1, k2, k3⟩
end Go.Proofs.YtbmjiedpaffifaaGreat
