/- FRd -/
import Derived.Test.YtnghfnhpjdafmaaBk41
namespace Go.Proofs.Ytnghfnhpjdafmaa
open Go.RowKit
variable {w w' : World} {g : Nat} {Z : List Int} {B : Option Nat}

/-- a reader with these bytes left, in this block -/
def RB (w : World) (g : Nat) (Z : List Int) (B : Option Nat) : Prop := ∃ ro rn rc, U.RL w g ro rn rc Z ∧ (Z ≠ [] → U.blk ro = B)
/-- it gave up -/
def GaveE (w w' : World) (g : Nat) : Prop := ∃ e, e ≠ 0 ∧ U.Gave w w' g e
theorem GaveE.pre {w2 : World} (K : U.Kg w w' g) (h : GaveE w' w2 g) : GaveE w w2 g := by
  obtain ⟨e, he, h1, h2⟩ := h
  exact ⟨e, he, h1, K.trans h2⟩
def NumP (w w' : World) (g : Nat) (B : Option Nat) (o : Option (Nat × List Int)) (r : Ending) : Prop :=
  (o = none ∧ r = .panicked (U.ups g) ∧ GaveE w w' g) ∨ ∃ v Z1, o = some (v, Z1) ∧ r = .returned (.int .i64 (v : Int)) ∧ RB w' g Z1 B ∧ U.Kg w w' g
theorem num_p (R : RB w g Z B) (most : Int) : Calls Try.prog 141 #[U.ptr g, .int .i64 most] w fun r w' => NumP w w' g B (U.pNum most Z) r := by
  obtain ⟨ro, rn, rc, R, hB⟩ := R
  unfold U.pNum
  by_cases h : U.nmE Z most = 0
  · rw [if_pos h]
    refine (U.Num_ok R h).mono ?_
    rintro r w' ⟨rfl, so, sc, h1, h2, h3⟩
    exact .inr ⟨_, _, rfl, rfl, ⟨so, _, sc, h1, fun hz => h2.trans (hB (fun e => hz (by rw [e]; simp)))⟩, h3⟩
  · rw [if_neg h]
    refine (U.num_bad R rfl h).mono ?_
    rintro r w' ⟨rfl, h1⟩
    exact .inl ⟨rfl, rfl, _, h, h1⟩
theorem cnt_p (R : RB w g Z B) (each : Int) : Calls Try.prog 142 #[U.ptr g, .int .i64 each] w fun r w' => NumP w w' g B (U.pCnt each Z) r := by
  obtain ⟨ro, rn, rc, R, hB⟩ := R
  unfold U.pCnt
  by_cases h : U.ctE Z each = 0
  · rw [if_pos h]
    refine (U.count_ok R h).mono ?_
    rintro r w' ⟨rfl, so, sc, h1, h2, h3⟩
    exact .inr ⟨_, _, rfl, rfl, ⟨so, _, sc, h1, fun hz => h2.trans (hB (fun e => hz (by rw [e]; simp)))⟩, h3⟩
  · rw [if_neg h]
    refine (U.count_bad R rfl h).mono ?_
    rintro r w' ⟨rfl, h1⟩
    exact .inl ⟨rfl, rfl, _, h, h1⟩
theorem RB.lt (R : RB w g Z B) : g < w.heap.size := by obtain ⟨ro, rn, rc, R, hB⟩ := R; exact R.r.lt
theorem RB.below (R : RB w g Z B) (hb : Below w.heap.size w w') : RB w' g Z B := by obtain ⟨ro, rn, rc, R, hB⟩ := R; exact ⟨ro, rn, rc, R.kg_below hb, hB⟩
theorem TrB.kg {gt : Nat} {gap r0 : Int} {T : Nat → Int} (h : TrB w gt gap r0 T) (K : U.Kg w w' g) (hn : gt ≠ g) : TrB w' gt gap r0 T := (K.block gt h.lt hn).trans h
theorem pNum_le {most : Int} {v : Nat} {Z1 : List Int} (h : U.pNum most Z = some (v, Z1)) : (v : Int) ≤ most := by
  unfold U.pNum at h
  split at h
  · rename_i h0
    simp only [Option.some.injEq, Prod.mk.injEq] at h
    have := (U.nm_ok h0).2.1
    omega
  · cases h
/-- a place read -/
def plF (T : Nat → Int) (r0 : Int) (Z : List Int) : Option (Int × Int × List Int) :=
  match U.pNum (15 - r0) Z with
  | none => none
  | some (a, Z1) =>
    match U.pNum (1000000000 - (T (r0 + a).toNat + 2)) Z1 with
    | none => none
    | some (b, Z2) => some (r0 + a, T (r0 + a).toNat + 2 + b, Z2)
def PlP (w w' : World) (g : Nat) (B : Option Nat) (o : Option (Int × Int × List Int)) (r : Ending) : Prop :=
  (o = none ∧ r = .panicked (U.ups g) ∧ GaveE w w' g) ∨ ∃ a b Z1, o = some (a, b, Z1) ∧ r = .returned (.tuple #[.int .i64 a, .int .i64 b]) ∧ RB w' g Z1 B ∧ U.Kg w w' g
set_option maxRecDepth 100000 in
set_option maxHeartbeats 3200000 in
theorem rplace_any {gt : Nat} {r0 : Int} {T : Nat → Int} (R : RB w g Z B) (hT : TrB w gt 2 r0 T) (hne : gt ≠ g) (h0 : 0 ≤ r0 ∧ r0 ≤ 15) (hTb : ∀ k, 0 ≤ T k ∧ T k ≤ 1000000000) :
    Calls Try.prog 143 #[.agg #[U.ptr g], U.ptr gt] w fun e w' => PlP w w' g B (plF T r0 Z) e := by
  have hb := U.below_new w (.cells #[U.ptr g] 186)
  have hx := heap_alloc_new w (.cells #[U.ptr g] 186)
  have HLT := hide R.lt
  have HTL := hide hT.lt
  have HR := hide (R.below hb)
  have HT := hide (hT.below hb)
  have HN := hide hne
  have HTb := hide hTb
  have H0 := hide h0
  have HK : Hid (U.Kg w (w.alloc (.cells #[U.ptr g] 186)) g) := U.Kg.of_below hb
  obtain ⟨W1, hW1⟩ : ∃ W1, w.alloc (.cells #[U.ptr g] 186) = W1 := ⟨_, rfl⟩
  obtain ⟨b2, hb2⟩ : ∃ b2, w.heap.size = b2 := ⟨_, rfl⟩
  rw [hW1] at HR HT hx HK
  rw [hb2] at hx HLT HTL
  have HX : Hid (W1.heap[b2]? = some (.cells #[U.ptr g] 186)) := hx
  have HBG : Hid (b2 ≠ g) := fun e => by have := HLT.out; omega
  obtain ⟨m1, hm1⟩ : ∃ m1 : Int, 15 - r0 = m1 := ⟨_, rfl⟩
  have hw1 : IntKind.i64.wrap (15 - r0) = m1 := by rw [IntKind.wrap_i64]; omega
  have hwz : ∀ v : Nat, (v : Int) ≤ m1 → ∃ kk : Nat, kk < 16 ∧ r0 + (v : Int) = kk ∧ IntKind.i64.wrap (r0 + (v : Int)) = kk := fun v hv => ⟨(r0 + (v : Int)).toNat, by omega, by omega, by rw [IntKind.wrap_i64]; omega⟩
  have HWZ := hide hwz
  have HM1 := hide hm1
  have HC : Hid (∀ V, U.Kg W1 V g → V.cell? ⟨b2, 0, none⟩ = some (U.ptr g) ∧ TrB V gt 2 r0 T) := fun V K => ⟨box_cell ((K.block b2 (Array.getElem?_eq_some_iff.1 HX.out).1 HBG.out).trans HX.out), HT.out.kg K HN.out⟩
  clear R hT hb hx hne hTb h0 hwz hm1
  go_enter Try.func143, Try.ntmps143
  go_wp2_with fail
  clear hW1 hb2
  refine wp_region_held_drew (S := fun v => v.cell? ⟨b2, 0, none⟩ = some (U.ptr g) ∧ v.cell? ⟨gt, 1, none⟩ = some (.int .i64 r0)) (by kernel_rfl) (⟨(HC.out _ ((U.Kg.of_below (U.below_drew1 W1)))).1, (HC.out _ ((U.Kg.of_below (U.below_drew1 W1)))).2.c1⟩) (fun hHeld => ?_)
  refine wpAnyH_take (i := 0) (oi := { dst := some 6, op := Op.move (Operand.tmp 1), type := 199, pos := "reader.go:57", after := #[], guard := none }) (v := ?_) rfl (by kernel_rfl) (by kernel_rfl) (by kernel_rfl) (fun _ _ _ h => h) (Or.inl ⟨by rfl, ?_⟩) (by assumption) ?_
  rotate_left
  · (intro w hSw; (try dsimp only at hSw); go_simp); first | done | with_reducible rfl
  simp only [Act.put, List.setIfInBounds_toArray, List.set_cons_zero, List.set_cons_succ]
  refine wpAnyH_take (i := 1) (oi := { dst := some 7, op := Op.nilCheck (Operand.tmp 6), type := 0, pos := "reader.go:57", after := #[{ on := 0, ground := Ground.data }], guard := none }) (v := ?_) rfl (by kernel_rfl) (by kernel_rfl) (by kernel_rfl) (fun _ _ _ h => h) (Or.inl ⟨by rfl, ?_⟩) (by assumption) ?_
  rotate_left
  · (intro w hSw; (try dsimp only at hSw); go_simp); first | done | with_reducible rfl
  simp only [Act.put, List.setIfInBounds_toArray, List.set_cons_zero, List.set_cons_succ]
  refine wpAnyH_take (i := 2) (oi := { dst := some 8, op := Op.fieldAddr 210 (Operand.tmp 7) 1, type := 0, pos := "reader.go:57", after := #[{ on := 1, ground := Ground.data }], guard := none }) (v := ?_) rfl (by kernel_rfl) (by kernel_rfl) (by kernel_rfl) (fun _ _ _ h => h) (Or.inl ⟨by rfl, ?_⟩) (by assumption) ?_
  rotate_left
  · (intro w hSw; (try dsimp only at hSw); go_simp); first | done | with_reducible rfl
  simp only [Act.put, List.setIfInBounds_toArray, List.set_cons_zero, List.set_cons_succ]
  refine wpAnyH_take (i := 3) (oi := { dst := some 9, op := Op.load 3 (Operand.tmp 8), type := 3, pos := "reader.go:57", after := #[{ on := 2, ground := Ground.data }], guard := none }) (v := ?_) rfl (by kernel_rfl) (by kernel_rfl) (by kernel_rfl) (fun _ _ _ h => h) (Or.inl ⟨by rfl, ?_⟩) (by assumption) ?_
  rotate_left
  · (intro w hSw; (try dsimp only at hSw); go_simp); first | done | with_reducible rfl
  simp only [Act.put, List.setIfInBounds_toArray, List.set_cons_zero, List.set_cons_succ]
  refine wpAnyH_take (i := 4) (oi := { dst := some 10, op := Op.fieldAddr 186 (Operand.tmp 2) 0, type := 0, pos := "reader.go:57", after := #[], guard := none }) (v := ?_) rfl (by kernel_rfl) (by kernel_rfl) (by kernel_rfl) (fun _ _ _ h => h) (Or.inl ⟨by rfl, ?_⟩) (by assumption) ?_
  rotate_left
  · (intro w hSw; (try dsimp only at hSw); go_simp); first | done | with_reducible rfl
  simp only [Act.put, List.setIfInBounds_toArray, List.set_cons_zero, List.set_cons_succ]
  refine wpAnyH_take (i := 5) (oi := { dst := some 11, op := Op.load 184 (Operand.tmp 10), type := 184, pos := "reader.go:57", after := #[{ on := 4, ground := Ground.data }], guard := none }) (v := ?_) rfl (by kernel_rfl) (by kernel_rfl) (by kernel_rfl) (fun _ _ _ h => h) (Or.inl ⟨by rfl, ?_⟩) (by assumption) ?_
  rotate_left
  · (intro w hSw; (try dsimp only at hSw); go_simp); first | done | with_reducible rfl
  simp only [Act.put, List.setIfInBounds_toArray, List.set_cons_zero, List.set_cons_succ]
  refine wpAnyH_take (i := 6) (oi := { dst := some 12, op := Op.move (Operand.tmp 1), type := 199, pos := "reader.go:57", after := #[], guard := none }) (v := ?_) rfl (by kernel_rfl) (by kernel_rfl) (by kernel_rfl) (fun _ _ _ h => h) (Or.inl ⟨by rfl, ?_⟩) (by assumption) ?_
  rotate_left
  · (intro w hSw; (try dsimp only at hSw); go_simp); first | done | with_reducible rfl
  simp only [Act.put, List.setIfInBounds_toArray, List.set_cons_zero, List.set_cons_succ]
  refine wpAnyH_take (i := 7) (oi := { dst := some 13, op := Op.nilCheck (Operand.tmp 12), type := 0, pos := "reader.go:57", after := #[{ on := 6, ground := Ground.data }], guard := none }) (v := ?_) rfl (by kernel_rfl) (by kernel_rfl) (by kernel_rfl) (fun _ _ _ h => h) (Or.inl ⟨by rfl, ?_⟩) (by assumption) ?_
  rotate_left
  · (intro w hSw; (try dsimp only at hSw); go_simp); first | done | with_reducible rfl
  simp only [Act.put, List.setIfInBounds_toArray, List.set_cons_zero, List.set_cons_succ]
  refine wpAnyH_take (i := 8) (oi := { dst := some 14, op := Op.fieldAddr 210 (Operand.tmp 13) 1, type := 0, pos := "reader.go:57", after := #[{ on := 7, ground := Ground.data }], guard := none }) (v := ?_) rfl (by kernel_rfl) (by kernel_rfl) (by kernel_rfl) (fun _ _ _ h => h) (Or.inl ⟨by rfl, ?_⟩) (by assumption) ?_
  rotate_left
  · (intro w hSw; (try dsimp only at hSw); go_simp); first | done | with_reducible rfl
  simp only [Act.put, List.setIfInBounds_toArray, List.set_cons_zero, List.set_cons_succ]
  refine wpAnyH_take (i := 9) (oi := { dst := some 15, op := Op.load 3 (Operand.tmp 14), type := 3, pos := "reader.go:57", after := #[{ on := 8, ground := Ground.data }], guard := none }) (v := ?_) rfl (by kernel_rfl) (by kernel_rfl) (by kernel_rfl) (fun _ _ _ h => h) (Or.inl ⟨by rfl, ?_⟩) (by assumption) ?_
  rotate_left
  · (intro w hSw; (try dsimp only at hSw); go_simp); first | done | with_reducible rfl
  simp only [Act.put, List.setIfInBounds_toArray, List.set_cons_zero, List.set_cons_succ]
  refine wpAnyH_take (i := 10) (oi := { dst := some 16, op := Op.binOp BinOp.sub 3 (Operand.const (Value.int IntKind.i64 15)) (Operand.tmp 15) 3, type := 3, pos := "reader.go:57", after := #[{ on := 9, ground := Ground.data }], guard := none }) (v := ?_) rfl (by kernel_rfl) (by kernel_rfl) (by kernel_rfl) (fun _ _ _ h => h) (Or.inl ⟨by rfl, ?_⟩) (by assumption) ?_
  rotate_left
  · (intro w hSw; (try dsimp only at hSw); go_simp); first | done | with_reducible rfl
  simp only [Act.put, List.setIfInBounds_toArray, List.set_cons_zero, List.set_cons_succ]
  refine wpAnyH_ready (rs := [11]) (by kernel_rfl) (by simp) ?_
  refine AllReadyH.cons rfl (fun K hK => ?_) ?_
  rotate_left
  · exact AllReadyH.nil
  go_simp
  go_wp2_with fail
  refine (num_p (HR.out.below (U.below_drew1 W1)) m1).mono ?_
  rintro e W2 (⟨hn, rfl, hg⟩ | ⟨v, Z1, hs, rfl, R2, K2⟩)
  · have HF : Hid (PlP w W2 g B (plF T r0 Z) (.panicked (U.ups g))) := .inl ⟨by unfold plF; rw [HM1.out, hn], rfl, GaveE.pre HK.out (GaveE.pre (U.Kg.of_below (U.below_drew1 W1)) hg)⟩
    clear hn hg
    go_wp2_with fail
    exact ⟨rfl, HF.out⟩
  have HK2 : Hid (U.Kg W1 W2 g) := (U.Kg.of_below (U.below_drew1 W1)).trans K2
  have HR2 := hide R2
  have hvm := pNum_le hs
  obtain ⟨kk, hk16, hkk, hwv⟩ := HWZ.out v hvm
  have HKK := hide hkk
  have HK16 := hide hk16
  have HS1 := hide hs
  refine hK.out _ _ (⟨(HC.out _ (HK2.out)).1, (HC.out _ (HK2.out)).2.c1⟩) (fun hHeld => ?_)
  clear hK K hs R2 K2 hkk hvm hk16
  refine wpAnyH_take (i := 12) (oi := { dst := some 18, op := Op.binOp BinOp.add 3 (Operand.tmp 9) (Operand.tmp 17) 3, type := 3, pos := "reader.go:57", after := #[{ on := 3, ground := Ground.data }, { on := 11, ground := Ground.data }], guard := none }) (v := ?_) rfl (by kernel_rfl) (by kernel_rfl) (by kernel_rfl) (fun _ _ _ h => h) (Or.inl ⟨by rfl, ?_⟩) (by assumption) ?_
  rotate_left
  · (intro w hSw; (try dsimp only at hSw); go_simp); first | done | with_reducible rfl
  simp only [Act.put, List.setIfInBounds_toArray, List.set_cons_zero, List.set_cons_succ]
  refine wpAnyH_take (i := 13) (oi := { dst := some 4, op := Op.assign (Operand.tmp 18), type := 3, pos := "reader.go:57", after := #[{ on := 12, ground := Ground.data }, { on := 11, ground := Ground.chain }, { on := 0, ground := Ground.phase }, { on := 1, ground := Ground.phase }, { on := 2, ground := Ground.phase }, { on := 3, ground := Ground.phase }, { on := 4, ground := Ground.phase }, { on := 5, ground := Ground.phase }, { on := 6, ground := Ground.phase }, { on := 7, ground := Ground.phase }, { on := 8, ground := Ground.phase }, { on := 9, ground := Ground.phase }, { on := 10, ground := Ground.phase }, { on := 11, ground := Ground.phase }, { on := 12, ground := Ground.phase }], guard := none }) (v := ?_) rfl (by kernel_rfl) (by kernel_rfl) (by kernel_rfl) (fun _ _ _ h => h) (Or.inl ⟨by rfl, ?_⟩) (by assumption) ?_
  rotate_left
  · (intro w hSw; (try dsimp only at hSw); go_simp); first | done | with_reducible rfl
  simp only [Act.put, List.setIfInBounds_toArray, List.set_cons_zero, List.set_cons_succ]
  refine wpAnyH_done (by kernel_rfl) ?_ _
  clear hHeld
  have hTk := HTb.out kk
  obtain ⟨tk, htk⟩ : ∃ tk, T kk + 2 = tk := ⟨_, rfl⟩
  have HTK := hide htk
  obtain ⟨m2, hm2⟩ : ∃ m2 : Int, 1000000000 - tk = m2 := ⟨_, rfl⟩
  have hw2 : IntKind.i64.wrap (1000000000 - tk) = m2 := by rw [IntKind.wrap_i64]; omega
  have HWY : Hid (∀ v : Nat, (v : Int) ≤ m2 → IntKind.i64.wrap (tk + (v : Int)) = tk + (v : Int)) := fun v hv => by rw [IntKind.wrap_i64]; omega
  have HM2 := hide hm2
  clear htk hm2 hTk
  go_wp2_with fail
  refine wp_region_held_drew (S := fun v => v.cell? ⟨b2, 0, none⟩ = some (U.ptr g) ∧ v.cell? ⟨gt, 1, none⟩ = some (.int .i64 r0)) (by kernel_rfl) (⟨(HC.out _ ((HK2.out.trans (U.Kg.of_below (U.below_drew1 W2))))).1, (HC.out _ ((HK2.out.trans (U.Kg.of_below (U.below_drew1 W2))))).2.c1⟩) (fun hHeld => ?_)
  refine wpAnyH_take (i := 0) (oi := { dst := some 19, op := Op.move (Operand.tmp 1), type := 199, pos := "reader.go:58", after := #[], guard := none }) (v := ?_) rfl (by kernel_rfl) (by kernel_rfl) (by kernel_rfl) (fun _ _ _ h => h) (Or.inl ⟨by rfl, ?_⟩) (by assumption) ?_
  rotate_left
  · (intro w hSw; (try dsimp only at hSw); go_simp); first | done | with_reducible rfl
  simp only [Act.put, List.setIfInBounds_toArray, List.set_cons_zero, List.set_cons_succ]
  refine wpAnyH_take (i := 1) (oi := { dst := some 20, op := Op.move (Operand.tmp 4), type := 3, pos := "reader.go:58", after := #[], guard := none }) (v := ?_) rfl (by kernel_rfl) (by kernel_rfl) (by kernel_rfl) (fun _ _ _ h => h) (Or.inl ⟨by rfl, ?_⟩) (by assumption) ?_
  rotate_left
  · (intro w hSw; (try dsimp only at hSw); go_simp); first | done | with_reducible rfl
  simp only [Act.put, List.setIfInBounds_toArray, List.set_cons_zero, List.set_cons_succ]
  refine wpAnyH_take (i := 3) (oi := { dst := some 22, op := Op.fieldAddr 186 (Operand.tmp 2) 0, type := 0, pos := "reader.go:58", after := #[], guard := none }) (v := ?_) rfl (by kernel_rfl) (by kernel_rfl) (by kernel_rfl) (fun _ _ _ h => h) (Or.inl ⟨by rfl, ?_⟩) (by assumption) ?_
  rotate_left
  · (intro w hSw; (try dsimp only at hSw); go_simp); first | done | with_reducible rfl
  simp only [Act.put, List.setIfInBounds_toArray, List.set_cons_zero, List.set_cons_succ]
  refine wpAnyH_take (i := 4) (oi := { dst := some 23, op := Op.load 184 (Operand.tmp 22), type := 184, pos := "reader.go:58", after := #[{ on := 3, ground := Ground.data }], guard := none }) (v := ?_) rfl (by kernel_rfl) (by kernel_rfl) (by kernel_rfl) (fun _ _ _ h => h) (Or.inl ⟨by rfl, ?_⟩) (by assumption) ?_
  rotate_left
  · (intro w hSw; (try dsimp only at hSw); go_simp); first | done | with_reducible rfl
  simp only [Act.put, List.setIfInBounds_toArray, List.set_cons_zero, List.set_cons_succ]
  refine wpAnyH_take (i := 5) (oi := { dst := some 24, op := Op.move (Operand.tmp 1), type := 199, pos := "reader.go:58", after := #[], guard := none }) (v := ?_) rfl (by kernel_rfl) (by kernel_rfl) (by kernel_rfl) (fun _ _ _ h => h) (Or.inl ⟨by rfl, ?_⟩) (by assumption) ?_
  rotate_left
  · (intro w hSw; (try dsimp only at hSw); go_simp); first | done | with_reducible rfl
  simp only [Act.put, List.setIfInBounds_toArray, List.set_cons_zero, List.set_cons_succ]
  refine wpAnyH_take (i := 6) (oi := { dst := some 25, op := Op.move (Operand.tmp 4), type := 3, pos := "reader.go:58", after := #[], guard := none }) (v := ?_) rfl (by kernel_rfl) (by kernel_rfl) (by kernel_rfl) (fun _ _ _ h => h) (Or.inl ⟨by rfl, ?_⟩) (by assumption) ?_
  rotate_left
  · (intro w hSw; (try dsimp only at hSw); go_simp); first | done | with_reducible rfl
  simp only [Act.put, List.setIfInBounds_toArray, List.set_cons_zero, List.set_cons_succ]
  refine wpAnyH_ready (rs := [2]) (by kernel_rfl) (by simp) ?_
  refine AllReadyH.cons rfl (fun K hK => ?_) ?_
  rotate_left
  · exact AllReadyH.nil
  go_simp
  go_wp2_with fail
  refine (least_any (HC.out _ (HK2.out.trans (U.Kg.of_below (U.below_drew1 W2)))).2 kk HK16.out (by decide) (HTb.out kk)).mono ?_
  rintro e W3 ⟨rfl, b3⟩
  rw [HTK.out]
  have HK3 : Hid (U.Kg W1 W3 g) := (HK2.out.trans (U.Kg.of_below (U.below_drew1 W2))).trans (U.Kg.of_below b3)
  have HR3 := hide ((HR2.out.below (U.below_drew1 W2)).below b3)
  refine hK.out _ _ (⟨(HC.out _ (HK3.out)).1, (HC.out _ (HK3.out)).2.c1⟩) (fun hHeld => ?_)
  clear hK K b3
  refine wpAnyH_ready (rs := [7]) (by kernel_rfl) (by simp) ?_
  refine AllReadyH.cons rfl (fun K hK => ?_) ?_
  rotate_left
  · exact AllReadyH.nil
  go_simp
  go_wp2_with fail
  refine (least_any (HC.out _ HK3.out).2 kk HK16.out (by decide) (HTb.out kk)).mono ?_
  rintro e W4 ⟨rfl, b4⟩
  rw [HTK.out]
  have HK4 : Hid (U.Kg W1 W4 g) := HK3.out.trans (U.Kg.of_below b4)
  have HR4 := hide (HR3.out.below b4)
  refine hK.out _ _ (⟨(HC.out _ (HK4.out)).1, (HC.out _ (HK4.out)).2.c1⟩) (fun hHeld => ?_)
  clear hK K b4
  refine wpAnyH_take (i := 8) (oi := { dst := some 27, op := Op.binOp BinOp.sub 3 (Operand.const (Value.int IntKind.i64 1000000000)) (Operand.tmp 26) 3, type := 3, pos := "reader.go:58", after := #[{ on := 7, ground := Ground.data }], guard := none }) (v := ?_) rfl (by kernel_rfl) (by kernel_rfl) (by kernel_rfl) (fun _ _ _ h => h) (Or.inl ⟨by rfl, ?_⟩) (by assumption) ?_
  rotate_left
  · (intro w hSw; (try dsimp only at hSw); go_simp); first | done | with_reducible rfl
  simp only [Act.put, List.setIfInBounds_toArray, List.set_cons_zero, List.set_cons_succ]
  refine wpAnyH_ready (rs := [9]) (by kernel_rfl) (by simp) ?_
  refine AllReadyH.cons rfl (fun K hK => ?_) ?_
  rotate_left
  · exact AllReadyH.nil
  go_simp
  go_wp2_with fail
  refine (num_p HR4.out m2).mono ?_
  rintro e W5 (⟨hn, rfl, hg⟩ | ⟨u, Z2, hs, rfl, R5, K5⟩)
  · have HF : Hid (PlP w W5 g B (plF T r0 Z) (.panicked (U.ups g))) := .inl ⟨by unfold plF; rw [HM1.out, HS1.out]; simp only; rw [HKK.out, Int.toNat_natCast, HTK.out, HM2.out, hn], rfl, GaveE.pre HK.out (GaveE.pre HK4.out hg)⟩
    clear hn hg
    go_wp2_with fail
    exact ⟨rfl, HF.out⟩
  have hwu := HWY.out u (pNum_le hs)
  have HF : Hid (PlP w W5 g B (plF T r0 Z) (.returned (.tuple #[.int .i64 (kk : Int), .int .i64 (tk + (u : Int))]))) := .inr ⟨_, _, Z2, by unfold plF; rw [HM1.out, HS1.out]; simp only; rw [HKK.out, Int.toNat_natCast, HTK.out, HM2.out, hs], rfl, R5, HK.out.trans (HK4.out.trans K5)⟩
  refine hK.out _ _ (⟨(HC.out _ (HK4.out.trans K5)).1, (HC.out _ (HK4.out.trans K5)).2.c1⟩) (fun hHeld => ?_)
  clear hK K hs R5 K5
  refine wpAnyH_take (i := 10) (oi := { dst := some 29, op := Op.binOp BinOp.add 3 (Operand.tmp 21) (Operand.tmp 28) 3, type := 3, pos := "reader.go:58", after := #[{ on := 2, ground := Ground.data }, { on := 9, ground := Ground.data }], guard := none }) (v := ?_) rfl (by kernel_rfl) (by kernel_rfl) (by kernel_rfl) (fun _ _ _ h => h) (Or.inl ⟨by rfl, ?_⟩) (by assumption) ?_
  rotate_left
  · (intro w hSw; (try dsimp only at hSw); go_simp); first | done | with_reducible rfl
  simp only [Act.put, List.setIfInBounds_toArray, List.set_cons_zero, List.set_cons_succ]
  refine wpAnyH_take (i := 11) (oi := { dst := some 5, op := Op.assign (Operand.tmp 29), type := 3, pos := "reader.go:58", after := #[{ on := 10, ground := Ground.data }, { on := 9, ground := Ground.chain }, { on := 0, ground := Ground.phase }, { on := 1, ground := Ground.phase }, { on := 2, ground := Ground.phase }, { on := 3, ground := Ground.phase }, { on := 4, ground := Ground.phase }, { on := 5, ground := Ground.phase }, { on := 6, ground := Ground.phase }, { on := 7, ground := Ground.phase }, { on := 8, ground := Ground.phase }, { on := 9, ground := Ground.phase }, { on := 10, ground := Ground.phase }], guard := none }) (v := ?_) rfl (by kernel_rfl) (by kernel_rfl) (by kernel_rfl) (fun _ _ _ h => h) (Or.inl ⟨by rfl, ?_⟩) (by assumption) ?_
  rotate_left
  · (intro w hSw; (try dsimp only at hSw); go_simp); first | done | with_reducible rfl
  simp only [Act.put, List.setIfInBounds_toArray, List.set_cons_zero, List.set_cons_succ]
  refine wpAnyH_done (by kernel_rfl) ?_ _
  clear hHeld
  go_wp2_with fail
  go_ret2
  exact HF.out
end Go.Proofs.Ytnghfnhpjdafmaa
