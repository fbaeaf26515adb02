/- FTr FWp -/
import Derived.Test.YtbmjiedpaffifaaGreatDb22
import Derived.Test.YtbmjiedpaffifaaGreatDb00
import Derived.Laws.CopyOwn
import Derived.Deep.RegionHeld
namespace Go.Proofs.YtbmjiedpaffifaaGreat
open Go.RowKit

/-- a trail's cells -/
def TC (gap r0 : Int) (T : Nat → Int) : List Value := .int .i64 gap :: .int .i64 r0 :: (List.range 16).map fun k => .int .i64 (T k)
theorem TC_length (gap r0 : Int) (T : Nat → Int) : (TC gap r0 T).length = 18 := by simp [TC]
theorem TC_at (gap r0 : Int) (T : Nat → Int) (k : Nat) (h : k < 16) : (TC gap r0 T)[2 + k]? = some (.int .i64 (T k)) := by
  rw [Nat.add_comm]
  simp [TC, h]
theorem TC_congr {gap r0 : Int} {T T' : Nat → Int} (h : ∀ k, k < 16 → T k = T' k) : TC gap r0 T = TC gap r0 T' := by
  unfold TC
  congr 2
  exact List.map_congr_left fun k hk => by rw [h k (List.mem_range.1 hk)]
def TrB (w : World) (g : Nat) (gap r0 : Int) (T : Nat → Int) : Prop := w.heap[g]? = some (.cells (TC gap r0 T).toArray 115 (0, 0))
variable {w w' : World} {g : Nat} {gap r0 : Int} {T : Nat → Int}
theorem TrB.lt (h : TrB w g gap r0 T) : g < w.heap.size := (Array.getElem?_eq_some_iff.1 h).1
theorem TrB.below (h : TrB w g gap r0 T) (hb : Below w.heap.size w w') : TrB w' g gap r0 T := (hb.block g h.lt).trans h
theorem TrB.c0 (h : TrB w g gap r0 T) : w.cell? ⟨g, 0, none⟩ = some (.int .i64 gap) := by unfold TrB at h; simp [World.cell?, h, TC]
theorem TrB.c1 (h : TrB w g gap r0 T) : w.cell? ⟨g, 1, none⟩ = some (.int .i64 r0) := by unfold TrB at h; simp [World.cell?, h, TC]
theorem TrB.c2 (h : TrB w g gap r0 T) (k : Nat) (hk : k < 16) : w.cell? ⟨g, 2 + k, none⟩ = some (.int .i64 (T k)) := by
  unfold TrB at h
  have := TC_at gap r0 T k hk
  simp only [World.cell?, h]
  simpa using this
theorem TrB.frozen (h : TrB w g gap r0 T) (j : Nat) : w.frozen? ⟨g, j, none⟩ = false := by unfold TrB at h; simp [World.frozen?, h]
theorem TC_set1 (gap r0 x : Int) (T : Nat → Int) : (TC gap r0 T).set 1 (.int .i64 x) = TC gap x T := by simp [TC]
theorem TC_set2 (gap r0 x : Int) (T : Nat → Int) (k : Nat) (hk : k < 16) : (TC gap r0 T).set (2 + k) (.int .i64 x) = TC gap r0 (fun j => if j = k then x else T j) := by
  apply List.ext_getElem?
  intro i
  rw [List.getElem?_set]
  by_cases h0 : 2 + k = i
  · subst h0
    rw [if_pos rfl, TC_length, if_pos (by omega), TC_at _ _ _ k hk, if_pos rfl]
  · rw [if_neg h0]
    match i with
    | 0 => rfl
    | 1 => rfl
    | j + 2 =>
      by_cases hj : j < 16
      · have e : j + 2 = 2 + j := by omega
        rw [e, TC_at _ _ _ j hj, TC_at _ _ _ j hj, if_neg (by omega)]
      · rw [List.getElem?_eq_none (by rw [TC_length]; omega), List.getElem?_eq_none (by rw [TC_length]; omega)]
theorem TrB.set1 (h : TrB w g gap r0 T) (x : Int) : TrB (w.setCell ⟨g, 1, none⟩ (.int .i64 x)) g gap x T := by
  have := U.set_heap w g _ _ _ 1 (.int .i64 x) h
  unfold TrB
  rw [this, ← TC_set1 gap r0 x T]
  simp
theorem TrB.set2 (h : TrB w g gap r0 T) (k : Nat) (hk : k < 16) (x : Int) : TrB (w.setCell ⟨g, 2 + k, none⟩ (.int .i64 x)) g gap r0 (fun j => if j = k then x else T j) := by
  have := U.set_heap w g _ _ _ (2 + k) (.int .i64 x) h
  unfold TrB
  rw [this, ← TC_set2 gap r0 x T k hk]
  simp
theorem TC_zero (gap : Int) : (#[.int .i64 gap, .int .i64 0, .int .i64 0, .int .i64 0, .int .i64 0, .int .i64 0, .int .i64 0, .int .i64 0, .int .i64 0, .int .i64 0, .int .i64 0, .int .i64 0, .int .i64 0, .int .i64 0, .int .i64 0, .int .i64 0, .int .i64 0, .int .i64 0] : Array Value) = (TC gap 0 (fun _ => 0)).toArray := rfl
theorem TC_splice (gap : Int) (Z : List Int) (h : Z.length ≤ 16) : splice (TC gap 0 (fun _ => 0)) 2 (Z.map fun x => Value.int .i64 x) = TC gap 0 (fun k => Z.getD k 0) := by
  apply List.ext_getElem?
  intro i
  have hl : ((TC gap 0 (fun _ => 0)).take 2).length = 2 := by rw [List.length_take, TC_length]; rfl
  unfold splice
  match i with
  | 0 => rfl
  | 1 => rfl
  | j + 2 =>
    rw [List.getElem?_append_right (by omega), hl, show j + 2 - 2 = j by omega]
    by_cases hj : j < 16
    · rw [show j + 2 = 2 + j by omega, TC_at _ _ _ j hj]
      by_cases hz : j < Z.length
      · rw [List.getElem?_append_left (by simpa using hz)]
        simp [hz]
      · rw [List.getElem?_append_right (by simp; omega)]
        simp only [List.length_map]
        rw [List.getElem?_drop, show 2 + Z.length + (j - Z.length) = 2 + j by omega, TC_at _ _ _ j hj]
        simp [hz]
    · rw [List.getElem?_eq_none (by simp [TC_length]; omega), List.getElem?_eq_none (by rw [TC_length]; omega)]
set_option maxRecDepth 100000 in
theorem newTrail_any (gap : Int) (ao : Option Addr) (n c : Nat) (Z : List Int) (w : World) (hl : Z.length = n) (hn : n ≤ 16) (hnil : ao = none → n = 0) (hs : ∀ ad, ao = some ad → ∀ t, t < n → w.cell? (ad.add t) = some (.int .i64 (Z.getD t 0))) :
    Calls Tryz.prog 47 #[.int .i64 gap, .slice ao n c] w fun e w' => e = .returned (U.ptr w.heap.size) ∧ TrB w' w.heap.size gap 0 (fun k => Z.getD k 0) ∧ Below w.heap.size w w' := by
  have b1 := U.below_new w (.cells (TC gap 0 (fun _ => 0)).toArray 115)
  have hx := heap_alloc_new w (.cells (TC gap 0 (fun _ => 0)).toArray 115)
  have HB := hide b1
  have HX := hide hx
  have HSr : Hid (0 < (Z.map fun x => Value.int .i64 x).length → (some ⟨w.heap.size, 2, none⟩ : Option Addr) = some ⟨w.heap.size, 2, none⟩ ∧ ∃ ad, ao = some ad ∧ ∀ j v, (Z.map fun x => Value.int .i64 x)[j]? = some v → (w.alloc (.cells (TC gap 0 (fun _ => 0)).toArray 115)).cell? (ad.add j) = some v) := by
    intro h0
    refine ⟨rfl, ?_⟩
    cases ao with
    | none => have := hnil rfl; simp at h0; omega
    | some ad =>
      refine ⟨ad, rfl, fun j v hv => ?_⟩
      rw [List.getElem?_map, Option.map_eq_some_iff] at hv
      obtain ⟨y, hy, rfl⟩ := hv
      obtain ⟨hj, rfl⟩ := List.getElem?_eq_some_iff.1 hy
      have := hs ad rfl j (by omega)
      rw [b1.cell (World.block_lt_of_cell? _ _ this), this, List.getD_eq_getElem?_getD, List.getElem?_eq_getElem hj]
      rfl
  have HL : Hid (Z.length = n ∧ n ≤ 16) := ⟨hl, hn⟩
  have hz := TC_zero gap
  obtain ⟨w5, hcp, hg5, hb5⟩ : ∃ w5, (Builtin.copy_ #[22, 22] 3 #[.slice (some ⟨w.heap.size, 2, none⟩) 16 16, .slice ao n c]).run Tryz.prog (w.alloc (.cells (TC gap 0 (fun _ => 0)).toArray 115)) = .ok (goInt n) w5 ∧ TrB w5 w.heap.size gap 0 (fun k => Z.getD k 0) ∧ Below w.heap.size w w5 := by
    by_cases h0 : n = 0
    · subst h0
      have h1 := run_copy_none (P := Tryz.prog) (w.alloc (.cells (TC gap 0 (fun _ => 0)).toArray 115)) 22 22 3 3 (some ⟨w.heap.size, 2, none⟩) ao 16 16 0 c Tryz.underlying22 (by kernel_rfl) (by rfl)
      refine ⟨_, h1, ?_, b1⟩
      obtain rfl : Z = [] := List.eq_nil_of_length_eq_zero hl
      exact hx
    · have hcs : 0 < (Z.map fun x => Value.int .i64 x).length := by simp; omega
      obtain ⟨-, ad, rfl, hsrc⟩ := HSr.out hcs
      have h1 := run_copy_row (P := Tryz.prog) (w.alloc (.cells (TC gap 0 (fun _ => 0)).toArray 115)) 22 22 3 3 w.heap.size 2 16 16 ad n c (TC gap 0 (fun _ => 0)).toArray 115 (Z.map fun x => Value.int .i64 x) Tryz.underlying22 (by kernel_rfl) hx (by simp only [List.length_map, hl]; exact (Nat.min_eq_left hn).symm) hsrc (by simp [TC_length]; omega) (by simp [Value.oneCell'])
      have el : (Z.map fun x => Value.int .i64 x).length = n := by simp [hl]
      rw [el] at h1
      refine ⟨_, h1, ?_, b1.trans (below_setRow ((Below.refl _ _)) (Nat.le_of_eq (by simp)) )⟩
      have h2 := setRow_heap (w.alloc (.cells (TC gap 0 (fun _ => 0)).toArray 115)) w.heap.size _ ((splice (TC gap 0 (fun _ => 0)) 2 (Z.map fun x => Value.int .i64 x)).toArray) 115 _ hx
      rw [TC_splice gap Z (by omega)] at h2
      rw [← TC_splice gap Z (by omega)] at h2
      have h3 := TC_splice gap Z (by omega)
      unfold TrB
      rw [← h3]
      unfold splice at h2 ⊢
      rw [el] at h2 ⊢
      exact h2
  have HF := hide hg5
  have HB5 := hide hb5
  clear b1 hx hs hnil hl hn hg5 hb5 HSr HX HB
  go_enter Tryz.func47, Tryz.ntmps47
  go_wp2_with fail
  go_ret
  exact ⟨rfl, HF.out, HB5.out⟩
set_option maxRecDepth 100000 in
theorem least_any (h : TrB w g gap r0 T) (k : Nat) (hk : k < 16) (hg : 0 ≤ gap ∧ gap ≤ 1000) (hT : 0 ≤ T k ∧ T k ≤ 1000000000) : Calls Tryz.prog 66 #[U.ptr g, .int .i64 (k : Int)] w fun e w' => e = .returned (.int .i64 (T k + gap)) ∧ Below w.heap.size w w' := by
  have HX := hide h
  obtain ⟨x, hx⟩ : ∃ x, T k = x := ⟨_, rfl⟩
  have hw : IntKind.i64.wrap (x + gap) = x + gap := by rw [IntKind.wrap_i64]; omega
  have Hx := hide hx
  have hk16 : k < 16 := hk
  have hkI : (k : Int) < 16 := by omega
  clear h
  rw [hx]
  clear hx
  go_enter Tryz.func66, Tryz.ntmps66
  go_wp2_with fail
  refine wp_region_held_drew (S := fun v => v.cell? ⟨g, 0, none⟩ = some (.int .i64 gap) ∧ v.cell? ⟨g, 2 + k, none⟩ = some (.int .i64 x)) (by kernel_rfl) (⟨(HX.out.below (U.below_drew1 w)).c0, by have := (HX.out.below (U.below_drew1 w)).c2 k hk16; rw [Hx.out] at this; exact this⟩) (fun hHeld => ?_)
  refine wpAnyH_take (i := 0) (oi := { dst := some 5, op := Op.move (Operand.tmp 0), type := 85, pos := "trail.go:26", after := #[], guard := none }) (v := ?_) rfl (by kernel_rfl) (by kernel_rfl) (by kernel_rfl) (fun _ _ _ h => h) (Or.inl ⟨by rfl, ?_⟩) (by assumption) ?_
  rotate_left
  · (intro w hSw; (try dsimp only at hSw); go_simp); first | done | with_reducible rfl
  simp only [Act.put, List.setIfInBounds_toArray, List.set_cons_zero, List.set_cons_succ]
  refine wpAnyH_take (i := 1) (oi := { dst := some 6, op := Op.move (Operand.tmp 1), type := 3, pos := "trail.go:26", after := #[], guard := none }) (v := ?_) rfl (by kernel_rfl) (by kernel_rfl) (by kernel_rfl) (fun _ _ _ h => h) (Or.inl ⟨by rfl, ?_⟩) (by assumption) ?_
  rotate_left
  · (intro w hSw; (try dsimp only at hSw); go_simp); first | done | with_reducible rfl
  simp only [Act.put, List.setIfInBounds_toArray, List.set_cons_zero, List.set_cons_succ]
  refine wpAnyH_take (i := 2) (oi := { dst := some 7, op := Op.nilCheck (Operand.tmp 5), type := 0, pos := "trail.go:26", after := #[{ on := 0, ground := Ground.data }], guard := none }) (v := ?_) rfl (by kernel_rfl) (by kernel_rfl) (by kernel_rfl) (fun _ _ _ h => h) (Or.inl ⟨by rfl, ?_⟩) (by assumption) ?_
  rotate_left
  · (intro w hSw; (try dsimp only at hSw); go_simp); first | done | with_reducible rfl
  simp only [Act.put, List.setIfInBounds_toArray, List.set_cons_zero, List.set_cons_succ]
  refine wpAnyH_take (i := 3) (oi := { dst := some 8, op := Op.fieldAddr 115 (Operand.tmp 7) 2, type := 0, pos := "trail.go:26", after := #[{ on := 2, ground := Ground.data }], guard := none }) (v := ?_) rfl (by kernel_rfl) (by kernel_rfl) (by kernel_rfl) (fun _ _ _ h => h) (Or.inl ⟨by rfl, ?_⟩) (by assumption) ?_
  rotate_left
  · (intro w hSw; (try dsimp only at hSw); go_simp); first | done | with_reducible rfl
  simp only [Act.put, List.setIfInBounds_toArray, List.set_cons_zero, List.set_cons_succ]
  refine wpAnyH_take (i := 4) (oi := { dst := some 9, op := Op.indexAddr 113 (Operand.tmp 8) (Operand.tmp 6), type := 0, pos := "trail.go:26", after := #[{ on := 3, ground := Ground.data }, { on := 1, ground := Ground.data }], guard := none }) (v := ?_) rfl (by kernel_rfl) (by kernel_rfl) (by kernel_rfl) (fun _ _ _ h => h) (Or.inl ⟨by rfl, ?_⟩) (by assumption) ?_
  rotate_left
  · (intro w hSw; (try dsimp only at hSw); go_simp); first | done | with_reducible rfl
  simp only [Act.put, List.setIfInBounds_toArray, List.set_cons_zero, List.set_cons_succ]
  refine wpAnyH_take (i := 5) (oi := { dst := some 10, op := Op.load 3 (Operand.tmp 9), type := 3, pos := "trail.go:26", after := #[{ on := 4, ground := Ground.data }], guard := none }) (v := ?_) rfl (by kernel_rfl) (by kernel_rfl) (by kernel_rfl) (fun _ _ _ h => h) (Or.inl ⟨by rfl, ?_⟩) (by assumption) ?_
  rotate_left
  · (intro w hSw; (try dsimp only at hSw); go_simp); first | done | with_reducible rfl
  simp only [Act.put, List.setIfInBounds_toArray, List.set_cons_zero, List.set_cons_succ]
  refine wpAnyH_take (i := 6) (oi := { dst := some 11, op := Op.move (Operand.tmp 0), type := 85, pos := "trail.go:26", after := #[], guard := none }) (v := ?_) rfl (by kernel_rfl) (by kernel_rfl) (by kernel_rfl) (fun _ _ _ h => h) (Or.inl ⟨by rfl, ?_⟩) (by assumption) ?_
  rotate_left
  · (intro w hSw; (try dsimp only at hSw); go_simp); first | done | with_reducible rfl
  simp only [Act.put, List.setIfInBounds_toArray, List.set_cons_zero, List.set_cons_succ]
  refine wpAnyH_take (i := 7) (oi := { dst := some 12, op := Op.nilCheck (Operand.tmp 11), type := 0, pos := "trail.go:26", after := #[{ on := 6, ground := Ground.data }], guard := none }) (v := ?_) rfl (by kernel_rfl) (by kernel_rfl) (by kernel_rfl) (fun _ _ _ h => h) (Or.inl ⟨by rfl, ?_⟩) (by assumption) ?_
  rotate_left
  · (intro w hSw; (try dsimp only at hSw); go_simp); first | done | with_reducible rfl
  simp only [Act.put, List.setIfInBounds_toArray, List.set_cons_zero, List.set_cons_succ]
  refine wpAnyH_take (i := 8) (oi := { dst := some 13, op := Op.fieldAddr 115 (Operand.tmp 12) 0, type := 0, pos := "trail.go:26", after := #[{ on := 7, ground := Ground.data }], guard := none }) (v := ?_) rfl (by kernel_rfl) (by kernel_rfl) (by kernel_rfl) (fun _ _ _ h => h) (Or.inl ⟨by rfl, ?_⟩) (by assumption) ?_
  rotate_left
  · (intro w hSw; (try dsimp only at hSw); go_simp); first | done | with_reducible rfl
  simp only [Act.put, List.setIfInBounds_toArray, List.set_cons_zero, List.set_cons_succ]
  refine wpAnyH_take (i := 9) (oi := { dst := some 14, op := Op.load 3 (Operand.tmp 13), type := 3, pos := "trail.go:26", after := #[{ on := 8, ground := Ground.data }], guard := none }) (v := ?_) rfl (by kernel_rfl) (by kernel_rfl) (by kernel_rfl) (fun _ _ _ h => h) (Or.inl ⟨by rfl, ?_⟩) (by assumption) ?_
  rotate_left
  · (intro w hSw; (try dsimp only at hSw); go_simp); first | done | with_reducible rfl
  simp only [Act.put, List.setIfInBounds_toArray, List.set_cons_zero, List.set_cons_succ]
  refine wpAnyH_take (i := 10) (oi := { dst := some 15, op := Op.binOp BinOp.add 3 (Operand.tmp 10) (Operand.tmp 14) 3, type := 3, pos := "trail.go:26", after := #[{ on := 5, ground := Ground.data }, { on := 9, ground := Ground.data }], guard := none }) (v := ?_) rfl (by kernel_rfl) (by kernel_rfl) (by kernel_rfl) (fun _ _ _ h => h) (Or.inl ⟨by rfl, ?_⟩) (by assumption) ?_
  rotate_left
  · (intro w hSw; (try dsimp only at hSw); go_simp); first | done | with_reducible rfl
  simp only [Act.put, List.setIfInBounds_toArray, List.set_cons_zero, List.set_cons_succ]
  refine wpAnyH_take (i := 11) (oi := { dst := some 4, op := Op.assign (Operand.tmp 15), type := 3, pos := "trail.go:26", after := #[{ on := 10, ground := Ground.data }, { on := 0, ground := Ground.phase }, { on := 1, ground := Ground.phase }, { on := 2, ground := Ground.phase }, { on := 3, ground := Ground.phase }, { on := 4, ground := Ground.phase }, { on := 5, ground := Ground.phase }, { on := 6, ground := Ground.phase }, { on := 7, ground := Ground.phase }, { on := 8, ground := Ground.phase }, { on := 9, ground := Ground.phase }, { on := 10, ground := Ground.phase }], guard := none }) (v := ?_) rfl (by kernel_rfl) (by kernel_rfl) (by kernel_rfl) (fun _ _ _ h => h) (Or.inl ⟨by rfl, ?_⟩) (by assumption) ?_
  rotate_left
  · (intro w hSw; (try dsimp only at hSw); go_simp); first | done | with_reducible rfl
  simp only [Act.put, List.setIfInBounds_toArray, List.set_cons_zero, List.set_cons_succ]
  refine wpAnyH_done (by kernel_rfl) ?_ _
  clear hHeld
  go_wp2_with fail
  go_ret
  exact ⟨rfl, U.below_drew1 w⟩
set_option maxRecDepth 100000 in
theorem pass_any (h : TrB w g gap r0 T) (k : Nat) (hk : k < 16) (x : Int) : Calls Tryz.prog 49 #[U.ptr g, .int .i64 (k : Int), .int .i64 x] w fun e w' => e = .returned (.tuple #[]) ∧ TrB w' g gap (k : Int) (fun j => if j = k then x else T j) ∧ U.Kg w w' g := by
  have HX := hide h
  have hk16 : k < 16 := hk
  have hkI : (k : Int) < 16 := by omega
  clear h
  go_enter Tryz.func49, Tryz.ntmps49
  refine wp_region_held_drew (S := fun _ => True) (by kernel_rfl) (trivial) (fun hHeld => ?_)
  refine wpAnyH_take (i := 0) (oi := { dst := some 6, op := Op.move (Operand.tmp 0), type := 85, pos := "trail.go:29", after := #[], guard := none }) (v := ?_) rfl (by kernel_rfl) (by kernel_rfl) (by kernel_rfl) (fun _ _ _ h => h) (Or.inl ⟨by rfl, ?_⟩) (by assumption) ?_
  rotate_left
  · (intro w hSw; (try dsimp only at hSw); go_simp); first | done | with_reducible rfl
  simp only [Act.put, List.setIfInBounds_toArray, List.set_cons_zero, List.set_cons_succ]
  refine wpAnyH_take (i := 1) (oi := { dst := some 7, op := Op.move (Operand.tmp 0), type := 85, pos := "trail.go:29", after := #[{ on := 7, ground := Ground.gcOnly Departure.lateStores }], guard := none }) (v := ?_) rfl (by kernel_rfl) (by kernel_rfl) (by kernel_rfl) (fun _ _ _ h => h) (Or.inl ⟨by rfl, ?_⟩) (by assumption) ?_
  rotate_left
  · (intro w hSw; (try dsimp only at hSw); go_simp); first | done | with_reducible rfl
  simp only [Act.put, List.setIfInBounds_toArray, List.set_cons_zero, List.set_cons_succ]
  refine wpAnyH_take (i := 2) (oi := { dst := some 8, op := Op.move (Operand.tmp 1), type := 3, pos := "trail.go:29", after := #[{ on := 7, ground := Ground.gcOnly Departure.lateStores }], guard := none }) (v := ?_) rfl (by kernel_rfl) (by kernel_rfl) (by kernel_rfl) (fun _ _ _ h => h) (Or.inl ⟨by rfl, ?_⟩) (by assumption) ?_
  rotate_left
  · (intro w hSw; (try dsimp only at hSw); go_simp); first | done | with_reducible rfl
  simp only [Act.put, List.setIfInBounds_toArray, List.set_cons_zero, List.set_cons_succ]
  refine wpAnyH_take (i := 3) (oi := { dst := some 9, op := Op.move (Operand.tmp 1), type := 3, pos := "trail.go:29", after := #[], guard := none }) (v := ?_) rfl (by kernel_rfl) (by kernel_rfl) (by kernel_rfl) (fun _ _ _ h => h) (Or.inl ⟨by rfl, ?_⟩) (by assumption) ?_
  rotate_left
  · (intro w hSw; (try dsimp only at hSw); go_simp); first | done | with_reducible rfl
  simp only [Act.put, List.setIfInBounds_toArray, List.set_cons_zero, List.set_cons_succ]
  refine wpAnyH_take (i := 4) (oi := { dst := some 10, op := Op.move (Operand.tmp 2), type := 3, pos := "trail.go:29", after := #[{ on := 7, ground := Ground.gcOnly Departure.lateStores }], guard := none }) (v := ?_) rfl (by kernel_rfl) (by kernel_rfl) (by kernel_rfl) (fun _ _ _ h => h) (Or.inl ⟨by rfl, ?_⟩) (by assumption) ?_
  rotate_left
  · (intro w hSw; (try dsimp only at hSw); go_simp); first | done | with_reducible rfl
  simp only [Act.put, List.setIfInBounds_toArray, List.set_cons_zero, List.set_cons_succ]
  refine wpAnyH_take (i := 5) (oi := { dst := some 11, op := Op.nilCheck (Operand.tmp 6), type := 0, pos := "trail.go:29", after := #[{ on := 0, ground := Ground.data }, { on := 0, ground := Ground.phase }, { on := 1, ground := Ground.textOnly Departure.lateStores }, { on := 2, ground := Ground.textOnly Departure.lateStores }, { on := 3, ground := Ground.phase }, { on := 4, ground := Ground.textOnly Departure.lateStores }], guard := none }) (v := ?_) rfl (by kernel_rfl) (by kernel_rfl) (by kernel_rfl) (fun _ _ _ h => h) (Or.inl ⟨by rfl, ?_⟩) (by assumption) ?_
  rotate_left
  · (intro w hSw; (try dsimp only at hSw); go_simp); first | done | with_reducible rfl
  simp only [Act.put, List.setIfInBounds_toArray, List.set_cons_zero, List.set_cons_succ]
  refine wpAnyH_take (i := 6) (oi := { dst := some 12, op := Op.fieldAddr 115 (Operand.tmp 11) 1, type := 0, pos := "trail.go:29", after := #[{ on := 5, ground := Ground.data }, { on := 0, ground := Ground.phase }, { on := 1, ground := Ground.textOnly Departure.lateStores }, { on := 2, ground := Ground.textOnly Departure.lateStores }, { on := 3, ground := Ground.phase }, { on := 4, ground := Ground.textOnly Departure.lateStores }], guard := none }) (v := ?_) rfl (by kernel_rfl) (by kernel_rfl) (by kernel_rfl) (fun _ _ _ h => h) (Or.inl ⟨by rfl, ?_⟩) (by assumption) ?_
  rotate_left
  · (intro w hSw; (try dsimp only at hSw); go_simp); first | done | with_reducible rfl
  simp only [Act.put, List.setIfInBounds_toArray, List.set_cons_zero, List.set_cons_succ]
  refine wpAnyH_take (i := 8) (oi := { dst := some 13, op := Op.nilCheck (Operand.tmp 7), type := 0, pos := "trail.go:29", after := #[{ on := 1, ground := Ground.data }], guard := none }) (v := ?_) rfl (by kernel_rfl) (by kernel_rfl) (by kernel_rfl) (fun _ _ _ h => h) (Or.inl ⟨by rfl, ?_⟩) (by assumption) ?_
  rotate_left
  · (intro w hSw; (try dsimp only at hSw); go_simp); first | done | with_reducible rfl
  simp only [Act.put, List.setIfInBounds_toArray, List.set_cons_zero, List.set_cons_succ]
  refine wpAnyH_take (i := 9) (oi := { dst := some 14, op := Op.fieldAddr 115 (Operand.tmp 13) 2, type := 0, pos := "trail.go:29", after := #[{ on := 8, ground := Ground.data }], guard := none }) (v := ?_) rfl (by kernel_rfl) (by kernel_rfl) (by kernel_rfl) (fun _ _ _ h => h) (Or.inl ⟨by rfl, ?_⟩) (by assumption) ?_
  rotate_left
  · (intro w hSw; (try dsimp only at hSw); go_simp); first | done | with_reducible rfl
  simp only [Act.put, List.setIfInBounds_toArray, List.set_cons_zero, List.set_cons_succ]
  have HX1 := hide (HX.out.below (U.below_drew1 w))
  have d1 := HX1.out.c1
  have z1 := HX1.out.frozen 1
  refine wpAnyH_ready (rs := [7]) (by kernel_rfl) (by simp) ?_
  refine AllReadyH.cons rfl (fun K hK => ?_) ?_
  rotate_left
  · exact AllReadyH.nil
  go_simp
  refine hK.out _ _ trivial (fun hHeld => ?_)
  clear hK K
  have HX2 := hide (HX1.out.set1 (k : Int))
  have d2 := HX.out.c2 k hk16
  have z2 := HX.out.frozen (2 + k)
  refine wpAnyH_take (i := 10) (oi := { dst := some 15, op := Op.indexAddr 113 (Operand.tmp 14) (Operand.tmp 8), type := 0, pos := "trail.go:29", after := #[{ on := 9, ground := Ground.data }, { on := 2, ground := Ground.data }, { on := 0, ground := Ground.phase }, { on := 1, ground := Ground.phase }, { on := 2, ground := Ground.phase }, { on := 3, ground := Ground.phase }, { on := 4, ground := Ground.phase }, { on := 5, ground := Ground.phase }, { on := 6, ground := Ground.phase }, { on := 7, ground := Ground.phase }], guard := none }) (v := ?_) rfl (by kernel_rfl) (by kernel_rfl) (by kernel_rfl) (fun _ _ _ h => h) (Or.inl ⟨by rfl, ?_⟩) (by assumption) ?_
  rotate_left
  · (intro w hSw; (try dsimp only at hSw); go_simp); first | done | with_reducible rfl
  simp only [Act.put, List.setIfInBounds_toArray, List.set_cons_zero, List.set_cons_succ]
  refine wpAnyH_ready (rs := [11]) (by kernel_rfl) (by simp) ?_
  refine AllReadyH.cons rfl (fun K hK => ?_) ?_
  rotate_left
  · exact AllReadyH.nil
  go_simp
  refine hK.out _ _ trivial (fun hHeld => ?_)
  clear hK K
  refine wpAnyH_done (by kernel_rfl) ?_ _
  clear hHeld
  have HF := hide (HX2.out.set2 k hk16 x)
  have HG := hide (((U.Kg.of_below (g := g) (U.below_drew1 w)).set 1 (.int .i64 (k : Int))).set (2 + k) (.int .i64 x))
  go_wp2_with fail
  go_end0
  exact ⟨rfl, HF.out, HG.out⟩
end Go.Proofs.YtbmjiedpaffifaaGreat
namespace Go.Proofs.YtbmjiedpaffifaaGreat
open Go.RowKit

/-- a writer, and blocks that are none of its own -/
structure PW (w0 W : World) (gw : Nat) (ao : Option Addr) (n cap : Nat) (Z : List Int) (F : List (Nat × Obj)) : Prop where
  wk : U.Wk w0 W gw ao n cap Z
  keep : ∀ x ∈ F, W.heap[x.1]? = some x.2 ∧ x.1 ≠ gw ∧ U.blk ao ≠ some x.1
variable {w0 W W' : World} {gw : Nat} {ao : Option Addr} {n cap : Nat} {Z : List Int} {F : List (Nat × Obj)}
theorem PW.lt (h : PW w0 W gw ao n cap Z F) : gw < W.heap.size := h.wk.w.lt
theorem PW.row_lt (h : PW w0 W gw ao n cap Z F) (k : Nat) (e : U.blk ao = some k) : k < W.heap.size := h.wk.w.row.lt k e
theorem PW.below (h : PW w0 W gw ao n cap Z F) (b : Below W.heap.size W W') : PW w0 W' gw ao n cap Z F :=
  ⟨h.wk.below b, fun x hx => ⟨(b.block x.1 (Array.getElem?_eq_some_iff.1 (h.keep x hx).1).1).trans (h.keep x hx).1, (h.keep x hx).2⟩⟩
theorem PW.put (h : PW w0 W gw ao n cap Z F) {Y : List Int} (P : U.Puts W W' gw ao Z Y false) : ∃ bo m cc, PW w0 W' gw bo m cc (Z ++ Y) F := by
  obtain ⟨bo, m, cc, W1, h2, K⟩ := P
  obtain ⟨bo', m', cc', hk⟩ := h.wk.put ⟨bo, m, cc, W1, h2, K⟩
  have e0 := hk.w.c0
  have e1 : W'.cell? ⟨gw, 0, none⟩ = some (.slice bo m cc) := by have := W1.c0; exact this
  rw [e1] at e0
  simp only [Option.some.injEq, Value.slice.injEq] at e0
  obtain ⟨rfl, rfl, rfl⟩ := e0
  refine ⟨_, _, _, hk, fun x hx => ?_⟩
  obtain ⟨a1, a2, a3⟩ := h.keep x hx
  have hl := (Array.getElem?_eq_some_iff.1 a1).1
  refine ⟨(K.block x.1 hl a2 (fun e => a3 e.symm)).trans a1, a2, fun e => ?_⟩
  rcases K.lies with y | y | ⟨j, y, hj⟩
  · rw [y] at e; cases e
  · exact a3 (y ▸ e)
  · rw [y] at e
    have := Option.some.inj e
    omega
theorem PW.add (h : PW w0 W gw ao n cap Z F) (ob : Obj) : PW w0 (W.alloc ob) gw ao n cap Z ((W.heap.size, ob) :: F) := by
  have hb := h.below (U.below_new W ob)
  refine ⟨hb.wk, fun x hx => ?_⟩
  rcases List.mem_cons.1 hx with rfl | hx
  · exact ⟨heap_alloc_new W ob, (fun e => by have := h.lt; omega), fun e => by have := h.row_lt _ e; omega⟩
  · exact hb.keep x hx
theorem PW.sub (h : PW w0 W gw ao n cap Z F) {F' : List (Nat × Obj)} (hs : ∀ x ∈ F', x ∈ F) : PW w0 W gw ao n cap Z F' := ⟨h.wk, fun x hx => h.keep x (hs x hx)⟩
/-- one of the kept blocks was written -/
theorem PW.turn (h : PW w0 W gw ao n cap Z F) {g : Nat} {o1 o2 : Obj} (h1 : (g, o1) ∈ F) (hg0 : w0.heap.size ≤ g) (K : U.Kg W W' g) (h2 : W'.heap[g]? = some o2) {F' : List (Nat × Obj)} (hF : ∀ x ∈ F', x = (g, o2) ∨ (x ∈ F ∧ x.1 ≠ g)) : PW w0 W' gw ao n cap Z F' := by
  obtain ⟨a1, a2, a3⟩ := h.keep _ h1
  have hw : W'.heap[gw]? = W.heap[gw]? := K.block gw h.lt (fun e => a2 e.symm)
  refine ⟨⟨⟨hw.trans h.wk.w.box, h.wk.w.row.keep (fun k e => K.block k (h.row_lt k e) (fun e2 => a3 (by rw [e, e2]))), h.wk.w.ne, h.wk.w.nil⟩, ⟨K.os.trans h.wk.bel.os, K.tape.trans h.wk.bel.tape, K.output.trans h.wk.bel.output, Nat.le_trans h.wk.bel.size K.size, fun k hk => (K.block k (Nat.lt_of_lt_of_le hk h.wk.bel.size) (by omega)).trans (h.wk.bel.block k hk)⟩, h.wk.ge, h.wk.row⟩, fun x hx => ?_⟩
  rcases hF x hx with rfl | ⟨hx, hne⟩
  · exact ⟨h2, a2, a3⟩
  · obtain ⟨b1, b2, b3⟩ := h.keep x hx
    exact ⟨(K.block x.1 (Array.getElem?_eq_some_iff.1 b1).1 hne).trans b1, b2, b3⟩
theorem box_cell {W : World} {g : Nat} {v : Value} {t : TypeId} (h : W.heap[g]? = some (.cells #[v] t)) : W.cell? ⟨g, 0, none⟩ = some v := by simp [World.cell?, h]
set_option maxRecDepth 100000 in
set_option maxHeartbeats 1600000 in
theorem placeG_any (h : PW w0 W gw ao n cap Z F) {gt : Nat} {gap r0 : Int} {T : Nat → Int} (hgap : 1 ≤ gap ∧ gap ≤ 2) (ht : (gt, .cells (TC gap r0 T).toArray 115 (0, 0)) ∈ F) (k : Nat) (hk : k < 16) (num : Int) (h1 : 0 ≤ r0 ∧ r0 ≤ (k : Int)) (h2 : T k + gap ≤ num) (h3 : 0 ≤ T k ∧ T k ≤ 1000000000) (h4 : num ≤ 1000000000) (hn : n ≤ 100000000000000) :
    Calls Tryz.prog 48 #[.agg #[U.ptr gw], U.ptr gt, .int .i64 (k : Int), .int .i64 num] W fun e w' => e = .returned (.tuple #[]) ∧ ∃ bo m cc, PW w0 w' gw bo m cc (Z ++ (nB ((k : Int) - r0) ++ nB (num - (T k + gap)))) F := by
  have HP := hide (h.add (.cells #[U.ptr gw] 58))
  obtain ⟨W1, hW1⟩ : ∃ W1, W.alloc (.cells #[U.ptr gw] 58) = W1 := ⟨_, rfl⟩
  obtain ⟨b4, hb4⟩ : ∃ b4, W.heap.size = b4 := ⟨_, rfl⟩
  rw [hW1, hb4] at HP
  have HM : Hid ((gt, .cells (TC gap r0 T).toArray 115 (0, 0)) ∈ ((b4, Obj.cells #[U.ptr gw] 58) :: F)) := List.mem_cons_of_mem _ ht
  have HC : Hid (∀ V bo m cc Y, PW w0 V gw bo m cc Y ((b4, Obj.cells #[U.ptr gw] 58) :: F) → V.cell? ⟨b4, 0, none⟩ = some (U.ptr gw) ∧ TrB V gt gap r0 T) := fun V bo m cc Y hV => ⟨box_cell (hV.keep _ List.mem_cons_self).1, (hV.keep _ HM.out).1⟩
  have HQ : Hid (n ≤ 100000000000000 ∧ (0 ≤ r0 ∧ r0 ≤ (k : Int)) ∧ T k + gap ≤ num ∧ (0 ≤ T k ∧ T k ≤ 1000000000) ∧ num ≤ 1000000000 ∧ k < 16) := ⟨hn, h1, h2, h3, h4, hk⟩
  have hw1 : IntKind.i64.wrap ((k : Int) - r0) = ((((k : Int) - r0).toNat : Nat) : Int) := by rw [IntKind.wrap_i64]; omega
  have hw2 : IntKind.i64.wrap (num - (T k + gap)) = (((num - (T k + gap)).toNat : Nat) : Int) := by rw [IntKind.wrap_i64]; omega
  obtain ⟨x1, hx1⟩ : ∃ x1, ((k : Int) - r0).toNat = x1 := ⟨_, rfl⟩
  obtain ⟨x2, hx2⟩ : ∃ x2, (num - (T k + gap)).toNat = x2 := ⟨_, rfl⟩
  obtain ⟨tk, htk⟩ : ∃ tk, T k + gap = tk := ⟨_, rfl⟩
  rw [htk] at hw2 hx2
  rw [hx1] at hw1
  rw [hx2] at hw2
  have HB : Hid (x1 ≤ 15 ∧ x2 ≤ 1000000000 ∧ nB ((k : Int) - r0) = U.numB x1 ∧ nB (num - (T k + gap)) = U.numB x2) := ⟨by omega, by omega, by rw [← hx1]; rfl, by rw [htk, ← hx2]; rfl⟩
  rw [HB.out.2.2.1, HB.out.2.2.2]
  have HTK := hide htk
  have HGp := hide hgap
  clear h h1 h2 h3 h4 hn ht hk hx1 hx2 htk
  go_enter Tryz.func48, Tryz.ntmps48
  go_wp2_with fail
  clear hW1
  refine wp_region_held_drew (S := fun v => v.cell? ⟨b4, 0, none⟩ = some (U.ptr gw) ∧ v.cell? ⟨gt, 1, none⟩ = some (.int .i64 r0)) (by kernel_rfl) (⟨(HC.out _ _ _ _ _ (HP.out.below (U.below_drew1 W1))).1, (HC.out _ _ _ _ _ (HP.out.below (U.below_drew1 W1))).2.c1⟩) (fun hHeld => ?_)
  refine wpAnyH_take (i := 0) (oi := { dst := some 8, op := Op.fieldAddr 58 (Operand.tmp 4) 0, type := 0, pos := "writer.go:46", after := #[], guard := none }) (v := ?_) rfl (by kernel_rfl) (by kernel_rfl) (by kernel_rfl) (fun _ _ _ h => h) (Or.inl ⟨by rfl, ?_⟩) (by assumption) ?_
  rotate_left
  · (intro w hSw; (try dsimp only at hSw); go_simp); first | done | with_reducible rfl
  simp only [Act.put, List.setIfInBounds_toArray, List.set_cons_zero, List.set_cons_succ]
  refine wpAnyH_take (i := 1) (oi := { dst := some 9, op := Op.load 56 (Operand.tmp 8), type := 56, pos := "writer.go:46", after := #[{ on := 0, ground := Ground.data }], guard := none }) (v := ?_) rfl (by kernel_rfl) (by kernel_rfl) (by kernel_rfl) (fun _ _ _ h => h) (Or.inl ⟨by rfl, ?_⟩) (by assumption) ?_
  rotate_left
  · (intro w hSw; (try dsimp only at hSw); go_simp); first | done | with_reducible rfl
  simp only [Act.put, List.setIfInBounds_toArray, List.set_cons_zero, List.set_cons_succ]
  refine wpAnyH_take (i := 2) (oi := { dst := some 10, op := Op.move (Operand.tmp 2), type := 3, pos := "writer.go:46", after := #[], guard := none }) (v := ?_) rfl (by kernel_rfl) (by kernel_rfl) (by kernel_rfl) (fun _ _ _ h => h) (Or.inl ⟨by rfl, ?_⟩) (by assumption) ?_
  rotate_left
  · (intro w hSw; (try dsimp only at hSw); go_simp); first | done | with_reducible rfl
  simp only [Act.put, List.setIfInBounds_toArray, List.set_cons_zero, List.set_cons_succ]
  refine wpAnyH_take (i := 3) (oi := { dst := some 11, op := Op.move (Operand.tmp 1), type := 85, pos := "writer.go:46", after := #[], guard := none }) (v := ?_) rfl (by kernel_rfl) (by kernel_rfl) (by kernel_rfl) (fun _ _ _ h => h) (Or.inl ⟨by rfl, ?_⟩) (by assumption) ?_
  rotate_left
  · (intro w hSw; (try dsimp only at hSw); go_simp); first | done | with_reducible rfl
  simp only [Act.put, List.setIfInBounds_toArray, List.set_cons_zero, List.set_cons_succ]
  refine wpAnyH_take (i := 4) (oi := { dst := some 12, op := Op.nilCheck (Operand.tmp 11), type := 0, pos := "writer.go:46", after := #[{ on := 3, ground := Ground.data }], guard := none }) (v := ?_) rfl (by kernel_rfl) (by kernel_rfl) (by kernel_rfl) (fun _ _ _ h => h) (Or.inl ⟨by rfl, ?_⟩) (by assumption) ?_
  rotate_left
  · (intro w hSw; (try dsimp only at hSw); go_simp); first | done | with_reducible rfl
  simp only [Act.put, List.setIfInBounds_toArray, List.set_cons_zero, List.set_cons_succ]
  refine wpAnyH_take (i := 5) (oi := { dst := some 13, op := Op.fieldAddr 115 (Operand.tmp 12) 1, type := 0, pos := "writer.go:46", after := #[{ on := 4, ground := Ground.data }], guard := none }) (v := ?_) rfl (by kernel_rfl) (by kernel_rfl) (by kernel_rfl) (fun _ _ _ h => h) (Or.inl ⟨by rfl, ?_⟩) (by assumption) ?_
  rotate_left
  · (intro w hSw; (try dsimp only at hSw); go_simp); first | done | with_reducible rfl
  simp only [Act.put, List.setIfInBounds_toArray, List.set_cons_zero, List.set_cons_succ]
  refine wpAnyH_take (i := 6) (oi := { dst := some 14, op := Op.load 3 (Operand.tmp 13), type := 3, pos := "writer.go:46", after := #[{ on := 5, ground := Ground.data }], guard := none }) (v := ?_) rfl (by kernel_rfl) (by kernel_rfl) (by kernel_rfl) (fun _ _ _ h => h) (Or.inl ⟨by rfl, ?_⟩) (by assumption) ?_
  rotate_left
  · (intro w hSw; (try dsimp only at hSw); go_simp); first | done | with_reducible rfl
  simp only [Act.put, List.setIfInBounds_toArray, List.set_cons_zero, List.set_cons_succ]
  refine wpAnyH_take (i := 7) (oi := { dst := some 15, op := Op.binOp BinOp.sub 3 (Operand.tmp 10) (Operand.tmp 14) 3, type := 3, pos := "writer.go:46", after := #[{ on := 2, ground := Ground.data }, { on := 6, ground := Ground.data }], guard := none }) (v := ?_) rfl (by kernel_rfl) (by kernel_rfl) (by kernel_rfl) (fun _ _ _ h => h) (Or.inl ⟨by rfl, ?_⟩) (by assumption) ?_
  rotate_left
  · (intro w hSw; (try dsimp only at hSw); go_simp); first | done | with_reducible rfl
  simp only [Act.put, List.setIfInBounds_toArray, List.set_cons_zero, List.set_cons_succ]
  refine wpAnyH_ready (rs := [8]) (by kernel_rfl) (by simp) ?_
  refine AllReadyH.cons rfl (fun K hK => ?_) ?_
  rotate_left
  · exact AllReadyH.nil
  go_simp
  go_wp2_with fail
  refine (U.wnum_any ao n cap Z false x1 _ (HP.out.below (U.below_drew1 W1)).wk.w (fun e => by cases e) (by have := HB.out; omega) (by have := HQ.out; omega)).mono ?_
  rintro e W2 ⟨rfl, hp2⟩
  obtain ⟨bo, m, cc, P2⟩ := (HP.out.below (U.below_drew1 W1)).put hp2
  have HP2 := hide P2
  refine hK.out _ _ (⟨(HC.out _ _ _ _ _ (P2)).1, (HC.out _ _ _ _ _ (P2)).2.c1⟩) (fun hHeld => ?_)
  clear hK K hp2 P2
  refine wpAnyH_done (by kernel_rfl) ?_ _
  clear hHeld
  go_wp2_with fail
  refine wp_region_held_drew (S := fun v => v.cell? ⟨b4, 0, none⟩ = some (U.ptr gw) ∧ v.cell? ⟨gt, 1, none⟩ = some (.int .i64 r0)) (by kernel_rfl) (⟨(HC.out _ _ _ _ _ (HP2.out.below (U.below_drew1 W2))).1, (HC.out _ _ _ _ _ (HP2.out.below (U.below_drew1 W2))).2.c1⟩) (fun hHeld => ?_)
  refine wpAnyH_take (i := 0) (oi := { dst := some 17, op := Op.fieldAddr 58 (Operand.tmp 4) 0, type := 0, pos := "writer.go:47", after := #[], guard := none }) (v := ?_) rfl (by kernel_rfl) (by kernel_rfl) (by kernel_rfl) (fun _ _ _ h => h) (Or.inl ⟨by rfl, ?_⟩) (by assumption) ?_
  rotate_left
  · (intro w hSw; (try dsimp only at hSw); go_simp); first | done | with_reducible rfl
  simp only [Act.put, List.setIfInBounds_toArray, List.set_cons_zero, List.set_cons_succ]
  refine wpAnyH_take (i := 1) (oi := { dst := some 18, op := Op.load 56 (Operand.tmp 17), type := 56, pos := "writer.go:47", after := #[{ on := 0, ground := Ground.data }], guard := none }) (v := ?_) rfl (by kernel_rfl) (by kernel_rfl) (by kernel_rfl) (fun _ _ _ h => h) (Or.inl ⟨by rfl, ?_⟩) (by assumption) ?_
  rotate_left
  · (intro w hSw; (try dsimp only at hSw); go_simp); first | done | with_reducible rfl
  simp only [Act.put, List.setIfInBounds_toArray, List.set_cons_zero, List.set_cons_succ]
  refine wpAnyH_take (i := 2) (oi := { dst := some 19, op := Op.move (Operand.tmp 3), type := 3, pos := "writer.go:47", after := #[], guard := none }) (v := ?_) rfl (by kernel_rfl) (by kernel_rfl) (by kernel_rfl) (fun _ _ _ h => h) (Or.inl ⟨by rfl, ?_⟩) (by assumption) ?_
  rotate_left
  · (intro w hSw; (try dsimp only at hSw); go_simp); first | done | with_reducible rfl
  simp only [Act.put, List.setIfInBounds_toArray, List.set_cons_zero, List.set_cons_succ]
  refine wpAnyH_take (i := 3) (oi := { dst := some 20, op := Op.move (Operand.tmp 1), type := 85, pos := "writer.go:47", after := #[], guard := none }) (v := ?_) rfl (by kernel_rfl) (by kernel_rfl) (by kernel_rfl) (fun _ _ _ h => h) (Or.inl ⟨by rfl, ?_⟩) (by assumption) ?_
  rotate_left
  · (intro w hSw; (try dsimp only at hSw); go_simp); first | done | with_reducible rfl
  simp only [Act.put, List.setIfInBounds_toArray, List.set_cons_zero, List.set_cons_succ]
  refine wpAnyH_take (i := 4) (oi := { dst := some 21, op := Op.move (Operand.tmp 2), type := 3, pos := "writer.go:47", after := #[], guard := none }) (v := ?_) rfl (by kernel_rfl) (by kernel_rfl) (by kernel_rfl) (fun _ _ _ h => h) (Or.inl ⟨by rfl, ?_⟩) (by assumption) ?_
  rotate_left
  · (intro w hSw; (try dsimp only at hSw); go_simp); first | done | with_reducible rfl
  simp only [Act.put, List.setIfInBounds_toArray, List.set_cons_zero, List.set_cons_succ]
  refine wpAnyH_ready (rs := [5]) (by kernel_rfl) (by simp) ?_
  refine AllReadyH.cons rfl (fun K hK => ?_) ?_
  rotate_left
  · exact AllReadyH.nil
  go_simp
  go_wp2_with fail
  refine (least_any (HC.out _ _ _ _ _ (HP2.out.below (U.below_drew1 W2))).2 k HQ.out.2.2.2.2.2 (by have := HGp.out; omega) HQ.out.2.2.2.1).mono ?_
  rintro e W3 ⟨rfl, b3⟩
  rw [HTK.out]
  have P3 := (HP2.out.below (U.below_drew1 W2)).below b3
  have HP3 := hide P3
  refine hK.out _ _ (⟨(HC.out _ _ _ _ _ (P3)).1, (HC.out _ _ _ _ _ (P3)).2.c1⟩) (fun hHeld => ?_)
  clear hK K b3 P3
  refine wpAnyH_take (i := 6) (oi := { dst := some 23, op := Op.binOp BinOp.sub 3 (Operand.tmp 19) (Operand.tmp 22) 3, type := 3, pos := "writer.go:47", after := #[{ on := 2, ground := Ground.data }, { on := 5, ground := Ground.data }], guard := none }) (v := ?_) rfl (by kernel_rfl) (by kernel_rfl) (by kernel_rfl) (fun _ _ _ h => h) (Or.inl ⟨by rfl, ?_⟩) (by assumption) ?_
  rotate_left
  · (intro w hSw; (try dsimp only at hSw); go_simp); first | done | with_reducible rfl
  simp only [Act.put, List.setIfInBounds_toArray, List.set_cons_zero, List.set_cons_succ]
  refine wpAnyH_ready (rs := [7]) (by kernel_rfl) (by simp) ?_
  refine AllReadyH.cons rfl (fun K hK => ?_) ?_
  rotate_left
  · exact AllReadyH.nil
  go_simp
  go_wp2_with fail
  refine (U.wnum_any bo m cc _ false x2 _ HP3.out.wk.w (fun e => by cases e) (by have := HB.out; omega) (by have h5 := HP3.out.wk.len; have h6 := HP.out.wk.len; have h7 := U.numB_len 9 x1 (by have := HB.out; omega); have := HQ.out; rw [List.length_append] at h5; omega)).mono ?_
  rintro e W4 ⟨rfl, hp4⟩
  obtain ⟨bo2, m2, cc2, P4⟩ := HP3.out.put hp4
  have HP4 := hide P4
  refine hK.out _ _ (⟨(HC.out _ _ _ _ _ (P4)).1, (HC.out _ _ _ _ _ (P4)).2.c1⟩) (fun hHeld => ?_)
  clear hK K hp4 P4
  refine wpAnyH_done (by kernel_rfl) ?_ _
  clear hHeld
  go_wp2_with fail
  go_end0
  refine ⟨rfl, bo2, m2, cc2, ?_⟩
  have := HP4.out.sub (F' := F) (fun x hx => List.mem_cons_of_mem _ hx)
  rw [List.append_assoc] at this
  exact this
theorem place_any (h : PW w0 W gw ao n cap Z F) {gt : Nat} {r0 : Int} {T : Nat → Int} (ht : (gt, .cells (TC 2 r0 T).toArray 115 (0, 0)) ∈ F) (k : Nat) (hk : k < 16) (num : Int) (h1 : 0 ≤ r0 ∧ r0 ≤ (k : Int)) (h2 : T k + 2 ≤ num) (h3 : 0 ≤ T k ∧ T k ≤ 1000000000) (h4 : num ≤ 1000000000) (hn : n ≤ 100000000000000) :
    Calls Tryz.prog 48 #[.agg #[U.ptr gw], U.ptr gt, .int .i64 (k : Int), .int .i64 num] W fun e w' => e = .returned (.tuple #[]) ∧ ∃ bo m cc, PW w0 w' gw bo m cc (Z ++ (nB ((k : Int) - r0) ++ nB (num - (T k + 2)))) F := placeG_any h (gap := 2) ⟨by decide, by decide⟩ ht k hk num h1 h2 h3 h4 hn
end Go.Proofs.YtbmjiedpaffifaaGreat
