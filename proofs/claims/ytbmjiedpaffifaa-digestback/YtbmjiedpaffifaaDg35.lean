/- FTr FPa -/
import Derived.Test.YtbmjiedpaffifaaDg34
import Derived.Test.YtbmjiedpaffifaaDg00
import Derived.Laws.CopyOwn
import Derived.Deep.RegionHeld
import Derived.Test.YtbmjiedpaffifaaDg23
import Derived.Test.YtbmjiedpaffifaaDg05
import Derived.Test.YtbmjiedpaffifaaDg19
namespace Go.Proofs.Ytbmjiedpaffifaa
open Go.RowKit

/-- a trail's cells -/
def TC (gap r0 : Int) (T : Nat → Int) : List Value := .int .i64 gap :: .int .i64 r0 :: (List.range 16).map fun k => .int .i64 (T k)
theorem TC_length (gap r0 : Int) (T : Nat → Int) : (TC gap r0 T).length = 18 := by simp [TC]
theorem TC_at (gap r0 : Int) (T : Nat → Int) (k : Nat) (h : k < 16) : (TC gap r0 T)[2 + k]? = some (.int .i64 (T k)) := by
  rw [Nat.add_comm]
  simp [TC, h]
theorem TC_congr {gap r0 : Int} {T T' : Nat → Int} (h : ∀ k, k < 16 → T k = T' k) : TC gap r0 T = TC gap r0 T' := by
  unfold TC
  congr 2
  exact List.map_congr_left fun k hk => by rw [h k (List.mem_range.1 hk)]
def TrB (w : World) (g : Nat) (gap r0 : Int) (T : Nat → Int) : Prop := w.heap[g]? = some (.cells (TC gap r0 T).toArray 155 (0, 0))
variable {w w' : World} {g : Nat} {gap r0 : Int} {T : Nat → Int}
theorem TrB.lt (h : TrB w g gap r0 T) : g < w.heap.size := (Array.getElem?_eq_some_iff.1 h).1
theorem TrB.below (h : TrB w g gap r0 T) (hb : Below w.heap.size w w') : TrB w' g gap r0 T := (hb.block g h.lt).trans h
theorem TrB.c0 (h : TrB w g gap r0 T) : w.cell? ⟨g, 0, none⟩ = some (.int .i64 gap) := by unfold TrB at h; simp [World.cell?, h, TC]
theorem TrB.c1 (h : TrB w g gap r0 T) : w.cell? ⟨g, 1, none⟩ = some (.int .i64 r0) := by unfold TrB at h; simp [World.cell?, h, TC]
theorem TrB.c2 (h : TrB w g gap r0 T) (k : Nat) (hk : k < 16) : w.cell? ⟨g, 2 + k, none⟩ = some (.int .i64 (T k)) := by
  unfold TrB at h
  have := TC_at gap r0 T k hk
  simp only [World.cell?, h]
  simpa using this
theorem TrB.frozen (h : TrB w g gap r0 T) (j : Nat) : w.frozen? ⟨g, j, none⟩ = false := by unfold TrB at h; simp [World.frozen?, h]
theorem TC_set1 (gap r0 x : Int) (T : Nat → Int) : (TC gap r0 T).set 1 (.int .i64 x) = TC gap x T := by simp [TC]
theorem TC_set2 (gap r0 x : Int) (T : Nat → Int) (k : Nat) (hk : k < 16) : (TC gap r0 T).set (2 + k) (.int .i64 x) = TC gap r0 (fun j => if j = k then x else T j) := by
  apply List.ext_getElem?
  intro i
  rw [List.getElem?_set]
  by_cases h0 : 2 + k = i
  · subst h0
    rw [if_pos rfl, TC_length, if_pos (by omega), TC_at _ _ _ k hk, if_pos rfl]
  · rw [if_neg h0]
    match i with
    | 0 => rfl
    | 1 => rfl
    | j + 2 =>
      by_cases hj : j < 16
      · have e : j + 2 = 2 + j := by omega
        rw [e, TC_at _ _ _ j hj, TC_at _ _ _ j hj, if_neg (by omega)]
      · rw [List.getElem?_eq_none (by rw [TC_length]; omega), List.getElem?_eq_none (by rw [TC_length]; omega)]
theorem TrB.set1 (h : TrB w g gap r0 T) (x : Int) : TrB (w.setCell ⟨g, 1, none⟩ (.int .i64 x)) g gap x T := by
  have := U.set_heap w g _ _ _ 1 (.int .i64 x) h
  unfold TrB
  rw [this, ← TC_set1 gap r0 x T]
  simp
theorem TrB.set2 (h : TrB w g gap r0 T) (k : Nat) (hk : k < 16) (x : Int) : TrB (w.setCell ⟨g, 2 + k, none⟩ (.int .i64 x)) g gap r0 (fun j => if j = k then x else T j) := by
  have := U.set_heap w g _ _ _ (2 + k) (.int .i64 x) h
  unfold TrB
  rw [this, ← TC_set2 gap r0 x T k hk]
  simp
theorem TC_zero (gap : Int) : (#[.int .i64 gap, .int .i64 0, .int .i64 0, .int .i64 0, .int .i64 0, .int .i64 0, .int .i64 0, .int .i64 0, .int .i64 0, .int .i64 0, .int .i64 0, .int .i64 0, .int .i64 0, .int .i64 0, .int .i64 0, .int .i64 0, .int .i64 0, .int .i64 0] : Array Value) = (TC gap 0 (fun _ => 0)).toArray := rfl
theorem TC_splice (gap : Int) (Z : List Int) (h : Z.length ≤ 16) : splice (TC gap 0 (fun _ => 0)) 2 (Z.map fun x => Value.int .i64 x) = TC gap 0 (fun k => Z.getD k 0) := by
  apply List.ext_getElem?
  intro i
  have hl : ((TC gap 0 (fun _ => 0)).take 2).length = 2 := by rw [List.length_take, TC_length]; rfl
  unfold splice
  match i with
  | 0 => rfl
  | 1 => rfl
  | j + 2 =>
    rw [List.getElem?_append_right (by omega), hl, show j + 2 - 2 = j by omega]
    by_cases hj : j < 16
    · rw [show j + 2 = 2 + j by omega, TC_at _ _ _ j hj]
      by_cases hz : j < Z.length
      · rw [List.getElem?_append_left (by simpa using hz)]
        simp [hz]
      · rw [List.getElem?_append_right (by simp; omega)]
        simp only [List.length_map]
        rw [List.getElem?_drop, show 2 + Z.length + (j - Z.length) = 2 + j by omega, TC_at _ _ _ j hj]
        simp [hz]
    · rw [List.getElem?_eq_none (by simp [TC_length]; omega), List.getElem?_eq_none (by rw [TC_length]; omega)]
set_option maxRecDepth 100000 in
theorem newTrail_any (gap : Int) (ao : Option Addr) (n c : Nat) (Z : List Int) (w : World) (hl : Z.length = n) (hn : n ≤ 16) (hnil : ao = none → n = 0) (hs : ∀ ad, ao = some ad → ∀ t, t < n → w.cell? (ad.add t) = some (.int .i64 (Z.getD t 0))) :
    Calls Try.prog 100 #[.int .i64 gap, .slice ao n c] w fun e w' => e = .returned (U.ptr w.heap.size) ∧ TrB w' w.heap.size gap 0 (fun k => Z.getD k 0) ∧ Below w.heap.size w w' := by
  have b1 := U.below_new w (.cells (TC gap 0 (fun _ => 0)).toArray 155)
  have hx := heap_alloc_new w (.cells (TC gap 0 (fun _ => 0)).toArray 155)
  have HB := hide b1
  have HX := hide hx
  have HSr : Hid (0 < (Z.map fun x => Value.int .i64 x).length → (some ⟨w.heap.size, 2, none⟩ : Option Addr) = some ⟨w.heap.size, 2, none⟩ ∧ ∃ ad, ao = some ad ∧ ∀ j v, (Z.map fun x => Value.int .i64 x)[j]? = some v → (w.alloc (.cells (TC gap 0 (fun _ => 0)).toArray 155)).cell? (ad.add j) = some v) := by
    intro h0
    refine ⟨rfl, ?_⟩
    cases ao with
    | none => have := hnil rfl; simp at h0; omega
    | some ad =>
      refine ⟨ad, rfl, fun j v hv => ?_⟩
      rw [List.getElem?_map, Option.map_eq_some_iff] at hv
      obtain ⟨y, hy, rfl⟩ := hv
      obtain ⟨hj, rfl⟩ := List.getElem?_eq_some_iff.1 hy
      have := hs ad rfl j (by omega)
      rw [b1.cell (World.block_lt_of_cell? _ _ this), this, List.getD_eq_getElem?_getD, List.getElem?_eq_getElem hj]
      rfl
  have HL : Hid (Z.length = n ∧ n ≤ 16) := ⟨hl, hn⟩
  have hz := TC_zero gap
  obtain ⟨w5, hcp, hg5, hb5⟩ : ∃ w5, (Builtin.copy_ #[22, 22] 3 #[.slice (some ⟨w.heap.size, 2, none⟩) 16 16, .slice ao n c]).run Try.prog (w.alloc (.cells (TC gap 0 (fun _ => 0)).toArray 155)) = .ok (goInt n) w5 ∧ TrB w5 w.heap.size gap 0 (fun k => Z.getD k 0) ∧ Below w.heap.size w w5 := by
    by_cases h0 : n = 0
    · subst h0
      have h1 := run_copy_none (P := Try.prog) (w.alloc (.cells (TC gap 0 (fun _ => 0)).toArray 155)) 22 22 3 3 (some ⟨w.heap.size, 2, none⟩) ao 16 16 0 c Try.underlying22 (by kernel_rfl) (by rfl)
      refine ⟨_, h1, ?_, b1⟩
      obtain rfl : Z = [] := List.eq_nil_of_length_eq_zero hl
      exact hx
    · have hcs : 0 < (Z.map fun x => Value.int .i64 x).length := by simp; omega
      obtain ⟨-, ad, rfl, hsrc⟩ := HSr.out hcs
      have h1 := run_copy_row (P := Try.prog) (w.alloc (.cells (TC gap 0 (fun _ => 0)).toArray 155)) 22 22 3 3 w.heap.size 2 16 16 ad n c (TC gap 0 (fun _ => 0)).toArray 155 (Z.map fun x => Value.int .i64 x) Try.underlying22 (by kernel_rfl) hx (by simp only [List.length_map, hl]; exact (Nat.min_eq_left hn).symm) hsrc (by simp [TC_length]; omega) (by simp [Value.oneCell'])
      have el : (Z.map fun x => Value.int .i64 x).length = n := by simp [hl]
      rw [el] at h1
      refine ⟨_, h1, ?_, b1.trans (below_setRow ((Below.refl _ _)) (Nat.le_of_eq (by simp)) )⟩
      have h2 := setRow_heap (w.alloc (.cells (TC gap 0 (fun _ => 0)).toArray 155)) w.heap.size _ ((splice (TC gap 0 (fun _ => 0)) 2 (Z.map fun x => Value.int .i64 x)).toArray) 155 _ hx
      rw [TC_splice gap Z (by omega)] at h2
      rw [← TC_splice gap Z (by omega)] at h2
      have h3 := TC_splice gap Z (by omega)
      unfold TrB
      rw [← h3]
      unfold splice at h2 ⊢
      rw [el] at h2 ⊢
      exact h2
  have HF := hide hg5
  have HB5 := hide hb5
  clear b1 hx hs hnil hl hn hg5 hb5 HSr HX HB
  go_enter Try.func100, Try.ntmps100
  go_wp2_with fail
  go_ret
  exact ⟨rfl, HF.out, HB5.out⟩
set_option maxRecDepth 100000 in
theorem least_any (h : TrB w g gap r0 T) (k : Nat) (hk : k < 16) (hg : 0 ≤ gap ∧ gap ≤ 1000) (hT : 0 ≤ T k ∧ T k ≤ 1000000000) : Calls Try.prog 111 #[U.ptr g, .int .i64 (k : Int)] w fun e w' => e = .returned (.int .i64 (T k + gap)) ∧ Below w.heap.size w w' := by
  have HX := hide h
  obtain ⟨x, hx⟩ : ∃ x, T k = x := ⟨_, rfl⟩
  have hw : IntKind.i64.wrap (x + gap) = x + gap := by rw [IntKind.wrap_i64]; omega
  have Hx := hide hx
  have hk16 : k < 16 := hk
  have hkI : (k : Int) < 16 := by omega
  clear h
  rw [hx]
  clear hx
  go_enter Try.func111, Try.ntmps111
  go_wp2_with fail
  refine wp_region_held_drew (S := fun v => v.cell? ⟨g, 0, none⟩ = some (.int .i64 gap) ∧ v.cell? ⟨g, 2 + k, none⟩ = some (.int .i64 x)) (by kernel_rfl) (⟨(HX.out.below (U.below_drew1 w)).c0, by have := (HX.out.below (U.below_drew1 w)).c2 k hk16; rw [Hx.out] at this; exact this⟩) (fun hHeld => ?_)
  refine wpAnyH_take (i := 0) (oi := { dst := some 5, op := Op.move (Operand.tmp 0), type := 139, pos := "trail.go:26", after := #[], guard := none }) (v := ?_) rfl (by kernel_rfl) (by kernel_rfl) (by kernel_rfl) (fun _ _ _ h => h) (Or.inl ⟨by rfl, ?_⟩) (by assumption) ?_
  rotate_left
  · (intro w hSw; (try dsimp only at hSw); go_simp); first | done | with_reducible rfl
  simp only [Act.put, List.setIfInBounds_toArray, List.set_cons_zero, List.set_cons_succ]
  refine wpAnyH_take (i := 1) (oi := { dst := some 6, op := Op.move (Operand.tmp 1), type := 3, pos := "trail.go:26", after := #[], guard := none }) (v := ?_) rfl (by kernel_rfl) (by kernel_rfl) (by kernel_rfl) (fun _ _ _ h => h) (Or.inl ⟨by rfl, ?_⟩) (by assumption) ?_
  rotate_left
  · (intro w hSw; (try dsimp only at hSw); go_simp); first | done | with_reducible rfl
  simp only [Act.put, List.setIfInBounds_toArray, List.set_cons_zero, List.set_cons_succ]
  refine wpAnyH_take (i := 2) (oi := { dst := some 7, op := Op.nilCheck (Operand.tmp 5), type := 0, pos := "trail.go:26", after := #[{ on := 0, ground := Ground.data }], guard := none }) (v := ?_) rfl (by kernel_rfl) (by kernel_rfl) (by kernel_rfl) (fun _ _ _ h => h) (Or.inl ⟨by rfl, ?_⟩) (by assumption) ?_
  rotate_left
  · (intro w hSw; (try dsimp only at hSw); go_simp); first | done | with_reducible rfl
  simp only [Act.put, List.setIfInBounds_toArray, List.set_cons_zero, List.set_cons_succ]
  refine wpAnyH_take (i := 3) (oi := { dst := some 8, op := Op.fieldAddr 155 (Operand.tmp 7) 2, type := 0, pos := "trail.go:26", after := #[{ on := 2, ground := Ground.data }], guard := none }) (v := ?_) rfl (by kernel_rfl) (by kernel_rfl) (by kernel_rfl) (fun _ _ _ h => h) (Or.inl ⟨by rfl, ?_⟩) (by assumption) ?_
  rotate_left
  · (intro w hSw; (try dsimp only at hSw); go_simp); first | done | with_reducible rfl
  simp only [Act.put, List.setIfInBounds_toArray, List.set_cons_zero, List.set_cons_succ]
  refine wpAnyH_take (i := 4) (oi := { dst := some 9, op := Op.indexAddr 94 (Operand.tmp 8) (Operand.tmp 6), type := 0, pos := "trail.go:26", after := #[{ on := 3, ground := Ground.data }, { on := 1, ground := Ground.data }], guard := none }) (v := ?_) rfl (by kernel_rfl) (by kernel_rfl) (by kernel_rfl) (fun _ _ _ h => h) (Or.inl ⟨by rfl, ?_⟩) (by assumption) ?_
  rotate_left
  · (intro w hSw; (try dsimp only at hSw); go_simp); first | done | with_reducible rfl
  simp only [Act.put, List.setIfInBounds_toArray, List.set_cons_zero, List.set_cons_succ]
  refine wpAnyH_take (i := 5) (oi := { dst := some 10, op := Op.load 3 (Operand.tmp 9), type := 3, pos := "trail.go:26", after := #[{ on := 4, ground := Ground.data }], guard := none }) (v := ?_) rfl (by kernel_rfl) (by kernel_rfl) (by kernel_rfl) (fun _ _ _ h => h) (Or.inl ⟨by rfl, ?_⟩) (by assumption) ?_
  rotate_left
  · (intro w hSw; (try dsimp only at hSw); go_simp); first | done | with_reducible rfl
  simp only [Act.put, List.setIfInBounds_toArray, List.set_cons_zero, List.set_cons_succ]
  refine wpAnyH_take (i := 6) (oi := { dst := some 11, op := Op.move (Operand.tmp 0), type := 139, pos := "trail.go:26", after := #[], guard := none }) (v := ?_) rfl (by kernel_rfl) (by kernel_rfl) (by kernel_rfl) (fun _ _ _ h => h) (Or.inl ⟨by rfl, ?_⟩) (by assumption) ?_
  rotate_left
  · (intro w hSw; (try dsimp only at hSw); go_simp); first | done | with_reducible rfl
  simp only [Act.put, List.setIfInBounds_toArray, List.set_cons_zero, List.set_cons_succ]
  refine wpAnyH_take (i := 7) (oi := { dst := some 12, op := Op.nilCheck (Operand.tmp 11), type := 0, pos := "trail.go:26", after := #[{ on := 6, ground := Ground.data }], guard := none }) (v := ?_) rfl (by kernel_rfl) (by kernel_rfl) (by kernel_rfl) (fun _ _ _ h => h) (Or.inl ⟨by rfl, ?_⟩) (by assumption) ?_
  rotate_left
  · (intro w hSw; (try dsimp only at hSw); go_simp); first | done | with_reducible rfl
  simp only [Act.put, List.setIfInBounds_toArray, List.set_cons_zero, List.set_cons_succ]
  refine wpAnyH_take (i := 8) (oi := { dst := some 13, op := Op.fieldAddr 155 (Operand.tmp 12) 0, type := 0, pos := "trail.go:26", after := #[{ on := 7, ground := Ground.data }], guard := none }) (v := ?_) rfl (by kernel_rfl) (by kernel_rfl) (by kernel_rfl) (fun _ _ _ h => h) (Or.inl ⟨by rfl, ?_⟩) (by assumption) ?_
  rotate_left
  · (intro w hSw; (try dsimp only at hSw); go_simp); first | done | with_reducible rfl
  simp only [Act.put, List.setIfInBounds_toArray, List.set_cons_zero, List.set_cons_succ]
  refine wpAnyH_take (i := 9) (oi := { dst := some 14, op := Op.load 3 (Operand.tmp 13), type := 3, pos := "trail.go:26", after := #[{ on := 8, ground := Ground.data }], guard := none }) (v := ?_) rfl (by kernel_rfl) (by kernel_rfl) (by kernel_rfl) (fun _ _ _ h => h) (Or.inl ⟨by rfl, ?_⟩) (by assumption) ?_
  rotate_left
  · (intro w hSw; (try dsimp only at hSw); go_simp); first | done | with_reducible rfl
  simp only [Act.put, List.setIfInBounds_toArray, List.set_cons_zero, List.set_cons_succ]
  refine wpAnyH_take (i := 10) (oi := { dst := some 15, op := Op.binOp BinOp.add 3 (Operand.tmp 10) (Operand.tmp 14) 3, type := 3, pos := "trail.go:26", after := #[{ on := 5, ground := Ground.data }, { on := 9, ground := Ground.data }], guard := none }) (v := ?_) rfl (by kernel_rfl) (by kernel_rfl) (by kernel_rfl) (fun _ _ _ h => h) (Or.inl ⟨by rfl, ?_⟩) (by assumption) ?_
  rotate_left
  · (intro w hSw; (try dsimp only at hSw); go_simp); first | done | with_reducible rfl
  simp only [Act.put, List.setIfInBounds_toArray, List.set_cons_zero, List.set_cons_succ]
  refine wpAnyH_take (i := 11) (oi := { dst := some 4, op := Op.assign (Operand.tmp 15), type := 3, pos := "trail.go:26", after := #[{ on := 10, ground := Ground.data }, { on := 0, ground := Ground.phase }, { on := 1, ground := Ground.phase }, { on := 2, ground := Ground.phase }, { on := 3, ground := Ground.phase }, { on := 4, ground := Ground.phase }, { on := 5, ground := Ground.phase }, { on := 6, ground := Ground.phase }, { on := 7, ground := Ground.phase }, { on := 8, ground := Ground.phase }, { on := 9, ground := Ground.phase }, { on := 10, ground := Ground.phase }], guard := none }) (v := ?_) rfl (by kernel_rfl) (by kernel_rfl) (by kernel_rfl) (fun _ _ _ h => h) (Or.inl ⟨by rfl, ?_⟩) (by assumption) ?_
  rotate_left
  · (intro w hSw; (try dsimp only at hSw); go_simp); first | done | with_reducible rfl
  simp only [Act.put, List.setIfInBounds_toArray, List.set_cons_zero, List.set_cons_succ]
  refine wpAnyH_done (by kernel_rfl) ?_ _
  clear hHeld
  go_wp2_with fail
  go_ret
  exact ⟨rfl, U.below_drew1 w⟩
set_option maxRecDepth 100000 in
theorem pass_any (h : TrB w g gap r0 T) (k : Nat) (hk : k < 16) (x : Int) : Calls Try.prog 102 #[U.ptr g, .int .i64 (k : Int), .int .i64 x] w fun e w' => e = .returned (.tuple #[]) ∧ TrB w' g gap (k : Int) (fun j => if j = k then x else T j) ∧ U.Kg w w' g := by
  have HX := hide h
  have hk16 : k < 16 := hk
  have hkI : (k : Int) < 16 := by omega
  clear h
  go_enter Try.func102, Try.ntmps102
  refine wp_region_held_drew (S := fun _ => True) (by kernel_rfl) (trivial) (fun hHeld => ?_)
  refine wpAnyH_take (i := 0) (oi := { dst := some 6, op := Op.move (Operand.tmp 0), type := 139, pos := "trail.go:29", after := #[], guard := none }) (v := ?_) rfl (by kernel_rfl) (by kernel_rfl) (by kernel_rfl) (fun _ _ _ h => h) (Or.inl ⟨by rfl, ?_⟩) (by assumption) ?_
  rotate_left
  · (intro w hSw; (try dsimp only at hSw); go_simp); first | done | with_reducible rfl
  simp only [Act.put, List.setIfInBounds_toArray, List.set_cons_zero, List.set_cons_succ]
  refine wpAnyH_take (i := 1) (oi := { dst := some 7, op := Op.move (Operand.tmp 0), type := 139, pos := "trail.go:29", after := #[{ on := 7, ground := Ground.gcOnly Departure.lateStores }], guard := none }) (v := ?_) rfl (by kernel_rfl) (by kernel_rfl) (by kernel_rfl) (fun _ _ _ h => h) (Or.inl ⟨by rfl, ?_⟩) (by assumption) ?_
  rotate_left
  · (intro w hSw; (try dsimp only at hSw); go_simp); first | done | with_reducible rfl
  simp only [Act.put, List.setIfInBounds_toArray, List.set_cons_zero, List.set_cons_succ]
  refine wpAnyH_take (i := 2) (oi := { dst := some 8, op := Op.move (Operand.tmp 1), type := 3, pos := "trail.go:29", after := #[{ on := 7, ground := Ground.gcOnly Departure.lateStores }], guard := none }) (v := ?_) rfl (by kernel_rfl) (by kernel_rfl) (by kernel_rfl) (fun _ _ _ h => h) (Or.inl ⟨by rfl, ?_⟩) (by assumption) ?_
  rotate_left
  · (intro w hSw; (try dsimp only at hSw); go_simp); first | done | with_reducible rfl
  simp only [Act.put, List.setIfInBounds_toArray, List.set_cons_zero, List.set_cons_succ]
  refine wpAnyH_take (i := 3) (oi := { dst := some 9, op := Op.move (Operand.tmp 1), type := 3, pos := "trail.go:29", after := #[], guard := none }) (v := ?_) rfl (by kernel_rfl) (by kernel_rfl) (by kernel_rfl) (fun _ _ _ h => h) (Or.inl ⟨by rfl, ?_⟩) (by assumption) ?_
  rotate_left
  · (intro w hSw; (try dsimp only at hSw); go_simp); first | done | with_reducible rfl
  simp only [Act.put, List.setIfInBounds_toArray, List.set_cons_zero, List.set_cons_succ]
  refine wpAnyH_take (i := 4) (oi := { dst := some 10, op := Op.move (Operand.tmp 2), type := 3, pos := "trail.go:29", after := #[{ on := 7, ground := Ground.gcOnly Departure.lateStores }], guard := none }) (v := ?_) rfl (by kernel_rfl) (by kernel_rfl) (by kernel_rfl) (fun _ _ _ h => h) (Or.inl ⟨by rfl, ?_⟩) (by assumption) ?_
  rotate_left
  · (intro w hSw; (try dsimp only at hSw); go_simp); first | done | with_reducible rfl
  simp only [Act.put, List.setIfInBounds_toArray, List.set_cons_zero, List.set_cons_succ]
  refine wpAnyH_take (i := 5) (oi := { dst := some 11, op := Op.nilCheck (Operand.tmp 6), type := 0, pos := "trail.go:29", after := #[{ on := 0, ground := Ground.data }, { on := 0, ground := Ground.phase }, { on := 1, ground := Ground.textOnly Departure.lateStores }, { on := 2, ground := Ground.textOnly Departure.lateStores }, { on := 3, ground := Ground.phase }, { on := 4, ground := Ground.textOnly Departure.lateStores }], guard := none }) (v := ?_) rfl (by kernel_rfl) (by kernel_rfl) (by kernel_rfl) (fun _ _ _ h => h) (Or.inl ⟨by rfl, ?_⟩) (by assumption) ?_
  rotate_left
  · (intro w hSw; (try dsimp only at hSw); go_simp); first | done | with_reducible rfl
  simp only [Act.put, List.setIfInBounds_toArray, List.set_cons_zero, List.set_cons_succ]
  refine wpAnyH_take (i := 6) (oi := { dst := some 12, op := Op.fieldAddr 155 (Operand.tmp 11) 1, type := 0, pos := "trail.go:29", after := #[{ on := 5, ground := Ground.data }, { on := 0, ground := Ground.phase }, { on := 1, ground := Ground.textOnly Departure.lateStores }, { on := 2, ground := Ground.textOnly Departure.lateStores }, { on := 3, ground := Ground.phase }, { on := 4, ground := Ground.textOnly Departure.lateStores }], guard := none }) (v := ?_) rfl (by kernel_rfl) (by kernel_rfl) (by kernel_rfl) (fun _ _ _ h => h) (Or.inl ⟨by rfl, ?_⟩) (by assumption) ?_
  rotate_left
  · (intro w hSw; (try dsimp only at hSw); go_simp); first | done | with_reducible rfl
  simp only [Act.put, List.setIfInBounds_toArray, List.set_cons_zero, List.set_cons_succ]
  refine wpAnyH_take (i := 8) (oi := { dst := some 13, op := Op.nilCheck (Operand.tmp 7), type := 0, pos := "trail.go:29", after := #[{ on := 1, ground := Ground.data }], guard := none }) (v := ?_) rfl (by kernel_rfl) (by kernel_rfl) (by kernel_rfl) (fun _ _ _ h => h) (Or.inl ⟨by rfl, ?_⟩) (by assumption) ?_
  rotate_left
  · (intro w hSw; (try dsimp only at hSw); go_simp); first | done | with_reducible rfl
  simp only [Act.put, List.setIfInBounds_toArray, List.set_cons_zero, List.set_cons_succ]
  refine wpAnyH_take (i := 9) (oi := { dst := some 14, op := Op.fieldAddr 155 (Operand.tmp 13) 2, type := 0, pos := "trail.go:29", after := #[{ on := 8, ground := Ground.data }], guard := none }) (v := ?_) rfl (by kernel_rfl) (by kernel_rfl) (by kernel_rfl) (fun _ _ _ h => h) (Or.inl ⟨by rfl, ?_⟩) (by assumption) ?_
  rotate_left
  · (intro w hSw; (try dsimp only at hSw); go_simp); first | done | with_reducible rfl
  simp only [Act.put, List.setIfInBounds_toArray, List.set_cons_zero, List.set_cons_succ]
  have HX1 := hide (HX.out.below (U.below_drew1 w))
  have d1 := HX1.out.c1
  have z1 := HX1.out.frozen 1
  refine wpAnyH_ready (rs := [7]) (by kernel_rfl) (by simp) ?_
  refine AllReadyH.cons rfl (fun K hK => ?_) ?_
  rotate_left
  · exact AllReadyH.nil
  go_simp
  refine hK.out _ _ trivial (fun hHeld => ?_)
  clear hK K
  have HX2 := hide (HX1.out.set1 (k : Int))
  have d2 := HX.out.c2 k hk16
  have z2 := HX.out.frozen (2 + k)
  refine wpAnyH_take (i := 10) (oi := { dst := some 15, op := Op.indexAddr 94 (Operand.tmp 14) (Operand.tmp 8), type := 0, pos := "trail.go:29", after := #[{ on := 9, ground := Ground.data }, { on := 2, ground := Ground.data }, { on := 0, ground := Ground.phase }, { on := 1, ground := Ground.phase }, { on := 2, ground := Ground.phase }, { on := 3, ground := Ground.phase }, { on := 4, ground := Ground.phase }, { on := 5, ground := Ground.phase }, { on := 6, ground := Ground.phase }, { on := 7, ground := Ground.phase }], guard := none }) (v := ?_) rfl (by kernel_rfl) (by kernel_rfl) (by kernel_rfl) (fun _ _ _ h => h) (Or.inl ⟨by rfl, ?_⟩) (by assumption) ?_
  rotate_left
  · (intro w hSw; (try dsimp only at hSw); go_simp); first | done | with_reducible rfl
  simp only [Act.put, List.setIfInBounds_toArray, List.set_cons_zero, List.set_cons_succ]
  refine wpAnyH_ready (rs := [11]) (by kernel_rfl) (by simp) ?_
  refine AllReadyH.cons rfl (fun K hK => ?_) ?_
  rotate_left
  · exact AllReadyH.nil
  go_simp
  refine hK.out _ _ trivial (fun hHeld => ?_)
  clear hK K
  refine wpAnyH_done (by kernel_rfl) ?_ _
  clear hHeld
  have HF := hide (HX2.out.set2 k hk16 x)
  have HG := hide (((U.Kg.of_below (g := g) (U.below_drew1 w)).set 1 (.int .i64 (k : Int))).set (2 + k) (.int .i64 x))
  go_wp2_with fail
  go_end0
  exact ⟨rfl, HF.out, HG.out⟩
end Go.Proofs.Ytbmjiedpaffifaa
namespace Go.Proofs.Ytbmjiedpaffifaa
open Go.RowKit

def nB (x : Int) : List Int := U.numB x.toNat
def upd (T : Nat → Int) (r : Nat) (x : Int) : Nat → Int := fun k => if k = r then x else T k
/-- a cloud's bytes, where the numbers up to T are told and the last thing was of r0 -/
def cloudB : (Nat → Int) → Int → List Sn → List Int
  | _, _, [] => []
  | T, r0, s :: t => nB (s.rep - r0) ++ (nB (s.lo - (T s.rep.toNat + 2)) ++ (nB (s.hi - s.lo) ++ cloudB (upd T s.rep.toNat s.hi) s.rep t))
def vecB (Z : List Int) : List Int := Z.flatMap nB
def trl (Z : List Int) : Nat → Int := fun k => Z.getD k 0
def pastB (P : Pst) : List Int := U.numB P.vec.length ++ (vecB P.vec ++ (U.numB P.cloud.length ++ cloudB (trl P.vec) 0 P.cloud))
theorem numB_pos (n : Nat) : 1 ≤ (U.numB n).length := by
  by_cases h : n < 128
  · rw [U.numB_lt h]; simp
  · rw [U.numB_ge h]; simp
theorem cloudB_len : ∀ (L : List Sn) (T : Nat → Int) (r0 : Int), 3 * L.length ≤ (cloudB T r0 L).length
  | [], _, _ => Nat.zero_le _
  | s :: t, T, r0 => by
    have h := cloudB_len t (upd T s.rep.toNat s.hi) s.rep
    have h1 := numB_pos (s.rep - r0).toNat
    have h2 := numB_pos (s.lo - (T s.rep.toNat + 2)).toNat
    have h3 := numB_pos (s.hi - s.lo).toNat
    simp only [cloudB, nB, List.length_append, List.length_cons]
    omega
/-- the cloud may be written so -/
def TrlOk : (Nat → Int) → Int → List Sn → Prop
  | _, _, [] => True
  | T, r0, s :: t => (r0 ≤ s.rep ∧ 0 ≤ s.rep ∧ s.rep ≤ 15) ∧ T s.rep.toNat + 2 ≤ s.lo ∧ s.lo ≤ s.hi ∧ s.hi ≤ 1000000000 ∧ TrlOk (upd T s.rep.toNat s.hi) s.rep t
theorem chain_trl (Z : List Int) : ∀ (L : List Sn) (a : Sn) (T : Nat → Int), 0 ≤ a.rep → (∀ r : Nat, a.rep ≤ (r : Int) → r < 16 → T r = if (r : Int) = a.rep then max (V.atI Z r) a.hi else V.atI Z r) → chain Z a L → TrlOk T a.rep L
  | [], _, _, _, _, _ => trivial
  | c :: t, a, T, ha, hT, h => by
    have S := h.1
    have hr := S.isr
    simp [V.isR] at hr
    have e : ((c.rep.toNat : Nat) : Int) = c.rep := by omega
    have hTc := hT c.rep.toNat (by rw [e]; exact S.rep) (by omega)
    rw [e] at hTc
    have hlead := S.lead
    have hord := S.ord
    have h2 : T c.rep.toNat + 2 ≤ c.lo := by
      rw [hTc]
      split
      · rename_i he
        have := S.gap he
        omega
      · exact hlead
    refine ⟨⟨S.rep, hr.1, by omega⟩, h2, hord, S.top, chain_trl Z t c _ hr.1 (fun r h1 h16 => ?_) h.2⟩
    unfold upd
    by_cases er : r = c.rep.toNat
    · subst er
      rw [if_pos rfl, e, if_pos rfl]
      omega
    · have hne : ¬ (r : Int) = c.rep := by omega
      rw [if_neg er, if_neg hne]
      have := hT r (by have := S.rep; omega) h16
      rw [this, if_neg (by have := S.rep; omega)]
theorem inf_at {P : Pst} (h : InForm P) (k : Nat) (hk : k < 16) : P.vec.getD k 0 = V.at' P.vec k := by
  have := V.short_getD (V.at' P.vec) k hk
  rw [← h.1] at this
  exact this
theorem inf_len {P : Pst} (h : InForm P) : P.vec.length ≤ 16 := (canon_len (canon_iff.2 h)).2
theorem inf_bd {P : Pst} (h : InForm P) : ∀ x ∈ P.vec, 0 ≤ x ∧ x ≤ 1000000000 := by
  intro x hx
  obtain ⟨k, hk, rfl⟩ := List.getElem_of_mem hx
  have e := inf_at h k (by have := inf_len h; omega)
  rw [List.getD_eq_getElem?_getD, List.getElem?_eq_getElem hk] at e
  have := V.at'_bd P.vec k
  simp only [Option.getD_some] at e
  rw [e]
  exact this
theorem inf_trl {P : Pst} (h : InForm P) : TrlOk (trl P.vec) 0 P.cloud := by
  refine chain_trl P.vec P.cloud sn0 (trl P.vec) (Int.le_refl 0) (fun r _ h16 => ?_) h.2
  have e : trl P.vec r = V.atI P.vec r := by unfold trl; rw [inf_at h r h16, atI_nat P.vec h16]
  rw [e]
  split
  · have := V.atI_bd P.vec (r : Int)
    show _ = max _ (0 : Int)
    omega
  · rfl
def rdVec : Nat → List Int → Option (List Int × List Int)
  | 0, Z => some ([], Z)
  | n + 1, Z =>
    match U.pNum 1000000000 Z with
    | none => none
    | some (v, Z1) =>
      match rdVec n Z1 with
      | none => none
      | some (V, R) => some ((v : Int) :: V, R)
def rdCloud : Nat → (Nat → Int) → Int → List Int → Option (List Sn × List Int)
  | 0, _, _, Z => some ([], Z)
  | n + 1, T, r0, Z =>
    match U.pNum (15 - r0) Z with
    | none => none
    | some (a, Z1) =>
      match U.pNum (1000000000 - (T (r0 + a).toNat + 2)) Z1 with
      | none => none
      | some (b, Z2) =>
        match U.pNum (1000000000 - (T (r0 + a).toNat + 2 + b)) Z2 with
        | none => none
        | some (c, Z3) =>
          match rdCloud n (upd T (r0 + a).toNat (T (r0 + a).toNat + 2 + b + c)) (r0 + a) Z3 with
          | none => none
          | some (L, R) => some (⟨r0 + a, T (r0 + a).toNat + 2 + b, T (r0 + a).toNat + 2 + b + c⟩ :: L, R)
def rdPast (Z : List Int) : Option (Pst × List Int) :=
  match U.pNum 16 Z with
  | none => none
  | some (n, Z1) =>
    match rdVec n Z1 with
    | none => none
    | some (V, Z2) =>
      match U.pCnt 3 Z2 with
      | none => none
      | some (m, Z3) =>
        match rdCloud m (trl V) 0 Z3 with
        | none => none
        | some (L, R) => some (⟨V, L⟩, R)
theorem rdVec_to : ∀ (V R : List Int), (∀ x ∈ V, 0 ≤ x ∧ x ≤ 1000000000) → rdVec V.length (vecB V ++ R) = some (V, R)
  | [], R, _ => rfl
  | x :: V, R, h => by
    have hx := h x List.mem_cons_self
    have e : vecB (x :: V) ++ R = U.numB x.toNat ++ (vecB V ++ R) := by show (nB x ++ vecB V) ++ R = _; rw [List.append_assoc]; rfl
    show rdVec (V.length + 1) _ = _
    rw [e]
    unfold rdVec
    rw [U.pNum_to _ (by omega) (by omega)]
    simp only
    rw [rdVec_to V R (fun y hy => h y (List.mem_cons_of_mem _ hy))]
    simp only [Option.some.injEq, Prod.mk.injEq, List.cons.injEq, and_true]
    omega
theorem rdVec_of : ∀ (n : Nat) {Z V R : List Int}, U.Oc Z → rdVec n Z = some (V, R) → Z = vecB V ++ R ∧ V.length = n ∧ U.Oc R ∧ ∀ x ∈ V, 0 ≤ x ∧ x ≤ 1000000000
  | 0, Z, V, R, hZ, h => by
    unfold rdVec at h
    simp only [Option.some.injEq, Prod.mk.injEq] at h
    obtain ⟨rfl, rfl⟩ := h
    exact ⟨rfl, rfl, hZ, fun x hx => by cases hx⟩
  | n + 1, Z, V, R, hZ, h => by
    unfold rdVec at h
    cases h1 : U.pNum 1000000000 Z with
    | none => rw [h1] at h; cases h
    | some y =>
      obtain ⟨v, Z1⟩ := y
      rw [h1] at h
      simp only at h
      obtain ⟨e1, l1, o1, -⟩ := U.pNum_of hZ h1
      cases h2 : rdVec n Z1 with
      | none => rw [h2] at h; cases h
      | some y =>
        obtain ⟨W, R'⟩ := y
        rw [h2] at h
        simp only [Option.some.injEq, Prod.mk.injEq] at h
        obtain ⟨rfl, rfl⟩ := h
        obtain ⟨e2, e3, e4, e5⟩ := rdVec_of n o1 h2
        refine ⟨?_, by simp [e3], e4, fun x hx => ?_⟩
        · rw [e1, e2]
          show _ = (nB (v : Int) ++ vecB W) ++ R'
          rw [List.append_assoc]
          unfold nB
          rw [Int.toNat_natCast]
        · rcases List.mem_cons.1 hx with rfl | hx
          · omega
          · exact e5 x hx
theorem rdCloud_to : ∀ (L : List Sn) (T : Nat → Int) (r0 : Int) (R : List Int), 0 ≤ r0 → TrlOk T r0 L → (∀ k, 0 ≤ T k) → rdCloud L.length T r0 (cloudB T r0 L ++ R) = some (L, R)
  | [], _, _, R, _, _, _ => rfl
  | s :: t, T, r0, R, h0, h, hT => by
    obtain ⟨⟨h1, h2, h3⟩, h4, h5, h6, h7⟩ := h
    have hTs := hT s.rep.toNat
    have e : cloudB T r0 (s :: t) ++ R = U.numB (s.rep - r0).toNat ++ (U.numB (s.lo - (T s.rep.toNat + 2)).toNat ++ (U.numB (s.hi - s.lo).toNat ++ (cloudB (upd T s.rep.toNat s.hi) s.rep t ++ R))) := by
      simp only [cloudB, nB, List.append_assoc]
    have a1 : r0 + (((s.rep - r0).toNat : Nat) : Int) = s.rep := by omega
    have a2 : T s.rep.toNat + 2 + (((s.lo - (T s.rep.toNat + 2)).toNat : Nat) : Int) = s.lo := by omega
    have a3 : s.lo + (((s.hi - s.lo).toNat : Nat) : Int) = s.hi := by omega
    show rdCloud (t.length + 1) T r0 _ = _
    rw [e]
    unfold rdCloud
    rw [U.pNum_to _ (by omega) (by omega)]
    simp only [a1]
    rw [U.pNum_to _ (by omega) (by omega)]
    simp only [a2]
    rw [U.pNum_to _ (by omega) (by omega)]
    simp only [a3]
    rw [rdCloud_to t _ _ R h2 h7 (fun k => by unfold upd; split <;> first | omega | exact hT k)]
theorem rdCloud_of : ∀ (n : Nat) {T : Nat → Int} {r0 : Int} {Z R : List Int} {L : List Sn}, U.Oc Z → 0 ≤ r0 → rdCloud n T r0 Z = some (L, R) → Z = cloudB T r0 L ++ R ∧ L.length = n ∧ U.Oc R ∧ TrlOk T r0 L
  | 0, T, r0, Z, R, L, hZ, _, h => by
    unfold rdCloud at h
    simp only [Option.some.injEq, Prod.mk.injEq] at h
    obtain ⟨rfl, rfl⟩ := h
    exact ⟨rfl, rfl, hZ, trivial⟩
  | n + 1, T, r0, Z, R, L, hZ, h0, h => by
    unfold rdCloud at h
    cases h1 : U.pNum (15 - r0) Z with
    | none => rw [h1] at h; cases h
    | some y =>
      obtain ⟨a, Z1⟩ := y
      rw [h1] at h
      simp only at h
      obtain ⟨e1, l1, o1, -⟩ := U.pNum_of hZ h1
      cases h2 : U.pNum (1000000000 - (T (r0 + a).toNat + 2)) Z1 with
      | none => rw [h2] at h; cases h
      | some y =>
        obtain ⟨b, Z2⟩ := y
        rw [h2] at h
        simp only at h
        obtain ⟨e2, l2, o2, -⟩ := U.pNum_of o1 h2
        cases h3 : U.pNum (1000000000 - (T (r0 + a).toNat + 2 + b)) Z2 with
        | none => rw [h3] at h; cases h
        | some y =>
          obtain ⟨c, Z3⟩ := y
          rw [h3] at h
          simp only at h
          obtain ⟨e3, l3, o3, -⟩ := U.pNum_of o2 h3
          cases h4 : rdCloud n (upd T (r0 + a).toNat (T (r0 + a).toNat + 2 + b + c)) (r0 + a) Z3 with
          | none => rw [h4] at h; cases h
          | some y =>
            obtain ⟨M, R'⟩ := y
            rw [h4] at h
            simp only [Option.some.injEq, Prod.mk.injEq] at h
            obtain ⟨rfl, rfl⟩ := h
            obtain ⟨f1, f2, f3, f4⟩ := rdCloud_of n o3 (by omega) h4
            refine ⟨?_, by simp [f2], f3, ⟨(by show r0 ≤ r0 + (a : Int); omega), (by show 0 ≤ r0 + (a : Int); omega), (by show r0 + (a : Int) ≤ 15; omega)⟩, (by show T (r0 + (a : Int)).toNat + 2 ≤ T (r0 + (a : Int)).toNat + 2 + b; omega), (by show T (r0 + (a : Int)).toNat + 2 + (b : Int) ≤ T (r0 + (a : Int)).toNat + 2 + b + c; omega), (by show T (r0 + (a : Int)).toNat + 2 + (b : Int) + c ≤ 1000000000; omega), f4⟩
            have g1 : (r0 + (a : Int) - r0).toNat = a := by omega
            have g2 : (T (r0 + (a : Int)).toNat + 2 + (b : Int) - (T (r0 + (a : Int)).toNat + 2)).toNat = b := by omega
            have g3 : (T (r0 + (a : Int)).toNat + 2 + (b : Int) + c - (T (r0 + (a : Int)).toNat + 2 + b)).toNat = c := by omega
            simp only [cloudB, nB, List.append_assoc, g1, g2, g3]
            rw [← f1, ← e3, ← e2]
            exact e1
theorem trl_pos {V : List Int} (h : ∀ x ∈ V, 0 ≤ x ∧ x ≤ 1000000000) : ∀ k, 0 ≤ trl V k := by
  intro k
  unfold trl
  by_cases hk : k < V.length
  · rw [List.getD_eq_getElem?_getD, List.getElem?_eq_getElem hk]
    exact (h _ (List.getElem_mem hk)).1
  · rw [List.getD_eq_getElem?_getD, List.getElem?_eq_none (by omega)]
    exact Int.le_refl 0
theorem tdiv3 (n m : Nat) (h : 3 * m ≤ n) : (m : Int) ≤ ((n : Nat) : Int).tdiv (U.eachN 3) := by
  have e : U.eachN 3 = 3 := by decide
  rw [e, Int.tdiv_eq_ediv_of_nonneg (by omega)]
  omega
theorem rdPast_to {P : Pst} (h : InForm P) (R : List Int) : rdPast (pastB P ++ R) = some (P, R) := by
  have hl := inf_len h
  have hc := (canon_len (canon_iff.2 h)).1
  have e : pastB P ++ R = U.numB P.vec.length ++ (vecB P.vec ++ (U.numB P.cloud.length ++ (cloudB (trl P.vec) 0 P.cloud ++ R))) := by unfold pastB; simp only [List.append_assoc]
  rw [e]
  unfold rdPast
  rw [U.pNum_to _ (by omega) (by omega)]
  simp only
  rw [rdVec_to _ _ (inf_bd h)]
  simp only
  rw [U.pCnt_to _ (tdiv3 _ _ (by have := cloudB_len P.cloud (trl P.vec) 0; rw [List.length_append]; omega)) (by omega)]
  simp only
  rw [rdCloud_to _ _ _ _ (Int.le_refl 0) (inf_trl h) (trl_pos (inf_bd h))]
theorem rdPast_of {Z R : List Int} {P : Pst} (hZ : U.Oc Z) (h : rdPast Z = some (P, R)) : Z = pastB P ++ R ∧ U.Oc R ∧ P.vec.length ≤ 16 ∧ (∀ x ∈ P.vec, 0 ≤ x ∧ x ≤ 1000000000) ∧ TrlOk (trl P.vec) 0 P.cloud := by
  unfold rdPast at h
  cases h1 : U.pNum 16 Z with
  | none => rw [h1] at h; cases h
  | some y =>
    obtain ⟨n, Z1⟩ := y
    rw [h1] at h
    simp only at h
    obtain ⟨e1, l1, o1, -⟩ := U.pNum_of hZ h1
    cases h2 : rdVec n Z1 with
    | none => rw [h2] at h; cases h
    | some y =>
      obtain ⟨V, Z2⟩ := y
      rw [h2] at h
      simp only at h
      obtain ⟨e2, l2, o2, b2⟩ := rdVec_of n o1 h2
      cases h3 : U.pCnt 3 Z2 with
      | none => rw [h3] at h; cases h
      | some y =>
        obtain ⟨m, Z3⟩ := y
        rw [h3] at h
        simp only at h
        obtain ⟨e3, o3, l3⟩ := U.pCnt_of o2 h3
        cases h4 : rdCloud m (trl V) 0 Z3 with
        | none => rw [h4] at h; cases h
        | some y =>
          obtain ⟨L, R'⟩ := y
          rw [h4] at h
          simp only [Option.some.injEq, Prod.mk.injEq] at h
          obtain ⟨rfl, rfl⟩ := h
          obtain ⟨f1, f2, f3, f4⟩ := rdCloud_of m o3 (Int.le_refl 0) h4
          refine ⟨?_, f3, (by show V.length ≤ 16; omega), b2, f4⟩
          unfold pastB
          simp only [List.append_assoc]
          rw [← f1, f2, ← e3, ← e2, l2]
          exact e1
end Go.Proofs.Ytbmjiedpaffifaa
