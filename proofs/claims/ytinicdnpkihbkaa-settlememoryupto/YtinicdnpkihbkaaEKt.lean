/- settle's isRep, isGood, take. -/
import Derived.Test.YtinicdnpkihbkaaEKb
namespace Go.Proofs.Ytinicdnpkihbkaa
open Go.RowKit
variable {w w' w2 : World} {g : Nat} {K : Nat → Nat → Bool}

def repB (r n : Int) : Bool := decide (0 ≤ r ∧ r < n)
theorem isRep_any (r n : Int) (w : World) : Calls Try.prog 30 #[.int .i64 r, .int .i64 n] w fun e w' => e = .returned (.bool (repB r n)) ∧ w = w' := by
  by_cases h1 : 0 ≤ r
  · by_cases h2 : r < n
    · have HE : Hid (repB r n = true) := by show _ = _; unfold repB; simp; omega
      rw [HE.out]
      clear HE
      go_enter Try.func30, Try.ntmps30
      go_wp2
      go_ret
      exact ⟨rfl, rfl⟩
    · have HE : Hid (repB r n = false) := by show _ = _; unfold repB; simp; omega
      rw [HE.out]
      clear HE
      go_enter Try.func30, Try.ntmps30
      go_wp2
      go_ret
      exact ⟨rfl, rfl⟩
  · have HE : Hid (repB r n = false) := by show _ = _; unfold repB; simp; omega
    rw [HE.out]
    clear HE
    go_enter Try.func30, Try.ntmps30
    go_wp2
    go_ret
    exact ⟨rfl, rfl⟩
theorem isRep_t (r n : Int) (h : repB r n = true) (w : World) : Calls Try.prog 30 #[.int .i64 r, .int .i64 n] w fun e w' => e = .returned (.bool true) ∧ w = w' := by
  have := isRep_any r n w; rw [h] at this; exact this
theorem isRep_f (r n : Int) (h : repB r n = false) (w : World) : Calls Try.prog 30 #[.int .i64 r, .int .i64 n] w fun e w' => e = .returned (.bool false) ∧ w = w' := by
  have := isRep_any r n w; rw [h] at this; exact this
set_option maxRecDepth 100000 in
theorem isGood_any (n : Int) (f t : Int) (w : World) : Calls Try.prog 28 #[.agg #[.int .i64 f, .int .i64 t], .int .i64 n] w fun e w' => e = .returned (.bool (goodB n f t)) ∧ Below w.heap.size w w' := by
  have HB := hide (below_new w (.cells #[.int .i64 f, .int .i64 t] 28))
  by_cases h1 : repB f n = true
  · have HF := hide (isRep_t f n h1)
    by_cases h2 : repB t n = true
    · have HT := hide (isRep_t t n h2)
      unfold repB at h1 h2
      simp only [decide_eq_true_eq] at h1 h2
      by_cases h5 : f = t
      · subst h5
        have HE : Hid (goodB n f f = false) := by show _ = _; unfold goodB; simp
        rw [HE.out]
        clear HE h1 h2
        go_enter Try.func28, Try.ntmps28
        go_wp2_with (go_at_call 30; refine (HF.out _).mono ?_; rintro e wx ⟨rfl, rfl⟩)
        go_ret
        exact ⟨rfl, HB.out⟩
      · have HE : Hid (goodB n f t = true) := by show _ = _; unfold goodB; simp; omega
        have h6 : (f != t) = true := by simpa using h5
        rw [HE.out]
        clear HE h5 h1 h2
        go_enter Try.func28, Try.ntmps28
        go_wp2_with (first | (go_at_call_of 30 (Value.int .i64 f); refine (HF.out _).mono ?_; rintro e wx ⟨rfl, rfl⟩) | (go_at_call_of 30 (Value.int .i64 t); refine (HT.out _).mono ?_; rintro e wx ⟨rfl, rfl⟩))
        go_ret
        exact ⟨rfl, HB.out⟩
    · have h2' : repB t n = false := by simpa using h2
      have HT := hide (isRep_f t n h2')
      have HE : Hid (goodB n f t = false) := by
        show _ = _
        unfold repB at h2
        unfold goodB
        simp only [decide_eq_true_eq] at h2
        simp
        omega
      rw [HE.out]
      have hft : f ≠ t := by rintro rfl; exact h2 h1
      clear HE h1 h2 h2' hft
      go_enter Try.func28, Try.ntmps28
      go_wp2_with (first | (go_at_call_of 30 (Value.int .i64 f); refine (HF.out _).mono ?_; rintro e wx ⟨rfl, rfl⟩) | (go_at_call_of 30 (Value.int .i64 t); refine (HT.out _).mono ?_; rintro e wx ⟨rfl, rfl⟩))
      go_ret
      exact ⟨rfl, HB.out⟩
  · have h1' : repB f n = false := by simpa using h1
    have HF := hide (isRep_f f n h1')
    have HE : Hid (goodB n f t = false) := by
      show _ = _
      unfold repB at h1
      unfold goodB
      simp only [decide_eq_true_eq] at h1
      simp
      omega
    rw [HE.out]
    clear HE h1 h1'
    go_enter Try.func28, Try.ntmps28
    go_wp2_with (go_at_call 30; refine (HF.out _).mono ?_; rintro e wx ⟨rfl, rfl⟩)
    go_ret
    exact ⟨rfl, HB.out⟩
/-- what r knows when it has taken what f says of those below k -/
def kup (K : Nat → Nat → Bool) (r : Nat) (f : Nat → Bool) (k : Nat) : Nat → Nat → Bool := fun r' o => if r' = r ∧ o < k then K r o || f o else K r' o
theorem kup_step (K : Nat → Nat → Bool) (r : Nat) (f : Nat → Bool) (k : Nat) : kset (kup K r f k) r k (K r k || f k) = kup K r f (k + 1) := by
  funext r' o
  unfold kset kup
  by_cases h1 : r' = r
  · subst h1
    by_cases h2 : o = k
    · subst h2; simp
    · by_cases h3 : o < k
      · have : o < k + 1 := by omega
        simp [h2, h3, this]
      · have : ¬ o < k + 1 := by omega
        simp [h2, h3, this]
  · simp [h1]
theorem run_ldSn (f : Nat → Bool) (w : World) : (ldS (.pointer (some ⟨w.heap.size, 0, none⟩))).run Try.prog (w.alloc (.cells (bA f) 54)) = .ok (.agg (bA f)) (w.alloc (.cells (bA f) 54)) := by
  unfold ldS
  simp only [Instr.loadAt, Instr.sureAddr, Sem.run_bind, Sem.run_pure, Result.andThen]
  have hr : (w.alloc (.cells (bA f) 54)).rangeAt w.heap.size 0 (bA f).toList := fun j v hv => by
    rw [Nat.zero_add]
    simp only [Array.getElem?_toList] at hv
    have h0 := World.cell?_alloc_new w (bA f) 54 j
    rw [h0]
    exact hv
  have := run_loadVar_mid (P := Try.prog) _ w.heap.size 0 54 (bA f).toList _ hr Try.underlying54 rfl (by rw [sizeS]; simp [bA])
  simpa using this
attribute [local go_sem ↓] ldS_eq
set_option maxRecDepth 100000 in
theorem take_any (r : Nat) (hr : r < 16) (f : Nat → Bool) (w : World) (B : KBx w g K) : Calls Try.prog 29 #[.pointer (some ⟨g, r * 16, none⟩), .agg (bA f)] w fun e w' => e = .returned (.tuple #[]) ∧ KBx w' g (kup K r f 16) ∧ Fr w w' g := by
  have hld := run_ldSn f w
  have HB := hide (B.below (below_new w (.cells (bA f) 54)))
  have HF : Hid (Fr w (w.alloc (.cells (bA f) 54)) g) := Fr.of_below (below_new w _)
  clear B
  go_enter Try.func29, Try.ntmps29
  go_wp2_with fail
  go_loopw [7] (fun i wr => ∃ k : Nat, k ≤ 16 ∧ i = .int .i64 k ∧ Hid (KBx wr g (kup K r f k)) ∧ Hid (Fr w wr g)) (fun i _ => 16 - (intOf i).toNat)
  case atStart => exact ⟨0, Nat.zero_le _, rfl, by show KBx _ _ _; refine HB.out.congr (fun r' o _ _ => by unfold kup; simp), HF⟩
  case round =>
    clear HB HF hld
    obtain ⟨k, hk, rfl, HB, HF⟩ := hrel
    by_cases hlt : k < 16
    · have hix := idxS f k hlt wr
      have hlt' : (k : Int) < 16 := by omega
      have c0 := HB.out.cell r k hr hlt
      have hfz := HB.out.frozen (r * 16 + k)
      have hkk : kup K r f k r k = K r k := by unfold kup; rw [if_neg (by omega)]
      rw [hkk] at c0
      clear hkk
      have HB2 := hide (HB.out.set r k hr hlt (K r k || f k))
      rw [kup_step] at HB2
      have HF2 := hide (HF.out.trans (Fr.setCell wr g (r * 16 + k) (.bool (K r k || f k))))
      cases hx : K r k
      · rw [hx] at c0 HB2 HF2
        rw [Bool.false_or] at HB2 HF2
        obtain ⟨y, hy⟩ : ∃ y, f k = y := ⟨_, rfl⟩
        rw [hy] at HB2 HF2 hix
        clear hx hy
        go_wp2_with fail
        refine wp_region_held_drew (S := fun _ => True) (by kernel_rfl) (trivial) (fun hHeld => ?_)
        refine wpAnyH_take (i := 0) (oi := { dst := some 11, op := Op.move (Operand.tmp 0), type := 62, pos := "pairs.go:82", after := #[], guard := none }) (v := ?_) rfl (by kernel_rfl) (by kernel_rfl) (by kernel_rfl) (fun _ _ _ h => h) (Or.inl ⟨by rfl, ?_⟩) (by assumption) ?_
        rotate_left
        · (intro w hSw; (try dsimp only at hSw); go_simp); first | done | with_reducible rfl
        simp only [Act.put, List.setIfInBounds_toArray, List.set_cons_zero, List.set_cons_succ]
        refine wpAnyH_take (i := 1) (oi := { dst := some 12, op := Op.move (Operand.tmp 4), type := 3, pos := "pairs.go:82", after := #[], guard := none }) (v := ?_) rfl (by kernel_rfl) (by kernel_rfl) (by kernel_rfl) (fun _ _ _ h => h) (Or.inl ⟨by rfl, ?_⟩) (by assumption) ?_
        rotate_left
        · (intro w hSw; (try dsimp only at hSw); go_simp); first | done | with_reducible rfl
        simp only [Act.put, List.setIfInBounds_toArray, List.set_cons_zero, List.set_cons_succ]
        refine wpAnyH_take (i := 2) (oi := { dst := some 13, op := Op.move (Operand.tmp 0), type := 62, pos := "pairs.go:82", after := #[], guard := none }) (v := ?_) rfl (by kernel_rfl) (by kernel_rfl) (by kernel_rfl) (fun _ _ _ h => h) (Or.inl ⟨by rfl, ?_⟩) (by assumption) ?_
        rotate_left
        · (intro w hSw; (try dsimp only at hSw); go_simp); first | done | with_reducible rfl
        simp only [Act.put, List.setIfInBounds_toArray, List.set_cons_zero, List.set_cons_succ]
        refine wpAnyH_take (i := 3) (oi := { dst := some 14, op := Op.move (Operand.tmp 4), type := 3, pos := "pairs.go:82", after := #[], guard := none }) (v := ?_) rfl (by kernel_rfl) (by kernel_rfl) (by kernel_rfl) (fun _ _ _ h => h) (Or.inl ⟨by rfl, ?_⟩) (by assumption) ?_
        rotate_left
        · (intro w hSw; (try dsimp only at hSw); go_simp); first | done | with_reducible rfl
        simp only [Act.put, List.setIfInBounds_toArray, List.set_cons_zero, List.set_cons_succ]
        refine wpAnyH_take (i := 4) (oi := { dst := some 15, op := Op.nilCheck (Operand.tmp 13), type := 0, pos := "pairs.go:82", after := #[{ on := 2, ground := Ground.data }], guard := none }) (v := ?_) rfl (by kernel_rfl) (by kernel_rfl) (by kernel_rfl) (fun _ _ _ h => h) (Or.inl ⟨by rfl, ?_⟩) (by assumption) ?_
        rotate_left
        · (intro w hSw; (try dsimp only at hSw); go_simp); first | done | with_reducible rfl
        simp only [Act.put, List.setIfInBounds_toArray, List.set_cons_zero, List.set_cons_succ]
        refine wpAnyH_take (i := 5) (oi := { dst := some 16, op := Op.indexAddr 54 (Operand.tmp 15) (Operand.tmp 14), type := 0, pos := "pairs.go:82", after := #[{ on := 4, ground := Ground.data }, { on := 3, ground := Ground.data }], guard := none }) (v := ?_) rfl (by kernel_rfl) (by kernel_rfl) (by kernel_rfl) (fun _ _ _ h => h) (Or.inl ⟨by rfl, ?_⟩) (by assumption) ?_
        rotate_left
        · (intro w hSw; (try dsimp only at hSw); go_simp); first | done | with_reducible rfl
        simp only [Act.put, List.setIfInBounds_toArray, List.set_cons_zero, List.set_cons_succ]
        refine wpAnyH_take (i := 10) (oi := { dst := some 21, op := Op.nilCheck (Operand.tmp 11), type := 0, pos := "pairs.go:82", after := #[{ on := 0, ground := Ground.data }], guard := none }) (v := ?_) rfl (by kernel_rfl) (by kernel_rfl) (by kernel_rfl) (fun _ _ _ h => h) (Or.inl ⟨by rfl, ?_⟩) (by assumption) ?_
        rotate_left
        · (intro w hSw; (try dsimp only at hSw); go_simp); first | done | with_reducible rfl
        simp only [Act.put, List.setIfInBounds_toArray, List.set_cons_zero, List.set_cons_succ]
        refine wpAnyH_ready (rs := [6]) (by kernel_rfl) (by simp) ?_
        refine AllReadyH.cons rfl (fun K hK => ?_) ?_
        rotate_left
        · exact AllReadyH.nil
        go_simp
        refine hK.out _ _ trivial (fun hHeld => ?_)
        clear hK K
        refine wpAnyH_take (i := 7) (oi := { dst := some 18, op := Op.move (Operand.tmp 17), type := 4, pos := "pairs.go:82", after := #[{ on := 6, ground := Ground.data }], guard := none }) (v := ?_) rfl (by kernel_rfl) (by kernel_rfl) (by kernel_rfl) (fun _ _ _ h => h) (Or.inl ⟨by rfl, ?_⟩) (by assumption) ?_
        rotate_left
        · (intro w hSw; (try dsimp only at hSw); go_simp); first | done | with_reducible rfl
        simp only [Act.put, List.setIfInBounds_toArray, List.set_cons_zero, List.set_cons_succ]
        refine wpAnyH_take (i := 8) (oi := { dst := some 19, op := Op.move (Operand.tmp 5), type := 4, pos := "pairs.go:82", after := #[{ on := 7, ground := Ground.guard }], guard := some (7, false) }) (v := ?_) rfl (by kernel_rfl) (by kernel_rfl) (by kernel_rfl) (fun _ _ _ h => h) (Or.inl ⟨by rfl, ?_⟩) (by assumption) ?_
        rotate_left
        · (intro w hSw; (try dsimp only at hSw); go_simp); first | done | with_reducible rfl
        simp only [Act.put, List.setIfInBounds_toArray, List.set_cons_zero, List.set_cons_succ]
        refine wpAnyH_take (i := 9) (oi := { dst := some 20, op := Op.pick (Operand.tmp 18) (Operand.const (Value.bool true)) (Operand.tmp 19), type := 4, pos := "pairs.go:82", after := #[{ on := 7, ground := Ground.data }, { on := 8, ground := Ground.data }], guard := none }) (v := ?_) rfl (by kernel_rfl) (by kernel_rfl) (by kernel_rfl) (fun _ _ _ h => h) (Or.inl ⟨by rfl, ?_⟩) (by assumption) ?_
        rotate_left
        · (intro w hSw; (try dsimp only at hSw); go_simp); first | done | with_reducible rfl
        simp only [Act.put, List.setIfInBounds_toArray, List.set_cons_zero, List.set_cons_succ]
        refine wpAnyH_take (i := 11) (oi := { dst := some 22, op := Op.indexAddr 54 (Operand.tmp 21) (Operand.tmp 12), type := 0, pos := "pairs.go:82", after := #[{ on := 10, ground := Ground.data }, { on := 1, ground := Ground.data }, { on := 0, ground := Ground.phase }, { on := 1, ground := Ground.phase }, { on := 2, ground := Ground.phase }, { on := 3, ground := Ground.phase }, { on := 4, ground := Ground.phase }, { on := 5, ground := Ground.phase }, { on := 6, ground := Ground.phase }, { on := 7, ground := Ground.phase }, { on := 8, ground := Ground.phase }, { on := 9, ground := Ground.phase }], guard := none }) (v := ?_) rfl (by kernel_rfl) (by kernel_rfl) (by kernel_rfl) (fun _ _ _ h => h) (Or.inl ⟨by rfl, ?_⟩) (by assumption) ?_
        rotate_left
        · (intro w hSw; (try dsimp only at hSw); go_simp); first | done | with_reducible rfl
        simp only [Act.put, List.setIfInBounds_toArray, List.set_cons_zero, List.set_cons_succ]
        refine wpAnyH_ready (rs := [12]) (by kernel_rfl) (by simp) ?_
        refine AllReadyH.cons rfl (fun K hK => ?_) ?_
        rotate_left
        · exact AllReadyH.nil
        go_simp
        refine hK.out _ _ trivial (fun hHeld => ?_)
        clear hK K
        refine wpAnyH_done (by kernel_rfl) ?_ _
        clear hHeld
        have HB3 := hide (HB2.out.below (below_drew1 _))
        have HF3 : Hid (Fr w (wr.setCell ⟨g, r * 16 + k, none⟩ (.bool y)).drew g) := HF2.out.trans (Fr.of_below (below_drew1 _))
        clear HB2 HF2 HB HF
        go_wp2_with fail
        go_roundw
        case rel => exact ⟨k + 1, by omega, by go_num, HB3, HF3⟩
        case measure => simp [intOf]; omega
      · rw [hx] at c0 HB2 HF2
        rw [Bool.true_or] at HB2 HF2
        obtain ⟨y, hy⟩ : ∃ y, f k = y := ⟨_, rfl⟩
        rw [hy] at hix
        clear hx hy
        go_wp2_with fail
        refine wp_region_held_drew (S := fun _ => True) (by kernel_rfl) (trivial) (fun hHeld => ?_)
        refine wpAnyH_take (i := 0) (oi := { dst := some 11, op := Op.move (Operand.tmp 0), type := 62, pos := "pairs.go:82", after := #[], guard := none }) (v := ?_) rfl (by kernel_rfl) (by kernel_rfl) (by kernel_rfl) (fun _ _ _ h => h) (Or.inl ⟨by rfl, ?_⟩) (by assumption) ?_
        rotate_left
        · (intro w hSw; (try dsimp only at hSw); go_simp); first | done | with_reducible rfl
        simp only [Act.put, List.setIfInBounds_toArray, List.set_cons_zero, List.set_cons_succ]
        refine wpAnyH_take (i := 1) (oi := { dst := some 12, op := Op.move (Operand.tmp 4), type := 3, pos := "pairs.go:82", after := #[], guard := none }) (v := ?_) rfl (by kernel_rfl) (by kernel_rfl) (by kernel_rfl) (fun _ _ _ h => h) (Or.inl ⟨by rfl, ?_⟩) (by assumption) ?_
        rotate_left
        · (intro w hSw; (try dsimp only at hSw); go_simp); first | done | with_reducible rfl
        simp only [Act.put, List.setIfInBounds_toArray, List.set_cons_zero, List.set_cons_succ]
        refine wpAnyH_take (i := 2) (oi := { dst := some 13, op := Op.move (Operand.tmp 0), type := 62, pos := "pairs.go:82", after := #[], guard := none }) (v := ?_) rfl (by kernel_rfl) (by kernel_rfl) (by kernel_rfl) (fun _ _ _ h => h) (Or.inl ⟨by rfl, ?_⟩) (by assumption) ?_
        rotate_left
        · (intro w hSw; (try dsimp only at hSw); go_simp); first | done | with_reducible rfl
        simp only [Act.put, List.setIfInBounds_toArray, List.set_cons_zero, List.set_cons_succ]
        refine wpAnyH_take (i := 3) (oi := { dst := some 14, op := Op.move (Operand.tmp 4), type := 3, pos := "pairs.go:82", after := #[], guard := none }) (v := ?_) rfl (by kernel_rfl) (by kernel_rfl) (by kernel_rfl) (fun _ _ _ h => h) (Or.inl ⟨by rfl, ?_⟩) (by assumption) ?_
        rotate_left
        · (intro w hSw; (try dsimp only at hSw); go_simp); first | done | with_reducible rfl
        simp only [Act.put, List.setIfInBounds_toArray, List.set_cons_zero, List.set_cons_succ]
        refine wpAnyH_take (i := 4) (oi := { dst := some 15, op := Op.nilCheck (Operand.tmp 13), type := 0, pos := "pairs.go:82", after := #[{ on := 2, ground := Ground.data }], guard := none }) (v := ?_) rfl (by kernel_rfl) (by kernel_rfl) (by kernel_rfl) (fun _ _ _ h => h) (Or.inl ⟨by rfl, ?_⟩) (by assumption) ?_
        rotate_left
        · (intro w hSw; (try dsimp only at hSw); go_simp); first | done | with_reducible rfl
        simp only [Act.put, List.setIfInBounds_toArray, List.set_cons_zero, List.set_cons_succ]
        refine wpAnyH_take (i := 5) (oi := { dst := some 16, op := Op.indexAddr 54 (Operand.tmp 15) (Operand.tmp 14), type := 0, pos := "pairs.go:82", after := #[{ on := 4, ground := Ground.data }, { on := 3, ground := Ground.data }], guard := none }) (v := ?_) rfl (by kernel_rfl) (by kernel_rfl) (by kernel_rfl) (fun _ _ _ h => h) (Or.inl ⟨by rfl, ?_⟩) (by assumption) ?_
        rotate_left
        · (intro w hSw; (try dsimp only at hSw); go_simp); first | done | with_reducible rfl
        simp only [Act.put, List.setIfInBounds_toArray, List.set_cons_zero, List.set_cons_succ]
        refine wpAnyH_take (i := 10) (oi := { dst := some 21, op := Op.nilCheck (Operand.tmp 11), type := 0, pos := "pairs.go:82", after := #[{ on := 0, ground := Ground.data }], guard := none }) (v := ?_) rfl (by kernel_rfl) (by kernel_rfl) (by kernel_rfl) (fun _ _ _ h => h) (Or.inl ⟨by rfl, ?_⟩) (by assumption) ?_
        rotate_left
        · (intro w hSw; (try dsimp only at hSw); go_simp); first | done | with_reducible rfl
        simp only [Act.put, List.setIfInBounds_toArray, List.set_cons_zero, List.set_cons_succ]
        refine wpAnyH_ready (rs := [6]) (by kernel_rfl) (by simp) ?_
        refine AllReadyH.cons rfl (fun K hK => ?_) ?_
        rotate_left
        · exact AllReadyH.nil
        go_simp
        refine hK.out _ _ trivial (fun hHeld => ?_)
        clear hK K
        refine wpAnyH_take (i := 7) (oi := { dst := some 18, op := Op.move (Operand.tmp 17), type := 4, pos := "pairs.go:82", after := #[{ on := 6, ground := Ground.data }], guard := none }) (v := ?_) rfl (by kernel_rfl) (by kernel_rfl) (by kernel_rfl) (fun _ _ _ h => h) (Or.inl ⟨by rfl, ?_⟩) (by assumption) ?_
        rotate_left
        · (intro w hSw; (try dsimp only at hSw); go_simp); first | done | with_reducible rfl
        simp only [Act.put, List.setIfInBounds_toArray, List.set_cons_zero, List.set_cons_succ]
        refine wpAnyH_take (i := 8) (oi := { dst := some 19, op := Op.move (Operand.tmp 5), type := 4, pos := "pairs.go:82", after := #[{ on := 7, ground := Ground.guard }], guard := some (7, false) }) (v := undef) rfl (by kernel_rfl) (by kernel_rfl) (by kernel_rfl) (fun _ _ _ h => h) (Or.inr ⟨by rfl, by rfl⟩) (by assumption) ?_
        simp only [Act.put, List.setIfInBounds_toArray, List.set_cons_zero, List.set_cons_succ]
        refine wpAnyH_take (i := 9) (oi := { dst := some 20, op := Op.pick (Operand.tmp 18) (Operand.const (Value.bool true)) (Operand.tmp 19), type := 4, pos := "pairs.go:82", after := #[{ on := 7, ground := Ground.data }, { on := 8, ground := Ground.data }], guard := none }) (v := ?_) rfl (by kernel_rfl) (by kernel_rfl) (by kernel_rfl) (fun _ _ _ h => h) (Or.inl ⟨by rfl, ?_⟩) (by assumption) ?_
        rotate_left
        · (intro w hSw; (try dsimp only at hSw); go_simp); first | done | with_reducible rfl
        simp only [Act.put, List.setIfInBounds_toArray, List.set_cons_zero, List.set_cons_succ]
        refine wpAnyH_take (i := 11) (oi := { dst := some 22, op := Op.indexAddr 54 (Operand.tmp 21) (Operand.tmp 12), type := 0, pos := "pairs.go:82", after := #[{ on := 10, ground := Ground.data }, { on := 1, ground := Ground.data }, { on := 0, ground := Ground.phase }, { on := 1, ground := Ground.phase }, { on := 2, ground := Ground.phase }, { on := 3, ground := Ground.phase }, { on := 4, ground := Ground.phase }, { on := 5, ground := Ground.phase }, { on := 6, ground := Ground.phase }, { on := 7, ground := Ground.phase }, { on := 8, ground := Ground.phase }, { on := 9, ground := Ground.phase }], guard := none }) (v := ?_) rfl (by kernel_rfl) (by kernel_rfl) (by kernel_rfl) (fun _ _ _ h => h) (Or.inl ⟨by rfl, ?_⟩) (by assumption) ?_
        rotate_left
        · (intro w hSw; (try dsimp only at hSw); go_simp); first | done | with_reducible rfl
        simp only [Act.put, List.setIfInBounds_toArray, List.set_cons_zero, List.set_cons_succ]
        refine wpAnyH_ready (rs := [12]) (by kernel_rfl) (by simp) ?_
        refine AllReadyH.cons rfl (fun K hK => ?_) ?_
        rotate_left
        · exact AllReadyH.nil
        go_simp
        refine hK.out _ _ trivial (fun hHeld => ?_)
        clear hK K
        refine wpAnyH_done (by kernel_rfl) ?_ _
        clear hHeld
        have HB3 := hide (HB2.out.below (below_drew1 _))
        have HF3 : Hid (Fr w (wr.setCell ⟨g, r * 16 + k, none⟩ (.bool true)).drew g) := HF2.out.trans (Fr.of_below (below_drew1 _))
        clear HB2 HF2 HB HF
        go_wp2_with fail
        go_roundw
        case rel => exact ⟨k + 1, by omega, by go_num, HB3, HF3⟩
        case measure => simp [intOf]; omega
    · obtain rfl : k = 16 := by omega
      go_wp2_with fail
      go_end0
      exact ⟨rfl, HB.out, HF.out⟩
end Go.Proofs.Ytinicdnpkihbkaa
