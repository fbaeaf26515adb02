/- counts.over, counts.under: their contracts. -/
import Derived.Test.YtdilejbdkhkifaaHas
namespace Go.Proofs.Ytdilejbdkhkifaa
open Go.RowKit
attribute [local go_sem ↓] ld56_eq st56_eq
attribute [local go_sem] zeros_VC cells_VA

def fmax (f g : Nat → Int) : Nat → Int := fun r => if f r < g r then g r else f r
def fmin (f g : Nat → Int) : Nat → Int := fun r => if g r < f r then g r else f r
/-- the first k numbers of the one, then those of the other -/
def fmix (k : Nat) (f g : Nat → Int) : Nat → Int := fun r => if r < k then f r else g r
theorem fmix_next (k : Nat) (f g : Nat → Int) (z : Int) (hz : z = f k) : ∀ r, r < 16 → fset (fmix k f g) k z r = fmix (k + 1) f g r := by
  intro r _
  unfold fset fmix
  by_cases e : r = k
  · subst e; simp [hz]
  · by_cases h : r < k
    · simp [e, h]; omega
    · simp [e, h]; omega
theorem fmix_here (k : Nat) (f g : Nat → Int) : fmix k f g k = g k := by simp [fmix]
theorem fmix_all (f g : Nat → Int) : ∀ r, r < 16 → fmix 16 f g r = f r := by intro r h; simp [fmix, h]

theorem below_drew {n : Nat} {w w' : World} (h : Below n w w') : Below n w w'.drew := h.trans ⟨rfl, rfl, rfl, Nat.le_refl _, fun _ _ => rfl⟩

set_option maxHeartbeats 1600000 in
theorem over_any (f g : Nat → Int) (w : World) :
    Calls Try.prog 45 #[VA f, VA g] w fun e w' => e = .returned (VA (fmax f g)) ∧ Below w.heap.size w w' := by
  go_enter Try.func45, Try.ntmps45
  go_wp2
  go_loopw [6] (fun i wr => ∃ k : Nat, k ≤ 16 ∧ i = .int .i64 k ∧ Hid (Arr wr w.heap.size 56 (fmix k (fmax f g) f)) ∧ Hid (Arr wr (w.heap.size + 1) 56 g) ∧ Hid (Arr wr (w.heap.size + 1 + 1) 56 fun _ => 0) ∧ Hid (Below w.heap.size w wr)) (fun i _ => 16 - (intOf i).toNat)
  case atStart =>
    refine ⟨0, Nat.zero_le _, rfl, (((arr_new w 56 f).alloc _).alloc _).congr (fun r _ => by simp [fmix]), (arr_new2 w _ 56 g).alloc _, ?_, (((Below.refl _ _).alloc (Nat.le_refl _) _).alloc (by simp) _).alloc (by simp; omega) _⟩
    have := arr_new2 (w.alloc (.cells (VC f) 56)) (.cells (VC g) 56) 56 (fun _ => 0)
    rw [World.size_alloc] at this
    exact this
  case round =>
    obtain ⟨k, hk, rfl, A, B, C, HB⟩ := hrel
    by_cases hlt : k < 16
    · have c1 := A.out.cell k hlt
      rw [fmix_here] at c1
      have z1 := A.out.frozen k
      have c2 := B.out.cell k hlt
      obtain ⟨y, HY⟩ : ∃ y, Hid (f k = y) := ⟨_, rfl⟩
      obtain ⟨z, HZ⟩ : ∃ z, Hid (g k = z) := ⟨_, rfl⟩
      rw [HY.out] at c1
      rw [HZ.out] at c2
      by_cases h : y < z
      · have HM : Hid (z = fmax f g k) := by show _ = _; unfold fmax; rw [HY.out, HZ.out, if_pos h]
        go_wp2
        go_region
        go_wp2
        go_roundw
        case rel =>
          have A' := (A.out.set k z).congr (fmix_next k _ _ z HM.out)
          exact ⟨k + 1, by omega, by go_num, A', B.out.setOther _ _ (by simp), C.out.setOther _ _ (by simp; omega), below_drew (HB.out.setCell (by simp) _)⟩
        case measure => simp [intOf]; omega
      · have HM : Hid (y = fmax f g k) := by show _ = _; unfold fmax; rw [HY.out, HZ.out, if_neg h]
        go_wp2
        go_region
        go_wp2
        go_roundw
        case rel =>
          have A' := (A.out.set k y).congr (fmix_next k _ _ y HM.out)
          exact ⟨k + 1, by omega, by go_num, A', B.out.setOther _ _ (by simp), C.out.setOther _ _ (by simp; omega), below_drew (HB.out.setCell (by simp) _)⟩
        case measure => simp [intOf]; omega
    · obtain rfl : k = 16 := by omega
      have A' := A.out.congr (fmix_all _ _)
      have l1 := run_ld56 A'
      have s1 := run_st56 (f' := fmax f g) C.out
      go_wp2
      exact bodyPost_ret (v := VA (fmax f g)) (res56 Try.results45 rfl (C.out.setRow)) rfl ⟨rfl, below_setRow HB.out (by omega)⟩

set_option maxHeartbeats 1600000 in
theorem under_any (f g : Nat → Int) (w : World) :
    Calls Try.prog 44 #[VA f, VA g] w fun e w' => e = .returned (VA (fmin f g)) ∧ Below w.heap.size w w' := by
  go_enter Try.func44, Try.ntmps44
  go_wp2
  go_loopw [6] (fun i wr => ∃ k : Nat, k ≤ 16 ∧ i = .int .i64 k ∧ Hid (Arr wr w.heap.size 56 (fmix k (fmin f g) f)) ∧ Hid (Arr wr (w.heap.size + 1) 56 g) ∧ Hid (Arr wr (w.heap.size + 1 + 1) 56 fun _ => 0) ∧ Hid (Below w.heap.size w wr)) (fun i _ => 16 - (intOf i).toNat)
  case atStart =>
    refine ⟨0, Nat.zero_le _, rfl, (((arr_new w 56 f).alloc _).alloc _).congr (fun r _ => by simp [fmix]), (arr_new2 w _ 56 g).alloc _, ?_, (((Below.refl _ _).alloc (Nat.le_refl _) _).alloc (by simp) _).alloc (by simp; omega) _⟩
    have := arr_new2 (w.alloc (.cells (VC f) 56)) (.cells (VC g) 56) 56 (fun _ => 0)
    rw [World.size_alloc] at this
    exact this
  case round =>
    obtain ⟨k, hk, rfl, A, B, C, HB⟩ := hrel
    by_cases hlt : k < 16
    · have c1 := A.out.cell k hlt
      rw [fmix_here] at c1
      have z1 := A.out.frozen k
      have c2 := B.out.cell k hlt
      obtain ⟨y, HY⟩ : ∃ y, Hid (f k = y) := ⟨_, rfl⟩
      obtain ⟨z, HZ⟩ : ∃ z, Hid (g k = z) := ⟨_, rfl⟩
      rw [HY.out] at c1
      rw [HZ.out] at c2
      by_cases h : z < y
      · have HM : Hid (z = fmin f g k) := by show _ = _; unfold fmin; rw [HY.out, HZ.out, if_pos h]
        go_wp2
        go_region
        go_wp2
        go_roundw
        case rel =>
          have A' := (A.out.set k z).congr (fmix_next k _ _ z HM.out)
          exact ⟨k + 1, by omega, by go_num, A', B.out.setOther _ _ (by simp), C.out.setOther _ _ (by simp; omega), below_drew (HB.out.setCell (by simp) _)⟩
        case measure => simp [intOf]; omega
      · have HM : Hid (y = fmin f g k) := by show _ = _; unfold fmin; rw [HY.out, HZ.out, if_neg h]
        go_wp2
        go_region
        go_wp2
        go_roundw
        case rel =>
          have A' := (A.out.set k y).congr (fmix_next k _ _ y HM.out)
          exact ⟨k + 1, by omega, by go_num, A', B.out.setOther _ _ (by simp), C.out.setOther _ _ (by simp; omega), below_drew (HB.out.setCell (by simp) _)⟩
        case measure => simp [intOf]; omega
    · obtain rfl : k = 16 := by omega
      have A' := A.out.congr (fmix_all _ _)
      have l1 := run_ld56 A'
      have s1 := run_st56 (f' := fmin f g) C.out
      go_wp2
      exact bodyPost_ret (v := VA (fmin f g)) (res56 Try.results44 rfl (C.out.setRow)) rfl ⟨rfl, below_setRow HB.out (by omega)⟩
end Go.Proofs.Ytdilejbdkhkifaa
