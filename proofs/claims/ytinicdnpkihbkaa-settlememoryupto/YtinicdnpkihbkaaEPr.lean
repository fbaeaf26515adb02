/- settle.clamped, settle.Pairs; the reference's Reps, Good, Pairs. -/
import Derived.Test.YtinicdnpkihbkaaEPl
namespace Go.Proofs.Ytinicdnpkihbkaa
open Go.RowKit
attribute [local go_sem ↓] ldQ_eq stQ_eq
variable {w w' w2 : World} {g : Nat}

theorem clamped_any (r : Int) (w : World) : Calls Try.prog 20 #[.int .i64 r] w fun e w' => e = .returned (.int .i64 (clN r : Int)) ∧ w = w' := by
  by_cases h1 : r < 1
  · have HE : Hid (((clN r : Nat) : Int) = 1) := by show _ = _; unfold clN; rw [if_pos h1]; rfl
    rw [HE.out]
    go_enter Try.func20, Try.ntmps20
    go_wp2
    go_ret
    exact ⟨ret_int (by omega), rfl⟩
  · by_cases h2 : 16 < r
    · have HE : Hid (((clN r : Nat) : Int) = 16) := by show _ = _; unfold clN; rw [if_neg h1, if_pos h2]; rfl
      rw [HE.out]
      go_enter Try.func20, Try.ntmps20
      go_wp2
      go_ret
      exact ⟨ret_int (by omega), rfl⟩
    · have HE : Hid (((clN r : Nat) : Int) = r) := by show _ = _; unfold clN; rw [if_neg h1, if_neg h2]; omega
      rw [HE.out]
      go_enter Try.func20, Try.ntmps20
      go_wp2
      go_ret
      exact ⟨ret_int (by omega), rfl⟩
theorem reps_any (r : Int) (w : World) : Calls Try.prog 21 #[.int .i64 r] w fun e w' => e = .returned (.int .i64 (clN r : Int)) ∧ w = w' := by
  by_cases h1 : r < 1
  · have HE : Hid (((clN r : Nat) : Int) = 1) := by show _ = _; unfold clN; rw [if_pos h1]; rfl
    rw [HE.out]
    go_enter Try.func21, Try.ntmps21
    go_wp2
    go_ret
    exact ⟨rfl, rfl⟩
  · by_cases h2 : 16 < r
    · have HE : Hid (((clN r : Nat) : Int) = 16) := by show _ = _; unfold clN; rw [if_neg h1, if_pos h2]; rfl
      rw [HE.out]
      go_enter Try.func21, Try.ntmps21
      go_wp2
      go_ret
      exact ⟨rfl, rfl⟩
    · have HE : Hid (((clN r : Nat) : Int) = r) := by show _ = _; unfold clN; rw [if_neg h1, if_neg h2]; omega
      rw [HE.out]
      go_enter Try.func21, Try.ntmps21
      go_wp2
      go_ret
      exact ⟨rfl, rfl⟩
theorem good_any (n : Int) (f t : Int) (w : World) : Calls Try.prog 22 #[.int .i64 n, .agg #[.int .i64 f, .int .i64 t]] w fun e w' => e = .returned (.bool (goodB n f t)) ∧ Below w.heap.size w w' := by
  have HB := hide (below_new w (.cells #[.int .i64 f, .int .i64 t] 50))
  by_cases h1 : 0 ≤ f
  · by_cases h2 : f < n
    · by_cases h3 : 0 ≤ t
      · by_cases h4 : t < n
        · by_cases h5 : f = t
          · subst h5
            have HE : Hid (goodB n f f = false) := by show _ = _; unfold goodB; simp
            rw [HE.out]
            clear HE
            go_enter Try.func22, Try.ntmps22
            go_wp2
            go_ret
            exact ⟨rfl, HB.out⟩
          · have HE : Hid (goodB n f t = true) := by show _ = _; unfold goodB; simp; omega
            have h6 : (f != t) = true := by simpa using h5
            rw [HE.out]
            clear HE h5
            go_enter Try.func22, Try.ntmps22
            go_wp2
            go_ret
            exact ⟨rfl, HB.out⟩
        · have HE : Hid (goodB n f t = false) := by show _ = _; unfold goodB; simp; omega
          rw [HE.out]
          clear HE
          go_enter Try.func22, Try.ntmps22
          go_wp2
          go_ret
          exact ⟨rfl, HB.out⟩
      · have HE : Hid (goodB n f t = false) := by show _ = _; unfold goodB; simp; omega
        rw [HE.out]
        clear HE
        go_enter Try.func22, Try.ntmps22
        go_wp2
        go_ret
        exact ⟨rfl, HB.out⟩
    · have HE : Hid (goodB n f t = false) := by show _ = _; unfold goodB; simp; omega
      rw [HE.out]
      clear HE
      go_enter Try.func22, Try.ntmps22
      go_wp2
      go_ret
      exact ⟨rfl, HB.out⟩
  · have HE : Hid (goodB n f t = false) := by show _ = _; unfold goodB; simp; omega
    rw [HE.out]
    clear HE
    go_enter Try.func22, Try.ntmps22
    go_wp2
    go_ret
    exact ⟨rfl, HB.out⟩
end Go.Proofs.Ytinicdnpkihbkaa
