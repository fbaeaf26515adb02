/- The reference's EqualAll: its contract. -/
import Derived.Test.YtdilejbdkhkifaaCopy
namespace Go.Proofs.Ytdilejbdkhkifaa
open Go.RowKit

set_option maxHeartbeats 1600000 in
theorem equalAll_any (ao bo : Option Addr) (m c d : Nat) (A B : Nat → Option Addr) (N C D : Nat → Nat) (Z : Nat → List Int) (w : World) (hA : Rows w ao m c A N C Z) (hB : Rows w bo m d B N D Z) (hm : m ≤ 5864062014800) (hN : ∀ t, t < m → N t ≤ maxLen) :
    Calls Try.prog 30 #[.slice ao m c, .slice bo m d] w fun e w' => e = .returned (.bool true) ∧ Below w.heap.size w w' := by
  have HA := hide hA
  have HB := hide hB
  have HN := hide hN
  clear hA hB hN
  go_enter Try.func30, Try.ntmps30
  go_wp2_with fail
  go_loopw [5] (fun i wr => ∃ k : Nat, k ≤ m ∧ i = .int .i64 k ∧ Hid (Below w.heap.size w wr)) (fun i _ => m - (intOf i).toNat)
  case atStart => exact ⟨0, Nat.zero_le _, rfl, Below.refl _ _⟩
  case round =>
    obtain ⟨k, hk, rfl, W⟩ := hrel
    by_cases hlt : k < m
    · have RA := HA.out.below W.out
      have RB := HB.out.below W.out
      obtain ⟨ad, rfl⟩ : ∃ ad, ao = some ad := by
        cases ao with
        | none => have := RA.nil rfl; omega
        | some ad => exact ⟨ad, rfl⟩
      obtain ⟨bd, rfl⟩ : ∃ bd, bo = some bd := by
        cases bo with
        | none => have := RB.nil rfl; omega
        | some bd => exact ⟨bd, rfl⟩
      have k0 := cell_regrown (RA.cell ad rfl k hlt)
      have k1 := cell_regrown (RB.cell bd rfl k hlt)
      have SA := hide (RA.src k hlt)
      have SB := hide (RB.src k hlt)
      have cE : ∀ d os, Calls Try.prog 15 #[.slice (A k) (N k) (C k), .slice (B k) (N k) (D k)] (Sort.grow (redrawn wr d) os) fun e w'' => e = .returned (.bool true) ∧ ∃ p : Regrown, w'' = Sort.grow (redrawn wr p.d) p.os := fun d os => by
        have h := equal_any _ _ _ _ _ _ (Z k) (Z k) _ (SA.out.below (below_regrown wr d os)) (SB.out.below (below_regrown wr d os)) (HN.out k hlt)
        rw [show decide (Z k = Z k) = true from by simp] at h
        exact Calls.regrown_of h
      clear RA RB
      go_wp2_with fail
      refine wp_region_quiet_below (by kernel_rfl) (by kernel_rfl) ?_
      repeat (quiet_step ((go_at_call 15; exact cE _ _)))
      refine wpQuiet_nil ?_
      intro _ hw'
      obtain ⟨⟨dq, osq⟩, hw''⟩ := hw'
      subst hw''
      have W1 := hide (W.out.trans ((below_regrown wr dq osq).mono W.out.size))
      go_wp2_with fail
      go_roundw
      case rel => exact ⟨k + 1, by omega, by go_num, W1⟩
      case measure => simp [intOf]; omega
    · go_wp2_with fail
      go_ret
      exact ⟨rfl, W.out⟩
end Go.Proofs.Ytdilejbdkhkifaa
