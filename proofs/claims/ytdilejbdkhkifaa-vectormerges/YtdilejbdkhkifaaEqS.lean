/- The reference's EqualSpans: its contract. -/
import Derived.Test.YtdilejbdkhkifaaSpV
namespace Go.Proofs.Ytdilejbdkhkifaa
open Go.RowKit
attribute [local go_sem ↓] ld53_eq st53_eq

set_option maxHeartbeats 1600000 in
theorem equalSpans_any (ao bo : Option Addr) (n m c d : Nat) (A : List (Int × Int × Int)) (w : World) (hA : SSrc w ao n c A) (hB : SSrc w bo m d A) (hn : n ≤ 16) :
    Calls Try.prog 37 #[.slice ao n c, .slice bo m d] w fun e w' => e = .returned (.bool true) ∧ Below w.heap.size w w' := by
  obtain rfl : n = m := by rw [← hA.1, ← hB.1]
  have HA := hide hA
  have HB := hide hB
  clear hA hB
  go_enter Try.func37, Try.ntmps37
  go_wp2_with fail
  go_loopw [5] (fun i wr => ∃ k : Nat, k ≤ n ∧ i = .int .i64 k ∧ Hid (Below w.heap.size w wr)) (fun i _ => n - (intOf i).toNat)
  case atStart => exact ⟨0, Nat.zero_le _, rfl, Below.refl _ _⟩
  case round =>
    obtain ⟨k, hk, rfl, W⟩ := hrel
    by_cases hlt : k < n
    · have SA := HA.out.below W.out
      have SB := HB.out.below W.out
      obtain ⟨ad, rfl⟩ : ∃ ad, ao = some ad := by
        cases ao with
        | none => have := SA.2.1 rfl; omega
        | some ad => exact ⟨ad, rfl⟩
      obtain ⟨bd, rfl⟩ : ∃ bd, bo = some bd := by
        cases bo with
        | none => have := SB.2.1 rfl; omega
        | some bd => exact ⟨bd, rfl⟩
      have la : ∀ d os, (ld53 (.pointer (some (ad.add (k * 3))))).run Try.prog (Sort.grow (redrawn wr d) os) = .ok (.agg (spC (A.getD k (0, 0, 0))).toArray) (Sort.grow (redrawn wr d) os) := fun d os => run_ld53 (SA.below (below_regrown wr d os)) ad rfl k hlt
      have lb : ∀ d os, (ld53 (.pointer (some (bd.add (k * 3))))).run Try.prog (Sort.grow (redrawn wr d) os) = .ok (.agg (spC (A.getD k (0, 0, 0))).toArray) (Sort.grow (redrawn wr d) os) := fun d os => run_ld53 (SB.below (below_regrown wr d os)) bd rfl k hlt
      obtain ⟨⟨s0, sl, sh⟩, Hs⟩ : ∃ s, Hid (A.getD k (0, 0, 0) = s) := ⟨_, rfl⟩
      rw [Hs.out] at la lb
      simp only [spC] at la lb
      clear SA SB
      go_wp2_with fail
      refine wp_region_quiet_below (by kernel_rfl) (by kernel_rfl) ?_
      repeat (quiet_step (fail))
      refine wpQuiet_nil ?_
      intro _ hw'
      obtain ⟨⟨dq, osq⟩, hw''⟩ := hw'
      subst hw''
      have W1 := hide (W.out.trans ((below_regrown wr dq osq).mono W.out.size))
      go_wp2_with fail
      go_roundw
      case rel => exact ⟨k + 1, by omega, by go_num, W1⟩
      case measure => simp [intOf]; omega
    · go_wp2_with fail
      go_ret
      exact ⟨rfl, W.out⟩
end Go.Proofs.Ytdilejbdkhkifaa
