/- The law's samePair. -/
import Derived.Test.YtinicdnpkihbkaaECp
namespace Go.Proofs.Ytinicdnpkihbkaa
open Go.RowKit
attribute [local go_sem ↓] ldP_eq stP_eq
variable {w w' w2 : World}
set_option maxRecDepth 100000 in
theorem samePair_true (ao : Option Addr) (n c : Nat) (L : List Pr) (bo : Option Addr) (m c' : Nat) (M : List Pr) (w : World) (hY : PSrc w ao n c L) (hZ : PSrc w bo m c' M) (he : L = M) (hn : n ≤ 140737488355328) :
    Calls Try.prog 15 #[.slice ao n c, .slice bo m c'] w fun e w' => e = .returned (.bool true) ∧ Below w.heap.size w w' := by
  subst he
  obtain rfl : n = m := by rw [← hY.len, ← hZ.len]
  have HY := hide hY
  have HZ := hide hZ
  clear hY hZ
  go_enter Try.func15, Try.ntmps15
  go_wp2_with fail
  go_loopw [13] (fun i wr => ∃ k : Nat, k ≤ n ∧ i = .int .i64 k ∧ Hid (Below w.heap.size w wr)) (fun i _ => n - (intOf i).toNat)
  case atStart => exact ⟨0, Nat.zero_le _, rfl, Below.refl _ _⟩
  case round =>
    obtain ⟨k, hk, rfl, HB⟩ := hrel
    by_cases hlt : k < n
    · obtain ⟨ad, rfl, x⟩ := (HY.out.below HB.out).at k hlt
      obtain ⟨bd, rfl, y⟩ := (HZ.out.below HB.out).at k hlt
      obtain ⟨f, hf⟩ : ∃ f, L.getD k p0 = f := ⟨_, rfl⟩
      rw [hf] at x y
      obtain ⟨a, b⟩ := f
      have x0 : ∀ q, (ldP (.pointer (some (ad.add (k * 2))))).run Try.prog (wr.drewN q) = .ok (.agg #[.int .i64 a, .int .i64 b]) (wr.drewN q) := fun q => run_laP (x.on (below_drewN wr q))
      have y0 : ∀ q, (ldP (.pointer (some (bd.add (k * 2))))).run Try.prog (wr.drewN q) = .ok (.agg #[.int .i64 a, .int .i64 b]) (wr.drewN q) := fun q => run_laP (y.on (below_drewN wr q))
      have e1 : ∀ w : World, (binOp .neq 28 (.agg #[.int .i64 a, .int .i64 b]) (.agg #[.int .i64 a, .int .i64 b])).run Try.prog w = .ok (.bool false) w := run_neP a b
      have e2 : ∀ (o p : Operand) (w : World), (eqGuard .neq 28 o p (.agg #[.int .i64 a, .int .i64 b]) (.agg #[.int .i64 a, .int .i64 b])).run Try.prog w = .ok () w := run_egP a b
      clear hf x y
      go_wp2_with fail
      go_quiet (fail)
      have HB' := hide (HB.out.trans ((below_drewN wr nq).mono HB.out.size))
      clear HB x0 y0
      go_wp2_with fail
      go_roundw
      case rel => exact ⟨k + 1, by omega, by go_num, HB'⟩
      case measure => simp [intOf]; omega
    · go_wp2_with fail
      go_ret
      exact ⟨rfl, HB.out⟩
end Go.Proofs.Ytinicdnpkihbkaa
