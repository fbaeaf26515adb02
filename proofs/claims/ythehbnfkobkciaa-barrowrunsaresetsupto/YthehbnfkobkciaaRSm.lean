/- sameRuns at equal lists. -/
import Derived.Test.YthehbnfkobkciaaRKit
namespace Go.Proofs.Ythehbnfkobkciaa
open Go.RowKit
attribute [local go_sem ↓] ldR_eq stR_eq
attribute [local go_sem] zero_RC cells_RV RC_size fold_RC

def eqR (x y : Rn) : Bool := x.lo == y.lo && x.hi == y.hi
theorem eqR_self (x : Rn) : eqR x x = true := by simp [eqR]
theorem run_eqR (x y : Rn) (w : World) : (Op.equalIn 10000 28 (.agg (RC x)) (.agg (RC y))).run Try.prog w = .ok (eqR x y) w := by
  have u3 := Try.underlying3
  have a3 := Try.isAgg3
  have z3 := Try.sizeOf3
  have hS : Try.prog.underlying 28 = some (.struct (Try.prog.fieldsOf 28)) := by kernel_rfl
  have hp : Try.prog.stoodInHeld 28 = false := by kernel_rfl
  obtain ⟨r, m⟩ := x
  obtain ⟨r', m'⟩ := y
  show (Op.equalIn 10000 28 (.agg #[.int .i64 r, .int .i64 m]) (.agg #[.int .i64 r', .int .i64 m'])).run Try.prog w = .ok (r == r' && m == m') w
  rw [show (10000 : Nat) = 9999 + 1 from rfl, run_equalIn_struct w 9999 28 _ _ hS hp]
  simp only [Program.fieldsOf, Try.underlying28]
  have h1 : ∀ w, (Op.equalIn 9999 3 (.int .i64 r) (.int .i64 r')).run Try.prog w = .ok (r == r') w := fun w => run_equalIn_int w 9998 3 .i64 .i64 r r' Try.underlying3
  have h2 : ∀ w, (Op.equalIn 9999 3 (.int .i64 m) (.int .i64 m')).run Try.prog w = .ok (m == m') w := fun w => run_equalIn_int w 9998 3 .i64 .i64 m m' Try.underlying3
  obtain ⟨D, hD⟩ : ∃ D, 9999 = D := ⟨9999, rfl⟩
  rw [hD] at h1 h2 ⊢
  go_simp
  by_cases e1 : r = r'
  · by_cases e2 : m = m'
    · simp [e1, e2]
    · simp [e1, e2]
  · simp [e1]
attribute [local go_sem ↓] run_eqR
set_option maxHeartbeats 1600000 in
theorem same_any (ao bo : Option Addr) (n cap m cap' : Nat) (L R : List Rn) (w : World) (hS : RSrc w ao n cap L) (hR : RSrc w bo m cap' R) (hE : L = R) :
    Calls Try.prog 4 #[.slice ao n cap, .slice bo m cap'] w fun e w' => e = .returned (.bool true) ∧ Below w.heap.size w w' := by
  have HS := hide hS
  have HR := hide hR
  have hn := hS.big
  have hnm : n = m := by rw [← hS.len, ← hR.len, hE]
  subst hE
  subst hnm
  clear hS hR
  go_enter Try.func4, Try.ntmps4
  go_wp2_with fail
  go_loopw [13] (fun i wr => ∃ k : Nat, k ≤ n ∧ i = .int .i64 k ∧ Hid (Below w.heap.size w wr)) (fun i _ => n - (intOf i).toNat)
  case atStart => exact ⟨0, Nat.zero_le _, rfl, Below.refl _ _⟩
  case round =>
    obtain ⟨k, hk, rfl, HB⟩ := hrel
    rename World => w4
    by_cases hlt : k < n
    · obtain ⟨ad, rfl, A0⟩ := (HS.out.below HB.out).at k hlt
      obtain ⟨bd, rfl, A1⟩ := (HR.out.below HB.out).at k hlt
      obtain ⟨e, He⟩ : ∃ e, Hid (L.getD k rn0 = e) := ⟨_, rfl⟩
      rw [He.out] at A0 A1
      have l0 : ∀ d os, (ldR (.pointer (some (ad.add (k * 2))))).run Try.prog (Sort.grow (redrawn w4 d) os) = .ok (RV e) (Sort.grow (redrawn w4 d) os) := fun d os => run_ldR (A0.on (below_regrown w4 d os))
      have l1 : ∀ d os, (ldR (.pointer (some (bd.add (k * 2))))).run Try.prog (Sort.grow (redrawn w4 d) os) = .ok (RV e) (Sort.grow (redrawn w4 d) os) := fun d os => run_ldR (A1.on (below_regrown w4 d os))
      have hq := eqR_self e
      clear A0 A1
      go_wp2_with fail
      refine wp_region_quiet_below (by kernel_rfl) (by kernel_rfl) ?_
      repeat (with_reducible (refine wpQuiet_step ?_); intro K hK; go_simp; (try rw [if_neg (by unfold undef; simp)]); first | (with_reducible (refine hK _ ?_); clear hK K) | (apply Exists.intro; refine ⟨fun _ => ?_, hK _ ?_⟩; (fail); clear hK K))
      with_reducible (refine wpQuiet_nil ?_)
      intro w5 hw'
      obtain ⟨⟨dq, osq⟩, hw''⟩ := hw'
      have b5 : Below w4.heap.size w4 w5 := by rw [hw'']; exact below_regrown w4 dq osq
      clear hw'' dq osq
      have H5 := hide (HB.out.trans (b5.mono HB.out.size))
      clear b5 l0 l1
      go_wp2_with fail
      go_roundw
      case rel => exact ⟨k + 1, by omega, by go_num, H5⟩
      case measure => simp [intOf]; omega
    · go_wp2_with fail
      go_ret
      exact ⟨rfl, HB.out⟩
end Go.Proofs.Ythehbnfkobkciaa
