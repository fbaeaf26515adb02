/- Within, Order: their contracts. -/
import Derived.Test.YtiogmeaianogmaaRWi
namespace Go.Proofs.Ytiogmeaianogmaa
open Go.RowKit
attribute [local go_sem ↓] ldR_eq stR_eq
attribute [local go_sem] zero_RC cells_RV RC_size fold_RC build_RC

/-- how A stands to B -/
def Ord (A B : List Rn) (k : Int) : Prop := k = 0 ↔ ∀ n, mem A n ↔ mem B n
set_option maxHeartbeats 1000000 in
theorem order_any (ao bo : Option Addr) (n cap m cap' : Nat) (A B : List Rn) (w : World) (hS : RSrc w ao n cap A) (hR : RSrc w bo m cap' B) :
    Calls Try.prog 45 #[.slice ao n cap, .slice bo m cap'] w fun e w' => ∃ k, e = .returned (.int .i64 k) ∧ Ord A B k ∧ Below w.heap.size w w' := by
  have HS := hide hS
  have HR := hide hR
  clear hS hR
  go_enter Try.func45, Try.ntmps45
  go_wp2_with fail
  refine (within_any ao bo n cap m cap' A B _ HS.out HR.out).mono ?_
  rintro e w1 ⟨x, rfl, hx, b1⟩
  have HX := hide hx
  have HB1 := hide b1
  clear hx b1
  go_wp2_with fail
  refine (within_any bo ao m cap' n cap B A _ (HR.out.below HB1.out) (HS.out.below HB1.out)).mono ?_
  rintro e w2 ⟨y, rfl, hy, b2⟩
  have HY := hide hy
  have HB2 := hide (HB1.out.trans (b2.mono HB1.out.size))
  clear hy b2
  cases x with
  | true =>
    cases y with
    | true =>
      have HF : Hid (Ord A B 0) := ⟨fun _ n => ⟨HX.out.1 rfl n, HY.out.1 rfl n⟩, fun _ => rfl⟩
      go_wp2_with fail
      go_ret
      exact ⟨0, rfl, HF.out, HB2.out⟩
    | false =>
      have HF : Hid (Ord A B 1) := ⟨fun h => by omega, fun h => by have := HY.out.2 (fun n => (h n).2); cases this⟩
      go_wp2_with fail
      go_ret
      exact ⟨1, rfl, HF.out, HB2.out⟩
  | false =>
    cases y with
    | true =>
      have HF : Hid (Ord A B 2) := ⟨fun h => by omega, fun h => by have := HX.out.2 (fun n => (h n).1); cases this⟩
      go_wp2_with fail
      go_ret
      exact ⟨2, rfl, HF.out, HB2.out⟩
    | false =>
      have HF : Hid (Ord A B 3) := ⟨fun h => by omega, fun h => by have := HX.out.2 (fun n => (h n).1); cases this⟩
      go_wp2_with fail
      go_ret
      exact ⟨3, rfl, HF.out, HB2.out⟩
end Go.Proofs.Ytiogmeaianogmaa
