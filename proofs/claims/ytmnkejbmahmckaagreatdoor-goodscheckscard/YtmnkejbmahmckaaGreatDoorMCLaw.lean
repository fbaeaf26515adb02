/- GoodsChecks: the law's walk. -/
import Derived.Test.YtmnkejbmahmckaaGreatDoorMNm
namespace Go.Proofs.YtmnkejbmahmckaaGreatDoor.M
open Go.RowKit

theorem ck_k (w : World) : Calls Tryz.prog 6 #[.string ⟨#[65, 45, 46, 66]⟩] w fun e w' => e = .returned (.tuple #[.int .i64 2, .int .i64 22]) ∧ w' = w := by
  have h := check_full ⟨#[65, 45, 46, 66]⟩ w (by unfold maxLen; have : (⟨#[65, 45, 46, 66]⟩ : ByteArray).size = 4 := rfl; omega)
  have e1 : ckP (⟨#[65, 45, 46, 66]⟩ : ByteArray).data.toList = 2 := by decide +kernel
  have e2 : ckE (⟨#[65, 45, 46, 66]⟩ : ByteArray).data.toList = 22 := by decide +kernel
  rw [e1, e2] at h
  exact h
theorem gd_k (w : World) : Calls Tryz.prog 7 #[.string ⟨#[65]⟩] w fun e w' => e = .returned (.bool true) ∧ w' = w := by
  have h := good_any ⟨#[65]⟩ w (by unfold maxLen; have : (⟨#[65]⟩ : ByteArray).size = 1 := rfl; omega)
  have e1 : good (⟨#[65]⟩ : ByteArray).data.toList = true := by decide +kernel
  rw [e1] at h
  exact h
set_option maxRecDepth 100000 in
set_option maxHeartbeats 3000000 in
theorem checks_law (ao : Option Addr) (len cap : Nat) (w : World) (hl : len ≤ cap) (hc : cap ≤ maxLen) (hst : ∀ i, i < len → ∃ p o, ao = some p ∧ StepAt w p i o) :
    Calls Tryz.prog 3 #[.slice ao len cap] w fun e w' => e = .returned (.bool true) ∧ Below w.heap.size w w' := by
  have HL := hide hl
  have HC := hide hc
  have HS1 : Hid (∀ i, i < len → ∃ p o, ao = some p ∧ StepAt (w.alloc (.cells #[.int .i64 1, .int .i64 2, .int .i64 11] 3)) p i o) := fun i hi => by
    obtain ⟨p, o, e, S⟩ := hst i hi
    exact ⟨p, o, e, S.on ((Below.refl _ _).alloc (Nat.le_refl _) _)⟩
  have HK : Hid (∀ j, j < 3 → (w.alloc (.cells #[.int .i64 1, .int .i64 2, .int .i64 11] 3)).cell? ⟨w.heap.size, j, none⟩ = some (.int .i64 (([1, 2, 11] : List Int).getD j 0))) := by
    intro j hj
    match j, hj with
    | 0, _ => simp
    | 1, _ => simp
    | 2, _ => simp
  have HB : Hid (Below w.heap.size w (w.alloc (.cells #[.int .i64 1, .int .i64 2, .int .i64 11] 3))) := (Below.refl _ _).alloc (Nat.le_refl _) _
  have HP : Hid (∀ i p o W, i < len → ao = some p → StepAt (w.alloc (.cells #[.int .i64 1, .int .i64 2, .int .i64 11] 3)) p i o → Below (w.alloc (.cells #[.int .i64 1, .int .i64 2, .int .i64 11] 3)).heap.size (w.alloc (.cells #[.int .i64 1, .int .i64 2, .int .i64 11] 3)) W → o.kind ∈ ([1, 2, 11] : List Int) → Calls Tryz.prog 12 #[.agg #[.int .i64 o.kind, .string o.a, .string o.b, .int .i64 o.n, .slice o.lp o.ll o.lc]] W fun e w' => e = .returned (.bool true) ∧ Below W.heap.size W w') := by
    intro i p o W _ _ S _ hk
    have ha := S.ha
    obtain ⟨k, a, b, n, lp, ll, lc⟩ := o
    simp only [List.mem_cons, List.not_mem_nil, or_false] at hk
    rcases hk with rfl | rfl | rfl
    · exact plays1 a b n lp ll lc W ha
    · exact plays2 a b n lp ll lc W ha
    · exact plays11 a b n lp ll lc W ha
  clear hst hl hc
  go_enter Tryz.func3, Tryz.ntmps3
  go_wp2_with (first | (go_at_call 6; refine (ck_k _).mono ?_; rintro e w3 ⟨rfl, h3⟩; subst w3) | (go_at_call 7; refine (gd_k _).mono ?_; rintro e w3 ⟨rfl, h3⟩; subst w3))
  refine (only_any ao len cap w.heap.size 3 [1, 2, 11] _ HL.out HC.out (by omega) HS1.out rfl HK.out HP.out).mono ?_
  rintro e w2 ⟨rfl, b2⟩
  have HBE : Hid (Below w.heap.size w w2) := HB.out.trans (b2.mono HB.out.size)
  go_wp2
  go_ret
  exact ⟨rfl, HBE.out⟩
end Go.Proofs.YtmnkejbmahmckaaGreatDoor.M
