/- GoodsArticles: the law's walk. -/
import Derived.Test.YtmnkejbmahmckaaGreatDoorAArt
namespace Go.Proofs.YtmnkejbmahmckaaGreatDoor.A
open Go.RowKit

theorem dg_k (w : World) : Calls Tryz.prog 9 #[.string ⟨#[55, 51, 53, 49, 51, 53, 51]⟩] w fun e w' => e = .returned (.tuple #[.int .i64 7, .int .i64 0]) ∧ Below w.heap.size w w' := by
  have h := digitP_any ⟨#[55, 51, 53, 49, 51, 53, 51]⟩ w (by unfold maxLen; have : (⟨#[55, 51, 53, 49, 51, 53, 51]⟩ : ByteArray).size = 7 := rfl; omega)
  have e1 : dgN ⟨#[55, 51, 53, 49, 51, 53, 51]⟩ = 7 := by decide +kernel
  have e2 : dgE ⟨#[55, 51, 53, 49, 51, 53, 51]⟩ = 0 := by decide +kernel
  rw [e1, e2] at h
  exact h
set_option maxRecDepth 100000 in
set_option maxHeartbeats 3000000 in
theorem articles_law (ao : Option Addr) (len cap : Nat) (w : World) (hl : len ≤ cap) (hc : cap ≤ maxLen) (hst : ∀ i, i < len → ∃ p o, ao = some p ∧ StepAt w p i o) :
    Calls Tryz.prog 4 #[.slice ao len cap] w fun e w' => e = .returned (.bool true) ∧ Below w.heap.size w w' := by
  have HST := hide hst
  have HL := hide hl
  have HC := hide hc
  clear hst hl hc
  go_enter Tryz.func4, Tryz.ntmps4
  go_wp2_with fail
  refine (dg_k _).mono ?_
  rintro e w1 ⟨rfl, b1⟩
  have HS1 : Hid (∀ i, i < len → ∃ p o, ao = some p ∧ StepAt (w1.alloc (.cells #[.int .i64 3, .int .i64 4, .int .i64 5] 3)) p i o) := fun i hi => by
    obtain ⟨p, o, e, S⟩ := HST.out i hi
    exact ⟨p, o, e, (S.on b1).on ((Below.refl _ _).alloc (Nat.le_refl _) _)⟩
  have HK : Hid (∀ j, j < 3 → (w1.alloc (.cells #[.int .i64 3, .int .i64 4, .int .i64 5] 3)).cell? ⟨w1.heap.size, j, none⟩ = some (.int .i64 (([3, 4, 5] : List Int).getD j 0))) := by
    intro j hj
    match j, hj with
    | 0, _ => simp
    | 1, _ => simp
    | 2, _ => simp
  have HB : Hid (Below w.heap.size w (w1.alloc (.cells #[.int .i64 3, .int .i64 4, .int .i64 5] 3))) := b1.alloc b1.size _
  have HP : Hid (∀ i p o W, i < len → ao = some p → StepAt (w1.alloc (.cells #[.int .i64 3, .int .i64 4, .int .i64 5] 3)) p i o → Below (w1.alloc (.cells #[.int .i64 3, .int .i64 4, .int .i64 5] 3)).heap.size (w1.alloc (.cells #[.int .i64 3, .int .i64 4, .int .i64 5] 3)) W → o.kind ∈ ([3, 4, 5] : List Int) → Calls Tryz.prog 12 #[.agg #[.int .i64 o.kind, .string o.a, .string o.b, .int .i64 o.n, .slice o.lp o.ll o.lc]] W fun e w' => e = .returned (.bool true) ∧ Below W.heap.size W w') := by
    intro i p o W _ _ S _ hk
    have ha := S.ha
    obtain ⟨k, a, b, n, lp, ll, lc⟩ := o
    simp only [List.mem_cons, List.not_mem_nil, or_false] at hk
    rcases hk with rfl | rfl | rfl
    · exact plays3 a b n lp ll lc W ha
    · exact plays4 a b n lp ll lc W ha
    · exact plays5 a b n lp ll lc W ha
  clear b1
  go_wp2_with fail
  refine (only_any ao len cap w1.heap.size 3 [3, 4, 5] _ HL.out HC.out (by omega) HS1.out rfl HK.out HP.out).mono ?_
  rintro e w2 ⟨rfl, b2⟩
  have HBE : Hid (Below w.heap.size w w2) := HB.out.trans (b2.mono HB.out.size)
  go_wp2
  go_ret
  exact ⟨rfl, HBE.out⟩
end Go.Proofs.YtmnkejbmahmckaaGreatDoor.A
