/- GoodsOrders: the law's walk. -/
import Derived.Test.YtiopdoeoonepmadGreatDoorPlays
namespace Go.Proofs.YtiopdoeoonepmadGreatDoor
open Go.RowKit

theorem cmp_k (w : World) : Calls Tryz.prog 14 #[.string ⟨#[65, 50]⟩, .string ⟨#[65, 49, 48]⟩] w fun e w' => e = .returned (.int .i64 (-1)) ∧ Below w.heap.size w w' := by
  have h := compare_any ⟨#[65, 50]⟩ ⟨#[65, 49, 48]⟩ w (by decide) (by decide)
  have e : cmpF (⟨#[65, 50]⟩ : ByteArray).data.toList (⟨#[65, 49, 48]⟩ : ByteArray).data.toList = -1 := by decide +kernel
  rw [e] at h
  exact h
set_option maxRecDepth 100000 in
set_option maxHeartbeats 3000000 in
theorem orders_law (ao : Option Addr) (len cap : Nat) (w : World) (hl : len ≤ cap) (hc : cap ≤ maxLen) (hst : ∀ i, i < len → ∃ p o, ao = some p ∧ StepAt w p i o) :
    Calls Tryz.prog 6 #[.slice ao len cap] w fun e w' => e = .returned (.bool true) ∧ Below w.heap.size w w' := by
  have HST := hide hst
  have HL := hide hl
  have HC := hide hc
  clear hst hl hc
  go_enter Tryz.func6, Tryz.ntmps6
  go_wp2_with fail
  refine (cmp_k _).mono ?_
  rintro e w1 ⟨rfl, b1⟩
  have HS1 : Hid (∀ i, i < len → ∃ p o, ao = some p ∧ StepAt (w1.alloc (.cells #[.int .i64 7] 3)) p i o) := fun i hi => by
    obtain ⟨p, o, e, S⟩ := HST.out i hi
    exact ⟨p, o, e, (S.on b1).on ((Below.refl _ _).alloc (Nat.le_refl _) _)⟩
  have HK : Hid ((w1.alloc (.cells #[.int .i64 7] 3)).cell? ⟨w1.heap.size, 0, none⟩ = some (.int .i64 7)) := by show _ = _; simp
  have HB : Hid (Below w.heap.size w (w1.alloc (.cells #[.int .i64 7] 3))) := b1.alloc b1.size _
  clear b1
  go_wp2_with fail
  refine (only_order ao len cap w1.heap.size _ HL.out HC.out HS1.out HK.out).mono ?_
  rintro e w2 ⟨rfl, b2⟩
  have HBE : Hid (Below w.heap.size w w2) := HB.out.trans (b2.mono HB.out.size)
  go_wp2
  go_ret
  exact ⟨rfl, HBE.out⟩
end Go.Proofs.YtiopdoeoonepmadGreatDoor
