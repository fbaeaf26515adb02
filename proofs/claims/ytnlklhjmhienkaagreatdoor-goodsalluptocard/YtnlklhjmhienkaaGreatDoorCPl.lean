/- plays at the kind 7: its contract. -/
import Derived.Test.YtnlklhjmhienkaaGreatDoorCRcmp
import Derived.Test.YtnlklhjmhienkaaGreatDoorSt
namespace Go.Proofs.YtnlklhjmhienkaaGreatDoor.C
open Go.RowKit

set_option maxRecDepth 100000 in
set_option maxHeartbeats 3000000 in
theorem plays7 (a b : ByteArray) (n : Int) (lp : Option Addr) (ll lc : Nat) (w : World) (ha : a.size ≤ maxLen) (hb : b.size ≤ maxLen) :
    Calls Tryz.prog 5 #[.agg #[.int .i64 7, .string a, .string b, .int .i64 n, .slice lp ll lc]] w fun e w' => e = .returned (.bool true) ∧ Below w.heap.size w w' := by
  have HM1 := hide ha
  have HM2 := hide hb
  have HB0 : Hid (Below w.heap.size w (w.alloc (.cells #[.int .i64 7, .string a, .string b, .int .i64 n, .slice lp ll lc] 27))) := (Below.refl _ _).alloc (Nat.le_refl _) _
  obtain ⟨w0, Hw0⟩ : ∃ w0, Hid (w.alloc (.cells #[.int .i64 7, .string a, .string b, .int .i64 n, .slice lp ll lc] 27) = w0) := ⟨w.alloc (.cells #[.int .i64 7, .string a, .string b, .int .i64 n, .slice lp ll lc] 27), rfl⟩
  have c1 : w0.cell? ⟨w.heap.size, 1, none⟩ = some (.string a) := by rw [← Hw0.out]; simp
  have c2 : w0.cell? ⟨w.heap.size, 2, none⟩ = some (.string b) := by rw [← Hw0.out]; simp
  have k1 := cell_regrown c1
  have k2 := cell_regrown c2
  obtain ⟨c, HC⟩ : ∃ c, Hid (cmpF a.data.toList b.data.toList = c) := ⟨cmpF a.data.toList b.data.toList, rfl⟩
  have cC : ∀ d os, Calls Tryz.prog 4 #[.string a, .string b] (Sort.grow (redrawn w0 d) os) fun e w'' => e = .returned (.int .i64 c) ∧ ∃ p : Regrown, w'' = Sort.grow (redrawn w0 p.d) p.os := fun d os => by
    have := compare_any a b (Sort.grow (redrawn w0 d) os) HM1.out HM2.out
    rw [HC.out] at this
    exact Calls.regrown_of this
  have cR : ∀ d os, Calls Tryz.prog 13 #[.string a, .string b] (Sort.grow (redrawn w0 d) os) fun e w'' => e = .returned (.int .i64 c) ∧ ∃ p : Regrown, w'' = Sort.grow (redrawn w0 p.d) p.os := fun d os => by
    have := refCompare_any a b (Sort.grow (redrawn w0 d) os) HM1.out HM2.out
    rw [HC.out] at this
    exact Calls.regrown_of this
  rw [Hw0.out] at HB0
  go_enter Tryz.func5, Tryz.ntmps5
  go_wp2_with fail
  rw [Hw0.out]
  refine wp_region_quiet_below (by kernel_rfl) (by kernel_rfl) ?_
  repeat (quiet_step (first | (go_at_call 4; exact cC _ _) | (go_at_call 13; exact cR _ _)))
  refine wpQuiet_nil ?_
  intro _ hw'
  obtain ⟨⟨dq, osq⟩, hw''⟩ := hw'
  subst hw''
  have HBE : Hid (Below w.heap.size w (Sort.grow (redrawn w0 dq) osq)) := HB0.out.trans ((below_regrown w0 dq osq).mono HB0.out.size)
  go_wp2
  go_ret
  exact ⟨ret_bool (by simp), HBE.out⟩

end Go.Proofs.YtnlklhjmhienkaaGreatDoor.C
