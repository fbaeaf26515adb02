/- Has; the reference's At and Has: their contracts. -/
import Derived.Test.YtdilejbdkhkifabArr
import Derived.Lib.QuietBelow
import Derived.Deep.RegionWith
namespace Go.Proofs.Ytdilejbdkhkifab
open Go.RowKit
attribute [local go_sem] zeros_VC

def hasD (Z : List Int) (r m : Int) : Bool := decide (1 ≤ m) && decide (m ≤ atI Z r)
theorem clamp_bd (z : Int) : 0 ≤ clamp z ∧ clamp z ≤ 1000000000 := by unfold clamp; split; omega; split <;> omega
theorem at'_bd (Z : List Int) (r : Nat) : 0 ≤ at' Z r ∧ at' Z r ≤ 1000000000 := by
  unfold at'; split
  · exact clamp_bd _
  · omega
theorem atI_bd (Z : List Int) (r : Int) : 0 ≤ atI Z r ∧ atI Z r ≤ 1000000000 := by
  unfold atI; split
  · exact at'_bd _ _
  · omega

theorem at_below (ao : Option Addr) (n cap : Nat) (Z : List Int) (r : Int) (w : World) (hS : Src w ao n cap Z) :
    Calls Try.prog 16 #[.slice ao n cap, .int .i64 r] w fun e w' => e = .returned (.int .i64 (atI Z r)) ∧ Below w.heap.size w w' := by
  refine (at_any ao n cap Z r w hS).mono ?_
  rintro e w' ⟨rfl, rfl⟩
  exact ⟨rfl, Below.refl _ _⟩

set_option maxHeartbeats 1600000 in
theorem has_any (ao : Option Addr) (n cap : Nat) (Z : List Int) (r m : Int) (w : World) (hS : Src w ao n cap Z) :
    Calls Try.prog 17 #[.slice ao n cap, .agg #[.int .i64 r, .int .i64 m]] w fun e w' => e = .returned (.bool (hasD Z r m)) ∧ Below w.heap.size w w' := by
  have HB : Hid (Below w.heap.size w (w.alloc (.cells #[.int .i64 r, .int .i64 m] 31))) := (Below.refl _ _).alloc (Nat.le_refl _) _
  have HS := hide (hS.below HB.out)
  clear hS
  obtain ⟨w0, Hw0⟩ : ∃ w0, Hid (w.alloc (.cells #[.int .i64 r, .int .i64 m] 31) = w0) := ⟨_, rfl⟩
  have k0 := cell_regrown (show w0.cell? ⟨w.heap.size, 0, none⟩ = some (.int .i64 r) by rw [← Hw0.out]; simp)
  have k1 := cell_regrown (show w0.cell? ⟨w.heap.size, 1, none⟩ = some (.int .i64 m) by rw [← Hw0.out]; simp)
  rw [Hw0.out] at HB HS
  obtain ⟨a, HA⟩ : ∃ a, Hid (atI Z r = a) := ⟨_, rfl⟩
  have cA : ∀ d os, Calls Try.prog 16 #[.slice ao n cap, .int .i64 r] (Sort.grow (redrawn w0 d) os) fun e w'' => e = .returned (.int .i64 a) ∧ ∃ p : Regrown, w'' = Sort.grow (redrawn w0 p.d) p.os := fun d os => by
    have := at_below ao n cap Z r (Sort.grow (redrawn w0 d) os) (HS.out.below (below_regrown w0 d os))
    rw [HA.out] at this
    exact Calls.regrown_of this
  by_cases h1 : 1 ≤ m
  · have HR : Hid (hasD Z r m = decide (m ≤ a)) := by show _ = _; unfold hasD; rw [decide_eq_true h1, Bool.true_and, HA.out]
    go_enter Try.func17, Try.ntmps17
    go_wp2_with fail
    rw [Hw0.out]
    refine wp_region_quiet_below (by kernel_rfl) (by kernel_rfl) ?_
    repeat (quiet_step ((go_at_call 16; exact cA _ _)))
    refine wpQuiet_nil ?_
    intro _ hw'
    obtain ⟨⟨dq, osq⟩, hw''⟩ := hw'
    subst hw''
    have HBE : Hid (Below w.heap.size w (Sort.grow (redrawn w0 dq) osq)) := HB.out.trans ((below_regrown w0 dq osq).mono HB.out.size)
    go_wp2
    go_ret
    exact ⟨ret_bool HR.out.symm, HBE.out⟩
  · have HR : Hid (hasD Z r m = false) := by show _ = _; unfold hasD; rw [decide_eq_false h1, Bool.false_and]
    have h1' := decide_eq_false h1
    go_enter Try.func17, Try.ntmps17
    go_wp2_with fail
    rw [Hw0.out]
    refine wp_region_quiet_below (by kernel_rfl) (by kernel_rfl) ?_
    repeat (quiet_step (fail))
    refine wpQuiet_nil ?_
    intro _ hw'
    obtain ⟨⟨dq, osq⟩, hw''⟩ := hw'
    subst hw''
    have HBE : Hid (Below w.heap.size w (Sort.grow (redrawn w0 dq) osq)) := HB.out.trans ((below_regrown w0 dq osq).mono HB.out.size)
    go_wp2
    go_ret
    exact ⟨ret_bool HR.out.symm, HBE.out⟩

end Go.Proofs.Ytdilejbdkhkifab
