/- Has; the reference's At and Has: their contracts. -/
import Derived.Test.YtdilejbdkhkifaaFull
import Derived.Lib.QuietBelow
import Derived.Deep.RegionWith
namespace Go.Proofs.Ytdilejbdkhkifaa
open Go.RowKit
attribute [local go_sem ↓] ld55_eq st55_eq
attribute [local go_sem] zeros_VC

def hasD (Z : List Int) (r m : Int) : Bool := decide (1 ≤ m) && decide (m ≤ atI Z r)
theorem clamp_bd (z : Int) : 0 ≤ clamp z ∧ clamp z ≤ 1000000000 := by unfold clamp; split; omega; split <;> omega
theorem at'_bd (Z : List Int) (r : Nat) : 0 ≤ at' Z r ∧ at' Z r ≤ 1000000000 := by
  unfold at'; split
  · exact clamp_bd _
  · omega
theorem atI_bd (Z : List Int) (r : Int) : 0 ≤ atI Z r ∧ atI Z r ≤ 1000000000 := by
  unfold atI; split
  · exact at'_bd _ _
  · omega

theorem at_below (ao : Option Addr) (n cap : Nat) (Z : List Int) (r : Int) (w : World) (hS : Src w ao n cap Z) :
    Calls Try.prog 17 #[.slice ao n cap, .int .i64 r] w fun e w' => e = .returned (.int .i64 (atI Z r)) ∧ Below w.heap.size w w' := by
  refine (at_any ao n cap Z r w hS).mono ?_
  rintro e w' ⟨rfl, rfl⟩
  exact ⟨rfl, Below.refl _ _⟩

set_option maxHeartbeats 1600000 in
theorem has_any (ao : Option Addr) (n cap : Nat) (Z : List Int) (r m : Int) (w : World) (hS : Src w ao n cap Z) :
    Calls Try.prog 18 #[.slice ao n cap, .agg #[.int .i64 r, .int .i64 m]] w fun e w' => e = .returned (.bool (hasD Z r m)) ∧ Below w.heap.size w w' := by
  have HB : Hid (Below w.heap.size w (w.alloc (.cells #[.int .i64 r, .int .i64 m] 29))) := (Below.refl _ _).alloc (Nat.le_refl _) _
  have HS := hide (hS.below HB.out)
  clear hS
  obtain ⟨w0, Hw0⟩ : ∃ w0, Hid (w.alloc (.cells #[.int .i64 r, .int .i64 m] 29) = w0) := ⟨_, rfl⟩
  have k0 := cell_regrown (show w0.cell? ⟨w.heap.size, 0, none⟩ = some (.int .i64 r) by rw [← Hw0.out]; simp)
  have k1 := cell_regrown (show w0.cell? ⟨w.heap.size, 1, none⟩ = some (.int .i64 m) by rw [← Hw0.out]; simp)
  rw [Hw0.out] at HB HS
  obtain ⟨a, HA⟩ : ∃ a, Hid (atI Z r = a) := ⟨_, rfl⟩
  have cA : ∀ d os, Calls Try.prog 17 #[.slice ao n cap, .int .i64 r] (Sort.grow (redrawn w0 d) os) fun e w'' => e = .returned (.int .i64 a) ∧ ∃ p : Regrown, w'' = Sort.grow (redrawn w0 p.d) p.os := fun d os => by
    have := at_below ao n cap Z r (Sort.grow (redrawn w0 d) os) (HS.out.below (below_regrown w0 d os))
    rw [HA.out] at this
    exact Calls.regrown_of this
  by_cases h1 : 1 ≤ m
  · have HR : Hid (hasD Z r m = decide (m ≤ a)) := by show _ = _; unfold hasD; rw [decide_eq_true h1, Bool.true_and, HA.out]
    go_enter Try.func18, Try.ntmps18
    go_wp2_with fail
    rw [Hw0.out]
    refine wp_region_quiet_below (by kernel_rfl) (by kernel_rfl) ?_
    repeat (quiet_step ((go_at_call 17; exact cA _ _)))
    refine wpQuiet_nil ?_
    intro _ hw'
    obtain ⟨⟨dq, osq⟩, hw''⟩ := hw'
    subst hw''
    have HBE : Hid (Below w.heap.size w (Sort.grow (redrawn w0 dq) osq)) := HB.out.trans ((below_regrown w0 dq osq).mono HB.out.size)
    go_wp2
    go_ret
    exact ⟨ret_bool HR.out.symm, HBE.out⟩
  · have HR : Hid (hasD Z r m = false) := by show _ = _; unfold hasD; rw [decide_eq_false h1, Bool.false_and]
    have h1' := decide_eq_false h1
    go_enter Try.func18, Try.ntmps18
    go_wp2_with fail
    rw [Hw0.out]
    refine wp_region_quiet_below (by kernel_rfl) (by kernel_rfl) ?_
    repeat (quiet_step (fail))
    refine wpQuiet_nil ?_
    intro _ hw'
    obtain ⟨⟨dq, osq⟩, hw''⟩ := hw'
    subst hw''
    have HBE : Hid (Below w.heap.size w (Sort.grow (redrawn w0 dq) osq)) := HB.out.trans ((below_regrown w0 dq osq).mono HB.out.size)
    go_wp2
    go_ret
    exact ⟨ret_bool HR.out.symm, HBE.out⟩

set_option maxHeartbeats 1600000 in
theorem refAt_any (ao : Option Addr) (n cap : Nat) (Z : List Int) (r : Int) (w : World) (hS : Src w ao n cap Z) :
    Calls Try.prog 19 #[.slice ao n cap, .int .i64 r] w fun e w' => e = .returned (.int .i64 (atI Z r)) ∧ Below w.heap.size w w' := by
  have HS := hide hS
  clear hS
  by_cases h1 : r < 0
  · have HA : Hid (atI Z r = 0) := by show _ = _; unfold atI isR; rw [decide_eq_false (show ¬ 0 ≤ r by omega)]; rfl
    go_enter Try.func19, Try.ntmps19
    go_wp2
    go_ret
    exact ⟨ret_int HA.out.symm, Below.refl _ _⟩
  by_cases h2 : 16 ≤ r
  · have HA : Hid (atI Z r = 0) := by show _ = _; unfold atI isR; rw [decide_eq_false (show ¬ r < 16 by omega), Bool.and_false]; rfl
    go_enter Try.func19, Try.ntmps19
    go_wp2
    go_ret
    exact ⟨ret_int HA.out.symm, Below.refl _ _⟩
  obtain ⟨k, rfl⟩ : ∃ k : Nat, r = k := ⟨r.toNat, by omega⟩
  have hk : k < 16 := by omega
  have HA : Hid (atI Z k = at' Z k) := by show _ = _; unfold atI; rw [if_pos (by simp [isR]; omega), Int.toNat_natCast]
  go_enter Try.func19, Try.ntmps19
  go_wp2_with (fail)
  refine (full_any ao n cap Z _ HS.out).mono ?_
  rintro e w1 ⟨rfl, hb⟩
  have s1 := run_st55 (f' := at' Z) (arr_new w1 55 (fun _ => 0))
  have A1 := hide ((arr_new w1 55 (fun _ => 0)).setRow (f' := at' Z))
  have hb2 := below_setRow (g := w1.heap.size) (cs := VC (at' Z)) (hb.alloc hb.size (.cells (VC fun _ => 0) 55)) hb.size
  obtain ⟨w2, hw2⟩ : ∃ w2, (w1.alloc (.cells (VC fun _ => 0) 55)).setRow w1.heap.size (VC (at' Z)) = w2 := ⟨_, rfl⟩
  rw [hw2] at s1 A1 hb2
  have c1 := A1.out.cell k hk
  clear hw2
  go_wp2
  go_ret
  exact ⟨ret_int HA.out.symm, hb2⟩

end Go.Proofs.Ytdilejbdkhkifaa
