/- The top's helpers: sameEntries, sameLines, mug, isDot, before: their contracts. -/
import Derived.Test.YtmhdhedjeaaciaaLRt
import Derived.Test.YtmhdhedjeaaciaaLSame
namespace Go.Proofs.Ytmhdhedjeaaciaa
open Go.RowKit
abbrev bMug : ByteArray := ⟨#[77, 85, 71, 45, 49]⟩
abbrev bTea : ByteArray := ⟨#[84, 69, 65]⟩
set_option maxRecDepth 100000 in
theorem mug_any (w : World) : Calls Try.prog 22 #[] w fun e w' => e = .returned (.agg #[.int .i64 1, .int .i64 2, .string bMug, .int .i64 5]) ∧ Below w.heap.size w w' := by
  have HX := hide (box_new w 40 ⟨1, 2, bMug, 5⟩)
  have HB := hide (below_new w (.cells (EC ⟨1, 2, bMug, 5⟩) 40))
  go_enter Try.func22, Try.ntmps22
  go_wp2_with fail
  exact bodyPost_ret (res28 Try.results22 rfl HX.out) rfl ⟨rfl, HB.out⟩
attribute [local go_sem ↓] ld28_eq st28_eq ldL_eq stL_eq ld26_eq
attribute [local go_sem] zero_EC cells_EV EC_size zero_LC cells_LV LC_size

def dotB (e : En) : Bool := isR e.rep && (decide (1 ≤ e.num) && decide (e.num ≤ 1000000000))
theorem isDot_any (e : En) (w : World) : Calls Try.prog 42 #[.agg (DC e)] w fun x w' => x = .returned (.bool (dotB e)) ∧ Below w.heap.size w w' := by
  obtain ⟨r, m, s, q⟩ := e
  have HB := hide (below_new w (.cells #[.int .i64 r, .int .i64 m] 38))
  show Calls Try.prog 42 #[.agg #[.int .i64 r, .int .i64 m]] w fun x w' => x = .returned (.bool (dotB ⟨r, m, s, q⟩)) ∧ Below w.heap.size w w'
  obtain ⟨v, Hv⟩ : ∃ v, Hid (dotB ⟨r, m, s, q⟩ = v) := ⟨_, rfl⟩
  rw [Hv.out]
  by_cases h1 : 0 ≤ r
  · have g1 : decide (0 ≤ r) = true := decide_eq_true h1
    by_cases h2 : r < 16
    · have g2 : decide (r < 16) = true := decide_eq_true h2
      by_cases h3 : 1 ≤ m
      · have g3 : decide (1 ≤ m) = true := decide_eq_true h3
        have HF : Hid (decide (m ≤ 1000000000) = v) := by show _ = _; rw [← Hv.out]; simp [dotB, isR, h1, h2, h3]
        clear h1 h2 h3
        go_enter Try.func42, Try.ntmps42
        go_wp2_with fail
        go_ret
        exact ⟨ret_bool HF.out, HB.out⟩
      · have g3 : decide (1 ≤ m) = false := decide_eq_false h3
        have HF : Hid (false = v) := by show _ = _; rw [← Hv.out]; simp [dotB, isR, h1, h2, h3]
        clear h1 h2 h3
        go_enter Try.func42, Try.ntmps42
        go_wp2_with fail
        go_ret
        exact ⟨ret_bool HF.out, HB.out⟩
    · have g2 : decide (r < 16) = false := decide_eq_false h2
      have HF : Hid (false = v) := by show _ = _; rw [← Hv.out]; simp [dotB, isR, h1, h2]
      clear h1 h2
      go_enter Try.func42, Try.ntmps42
      go_wp2_with fail
      go_ret
      exact ⟨ret_bool HF.out, HB.out⟩
  · have g1 : decide (0 ≤ r) = false := decide_eq_false h1
    have HF : Hid (false = v) := by show _ = _; rw [← Hv.out]; simp [dotB, isR, h1]
    clear h1
    go_enter Try.func42, Try.ntmps42
    go_wp2_with fail
    go_ret
    exact ⟨ret_bool HF.out, HB.out⟩
theorem before_any (x y : En) (w : World) : Calls Try.prog 44 #[.agg (DC x), .agg (DC y)] w fun e w' => e = .returned (.bool (ahead x y)) ∧ Below w.heap.size w w' := by
  obtain ⟨r, m, s, q⟩ := x
  obtain ⟨r', m', s', q'⟩ := y
  have HB := hide (below_new w (.cells #[.int .i64 r, .int .i64 m] 38))
  have HB2 := hide (HB.out.trans ((below_new (w.alloc (.cells #[.int .i64 r, .int .i64 m] 38)) (.cells #[.int .i64 r', .int .i64 m'] 38)).mono HB.out.size))
  show Calls Try.prog 44 #[.agg #[.int .i64 r, .int .i64 m], .agg #[.int .i64 r', .int .i64 m']] w fun x w' => x = .returned (.bool (ahead ⟨r, m, s, q⟩ ⟨r', m', s', q'⟩)) ∧ Below w.heap.size w w'
  obtain ⟨v, Hv⟩ : ∃ v, Hid (ahead ⟨r, m, s, q⟩ ⟨r', m', s', q'⟩ = v) := ⟨_, rfl⟩
  rw [Hv.out]
  by_cases h1 : r < r'
  · have g1 : decide (r < r') = true := decide_eq_true h1
    have HF : Hid (true = v) := by show _ = _; rw [← Hv.out]; simp [ahead, h1]
    clear h1
    go_enter Try.func44, Try.ntmps44
    go_wp2_with fail
    go_ret
    exact ⟨ret_bool HF.out, HB2.out⟩
  · have g1 : decide (r < r') = false := decide_eq_false h1
    by_cases h2 : r = r'
    · have g2 : (r == r') = true := by simpa using h2
      have HF : Hid (decide (m < m') = v) := by show _ = _; rw [← Hv.out]; simp [ahead, h2]
      clear h1 h2
      go_enter Try.func44, Try.ntmps44
      go_wp2_with fail
      go_ret
      exact ⟨ret_bool HF.out, HB2.out⟩
    · have g2 : (r == r') = false := by simpa using h2
      have HF : Hid (false = v) := by show _ = _; rw [← Hv.out]; simp [ahead, h1, h2]
      clear h1 h2
      go_enter Try.func44, Try.ntmps44
      go_wp2_with fail
      go_ret
      exact ⟨ret_bool HF.out, HB2.out⟩
attribute [local go_sem ↓] run_eq28 run_eqL
set_option maxRecDepth 100000 in
set_option maxHeartbeats 1600000 in
theorem sameEntries_any (ao bo : Option Addr) (n cap m cap' : Nat) (L R : List En) (w : World) (hS : ESrc w ao n cap L) (hR : ESrc w bo m cap' R) (hE : L = R) :
    Calls Try.prog 26 #[.slice ao n cap, .slice bo m cap'] w fun e w' => e = .returned (.bool true) ∧ Below w.heap.size w w' := by
  have HS := hide hS
  have HR := hide hR
  have hn := hS.2.2.2.2
  have hnm : n = m := by rw [← hS.1, ← hR.1, hE]
  subst hE
  subst hnm
  clear hS hR
  go_enter Try.func26, Try.ntmps26
  go_wp2_with fail
  go_loopw [13] (fun i wr => ∃ k : Nat, k ≤ n ∧ i = .int .i64 k ∧ Hid (Below w.heap.size w wr)) (fun i _ => n - (intOf i).toNat)
  case atStart => exact ⟨0, Nat.zero_le _, rfl, Below.refl _ _⟩
  case round =>
    obtain ⟨k, hk, rfl, HB⟩ := hrel
    by_cases hlt : k < n
    · obtain ⟨ad, rfl, A0⟩ := (HS.out.below HB.out).at k hlt
      obtain ⟨bd, rfl, A1⟩ := (HR.out.below HB.out).at k hlt
      obtain ⟨e, He⟩ : ∃ e, Hid (L.getD k en0 = e) := ⟨_, rfl⟩
      rw [He.out] at A0 A1
      have l0 : ∀ d os, (ld28 (.pointer (some (ad.add (k * 4))))).run Try.prog (Sort.grow (redrawn wr d) os) = .ok (EV e) (Sort.grow (redrawn wr d) os) := fun d os => run_ld28 (A0.on (below_regrown wr d os))
      have l1 : ∀ d os, (ld28 (.pointer (some (bd.add (k * 4))))).run Try.prog (Sort.grow (redrawn wr d) os) = .ok (EV e) (Sort.grow (redrawn wr d) os) := fun d os => run_ld28 (A1.on (below_regrown wr d os))
      have hq := eqE_self e
      clear A0 A1
      go_wp2_with fail
      refine wp_region_quiet_below (by kernel_rfl) (by kernel_rfl) ?_
      repeat (with_reducible (refine wpQuiet_step ?_); intro K hK; go_simp; (try rw [if_neg (by unfold undef; simp)]); first | (with_reducible (refine hK _ ?_); clear hK K) | (apply Exists.intro; refine ⟨fun _ => ?_, hK _ ?_⟩; (fail); clear hK K))
      with_reducible (refine wpQuiet_nil ?_)
      intro _ hw'
      obtain ⟨⟨dq, osq⟩, hw''⟩ := hw'
      subst hw''
      have HBE : Hid (Below w.heap.size w (Sort.grow (redrawn wr dq) osq)) := HB.out.trans ((below_regrown wr dq osq).mono HB.out.size)
      go_wp2_with fail
      go_roundw
      case rel => exact ⟨k + 1, by omega, by go_num, HBE⟩
      case measure => simp [intOf]; omega
    · go_wp2_with fail
      go_ret
      exact ⟨rfl, HB.out⟩
set_option maxRecDepth 100000 in
set_option maxHeartbeats 1600000 in
theorem sameLinesT_any (ao bo : Option Addr) (n cap m cap' : Nat) (L R : List Ln) (w : World) (hS : LSrc w ao n cap L) (hR : LSrc w bo m cap' R) (hE : L = R) :
    Calls Try.prog 23 #[.slice ao n cap, .slice bo m cap'] w fun e w' => e = .returned (.bool true) ∧ Below w.heap.size w w' := by
  have HS := hide hS
  have HR := hide hR
  have hn := hS.2.2.2.2
  have hnm : n = m := by rw [← hS.1, ← hR.1, hE]
  subst hE
  subst hnm
  clear hS hR
  go_enter Try.func23, Try.ntmps23
  go_wp2_with fail
  go_loopw [13] (fun i wr => ∃ k : Nat, k ≤ n ∧ i = .int .i64 k ∧ Hid (Below w.heap.size w wr)) (fun i _ => n - (intOf i).toNat)
  case atStart => exact ⟨0, Nat.zero_le _, rfl, Below.refl _ _⟩
  case round =>
    obtain ⟨k, hk, rfl, HB⟩ := hrel
    by_cases hlt : k < n
    · obtain ⟨ad, rfl, A0⟩ := (HS.out.below HB.out).at k hlt
      obtain ⟨bd, rfl, A1⟩ := (HR.out.below HB.out).at k hlt
      obtain ⟨e, He⟩ : ∃ e, Hid (L.getD k ln0 = e) := ⟨_, rfl⟩
      rw [He.out] at A0 A1
      have l0 : ∀ d os, (ldL (.pointer (some (ad.add (k * 3))))).run Try.prog (Sort.grow (redrawn wr d) os) = .ok (LV e) (Sort.grow (redrawn wr d) os) := fun d os => run_ldL (A0.on (below_regrown wr d os))
      have l1 : ∀ d os, (ldL (.pointer (some (bd.add (k * 3))))).run Try.prog (Sort.grow (redrawn wr d) os) = .ok (LV e) (Sort.grow (redrawn wr d) os) := fun d os => run_ldL (A1.on (below_regrown wr d os))
      have hq := eqL_self e
      clear A0 A1
      go_wp2_with fail
      refine wp_region_quiet_below (by kernel_rfl) (by kernel_rfl) ?_
      repeat (with_reducible (refine wpQuiet_step ?_); intro K hK; go_simp; (try rw [if_neg (by unfold undef; simp)]); first | (with_reducible (refine hK _ ?_); clear hK K) | (apply Exists.intro; refine ⟨fun _ => ?_, hK _ ?_⟩; (fail); clear hK K))
      with_reducible (refine wpQuiet_nil ?_)
      intro _ hw'
      obtain ⟨⟨dq, osq⟩, hw''⟩ := hw'
      subst hw''
      have HBE : Hid (Below w.heap.size w (Sort.grow (redrawn wr dq) osq)) := HB.out.trans ((below_regrown wr dq osq).mono HB.out.size)
      go_wp2_with fail
      go_roundw
      case rel => exact ⟨k + 1, by omega, by go_num, HBE⟩
      case measure => simp [intOf]; omega
    · go_wp2_with fail
      go_ret
      exact ⟨rfl, HB.out⟩
end Go.Proofs.Ytmhdhedjeaaciaa
