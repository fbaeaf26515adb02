/- LChk -/
import Derived.Test.YtooinnhjeloocaaGreatLs29
namespace Go.Proofs.YtooinnhjeloocaaGreat.K
open Go.RowKit
attribute [local go_sem ↓] ld28_eq st28_eq
attribute [local go_sem] zero_EC cells_EV
/-- is the k-th in form, and its dot behind the one ahead? -/
def okAt (L : List En) (k : Nat) : Bool := ceE (L.getD k en0) == 0 && (decide (k = 0) || ahead (L.getD (k - 1) en0) (L.getD k en0))
/-- are the first k in form? -/
def okN (L : List En) (k : Nat) : Bool := (List.range k).all (okAt L)
/-- Check's answer -/
def chk (L : List En) : Int := if okN L L.length = true then 0 else 1
theorem okN_succ (L : List En) (k : Nat) : okN L (k + 1) = (okN L k && okAt L k) := by unfold okN; rw [List.range_succ, List.all_append]; simp
theorem okN_no (L : List En) (k n : Nat) (h : k < n) (hs : okAt L k = false) : okN L n = false := by
  unfold okN; rw [List.all_eq_false]; exact ⟨k, by simpa using h, by rw [hs]; simp⟩
theorem byD_ahead (x y : En) : decide (0 ≤ byD x y) = !ahead x y := by
  unfold byD ahead or2 cmpI
  by_cases h1 : x.rep < y.rep
  · simp [h1]
  · by_cases h2 : y.rep < x.rep
    · have : ¬ x.rep = y.rep := by omega
      simp [h1, h2, this]
    · have : x.rep = y.rep := by omega
      by_cases h3 : x.num < y.num
      · simp [this, h3]
      · by_cases h4 : y.num < x.num
        · simp [this, h3, h4]
        · simp [this, h3, h4]

set_option maxRecDepth 100000 in
set_option maxHeartbeats 1600000 in
theorem lcheck_any (ao : Option Addr) (n cap : Nat) (L : List En) (w : World) (hS : ESrc w ao n cap L) :
    Calls Tryz.prog 8 #[.slice ao n cap] w fun e w' => e = .returned (.int .i64 (chk L)) ∧ Below w.heap.size w w' := by
  have HS := hide hS
  have hn := hS.2.2.2.2
  have HL : Hid (L.length = n) := hS.1
  clear hS
  go_enter Tryz.func8, Tryz.ntmps8
  go_wp2_with fail
  go_loopw [7] (fun i wr => ∃ k : Nat, k ≤ n ∧ i = .int .i64 k ∧ Hid (okN L k = true) ∧ Hid (Below w.heap.size w wr)) (fun i _ => n - (intOf i).toNat)
  case atStart => exact ⟨0, Nat.zero_le _, rfl, rfl, Below.refl _ _⟩
  case round =>
    obtain ⟨k, hk, rfl, HK, HB⟩ := hrel
    by_cases hlt : k < n
    · obtain ⟨ad, rfl, A0⟩ := (HS.out.below HB.out).at k hlt
      have hld := run_ld28 A0
      obtain ⟨e, He⟩ : ∃ e, Hid (L.getD k en0 = e) := ⟨_, rfl⟩
      have hsk := HS.out.sku k hlt
      rw [He.out] at hld hsk A0
      obtain ⟨w1, hst, X1, B1, Z1⟩ := made wr e wr.heap.size rfl
      have HX := hide X1
      have HB1 := hide B1
      have HSK := hide hsk
      clear X1 B1 hsk A0
      have le : ∀ d os, (ld28 (.pointer (some ⟨wr.heap.size, 0, none⟩))).run Tryz.prog (Sort.grow (redrawn w1 d) os) = .ok (EV e) (Sort.grow (redrawn w1 d) os) := fun d os => run_ld28 (HX.out.below (below_regrown w1 d os)).at
      obtain ⟨c, Hc⟩ : ∃ c, Hid (ceE e = c) := ⟨_, rfl⟩
      have cE : ∀ d os, Calls Tryz.prog 19 #[EV e] (Sort.grow (redrawn w1 d) os) fun x w'' => x = .returned (.int .i64 c) ∧ ∃ p : Regrown, w'' = Sort.grow (redrawn w1 p.d) p.os := fun d os => by
        have := checkEntry_ec e (Sort.grow (redrawn w1 d) os) HSK.out
        rw [Hc.out] at this
        exact Calls.regrown_of this
      by_cases h0 : c = 0
      · have h0' : (c != 0) = false := by simpa using h0
        by_cases hk0 : k = 0
        · have HN : Hid (okN L (k + 1) = true) := by show _ = _; rw [okN_succ, HK.out]; unfold okAt; rw [He.out, Hc.out, h0]; simp [hk0]
          subst hk0
          rw [Nat.zero_mul, add_zero] at hld
          clear h0
          go_wp2_with fail
          refine wp_region_quiet_below (by kernel_rfl) (by kernel_rfl) ?_
          repeat (with_reducible (refine wpQuiet_step ?_); intro K hK; go_simp; (try rw [if_neg (by unfold undef; simp)]); first | (with_reducible (refine hK _ ?_); clear hK K) | (apply Exists.intro; refine ⟨fun _ => ?_, hK _ ?_⟩; (go_at_call 19; exact cE _ _); clear hK K))
          with_reducible (refine wpQuiet_nil ?_)
          intro _ hw'
          obtain ⟨⟨dq, osq⟩, hw''⟩ := hw'
          subst hw''
          have HBE : Hid (Below w.heap.size w (Sort.grow (redrawn w1 dq) osq)) := (HB.out.trans (HB1.out.mono HB.out.size)).trans ((below_regrown w1 dq osq).mono (Nat.le_trans HB.out.size (by rw [Z1]; omega)))
          go_wp2_with fail
          go_roundw
          case rel => exact ⟨0 + 1, by omega, by go_num, HN, HBE⟩
          case measure => simp [intOf]; omega
        · have hk1 : decide ((0 : Int) < (k : Int)) = true := decide_eq_true (by omega)
          have hk2 : 0 < k := by omega
          obtain ⟨j, hj⟩ : ∃ j, k - 1 = j := ⟨_, rfl⟩
          have hz : IntKind.i64.wrap ((k : Int) - 1) = (j : Int) := by rw [IntKind.wrap_i64]; omega
          have hjn : j < n := by omega
          have A1 := ((HS.out.below HB.out).2.2.1 ad rfl j (by omega)).on HB1.out
          obtain ⟨e1, He1⟩ : ∃ e1, Hid (L.getD j en0 = e1) := ⟨_, rfl⟩
          rw [He1.out] at A1
          have HA1 := hide A1
          clear A1
          have l1 : ∀ d os, (ld28 (.pointer (some (ad.add (j * 4))))).run Tryz.prog (Sort.grow (redrawn w1 d) os) = .ok (EV e1) (Sort.grow (redrawn w1 d) os) := fun d os => run_ld28 (HA1.out.on (below_regrown w1 d os))
          obtain ⟨q, Hq⟩ : ∃ q, Hid (byD e1 e = q) := ⟨_, rfl⟩
          have cD : ∀ d os, Calls Tryz.prog 20 #[EV e1, EV e] (Sort.grow (redrawn w1 d) os) fun x w'' => x = .returned (.int .i64 q) ∧ ∃ p : Regrown, w'' = Sort.grow (redrawn w1 p.d) p.os := fun d os => by
            have := byDot_ec e1 e (Sort.grow (redrawn w1 d) os)
            rw [Hq.out] at this
            exact Calls.regrown_of this
          have hq := byD_ahead e1 e
          rw [Hq.out] at hq
          have hok : okAt L k = ahead e1 e := by unfold okAt; rw [He.out, Hc.out, h0, hj, He1.out]; simp [hk0]
          clear h0 hk0
          by_cases h1 : 0 ≤ q
          · have HF : Hid (chk L = 1) := by
              show _ = _; unfold chk; rw [okN_no L k _ (by rw [HL.out]; exact hlt) (by rw [hok]; simpa [h1] using hq)]; rfl
            clear hq hok
            go_wp2_with fail
            refine wp_region_quiet_below (by kernel_rfl) (by kernel_rfl) ?_
            repeat (with_reducible (refine wpQuiet_step ?_); intro K hK; go_simp; (try rw [if_neg (by unfold undef; simp)]); first | (with_reducible (refine hK _ ?_); clear hK K) | (apply Exists.intro; refine ⟨fun _ => ?_, hK _ ?_⟩; (first | (go_at_call 19; exact cE _ _) | (go_at_call 20; exact cD _ _)); clear hK K))
            with_reducible (refine wpQuiet_nil ?_)
            intro _ hw'
            obtain ⟨⟨dq, osq⟩, hw''⟩ := hw'
            subst hw''
            have HBE : Hid (Below w.heap.size w (Sort.grow (redrawn w1 dq) osq)) := (HB.out.trans (HB1.out.mono HB.out.size)).trans ((below_regrown w1 dq osq).mono (Nat.le_trans HB.out.size (by rw [Z1]; omega)))
            go_wp2_with fail
            go_ret
            exact ⟨ret_int HF.out.symm, HBE.out⟩
          · have HN : Hid (okN L (k + 1) = true) := by show _ = _; rw [okN_succ, HK.out, hok]; simpa [h1] using hq
            clear hq hok
            go_wp2_with fail
            refine wp_region_quiet_below (by kernel_rfl) (by kernel_rfl) ?_
            repeat (with_reducible (refine wpQuiet_step ?_); intro K hK; go_simp; (try rw [if_neg (by unfold undef; simp)]); first | (with_reducible (refine hK _ ?_); clear hK K) | (apply Exists.intro; refine ⟨fun _ => ?_, hK _ ?_⟩; (first | (go_at_call 19; exact cE _ _) | (go_at_call 20; exact cD _ _)); clear hK K))
            with_reducible (refine wpQuiet_nil ?_)
            intro _ hw'
            obtain ⟨⟨dq, osq⟩, hw''⟩ := hw'
            subst hw''
            have HBE : Hid (Below w.heap.size w (Sort.grow (redrawn w1 dq) osq)) := (HB.out.trans (HB1.out.mono HB.out.size)).trans ((below_regrown w1 dq osq).mono (Nat.le_trans HB.out.size (by rw [Z1]; omega)))
            go_wp2_with fail
            go_roundw
            case rel => exact ⟨k + 1, by omega, by go_num, HN, HBE⟩
            case measure => simp [intOf]; omega
      · have h0' : (c != 0) = true := by simpa using h0
        have HF : Hid (chk L = 1) := by
          show _ = _; unfold chk; rw [okN_no L k _ (by rw [HL.out]; exact hlt) (by unfold okAt; rw [He.out, Hc.out]; simp [h0])]; rfl
        clear h0
        go_wp2_with fail
        refine wp_region_quiet_below (by kernel_rfl) (by kernel_rfl) ?_
        repeat (with_reducible (refine wpQuiet_step ?_); intro K hK; go_simp; (try rw [if_neg (by unfold undef; simp)]); first | (with_reducible (refine hK _ ?_); clear hK K) | (apply Exists.intro; refine ⟨fun _ => ?_, hK _ ?_⟩; (go_at_call 19; exact cE _ _); clear hK K))
        with_reducible (refine wpQuiet_nil ?_)
        intro _ hw'
        obtain ⟨⟨dq, osq⟩, hw''⟩ := hw'
        subst hw''
        have HBE : Hid (Below w.heap.size w (Sort.grow (redrawn w1 dq) osq)) := (HB.out.trans (HB1.out.mono HB.out.size)).trans ((below_regrown w1 dq osq).mono (Nat.le_trans HB.out.size (by rw [Z1]; omega)))
        go_wp2_with fail
        go_ret
        exact ⟨ret_int HF.out.symm, HBE.out⟩
    · obtain rfl : k = n := by omega
      have HF : Hid (chk L = 0) := by show _ = _; unfold chk; rw [HL.out, HK.out]; rfl
      go_wp2_with fail
      go_ret
      exact ⟨ret_int HF.out.symm, HB.out⟩
end Go.Proofs.YtooinnhjeloocaaGreat.K
