/- LRChk -/
import Derived.Test.YtooinnhjeloocaaGreatLs30
namespace Go.Proofs.YtooinnhjeloocaaGreat.K
open Go.RowKit
attribute [local go_sem ↓] ld28_eq st28_eq
attribute [local go_sem] zero_EC cells_EV
/-- a dot's cells -/
def DC (e : En) : Array Value := #[.int .i64 e.rep, .int .i64 e.num]
theorem ahead_any (x y : En) (w : World) : Calls Tryz.prog 47 #[.agg #[.int .i64 x.rep, .int .i64 x.num], .agg #[.int .i64 y.rep, .int .i64 y.num]] w fun e w' => e = .returned (.bool (ahead x y)) ∧ Below w.heap.size w w' := by
  have HB : Hid (Below w.heap.size w ((w.alloc (.cells #[.int .i64 x.rep, .int .i64 x.num] 28)).alloc (.cells #[.int .i64 y.rep, .int .i64 y.num] 28))) := (below_new w _).trans ((below_new _ _).mono (by simp))
  obtain ⟨r, m, s, q⟩ := x
  obtain ⟨r', m', s', q'⟩ := y
  by_cases h1 : r < r'
  · have HF : Hid (ahead ⟨r, m, s, q⟩ ⟨r', m', s', q'⟩ = true) := by show _ = _; unfold ahead; rw [decide_eq_true h1]; rfl
    go_enter Tryz.func47, Tryz.ntmps47
    go_wp2
    go_ret
    exact ⟨ret_bool HF.out.symm, HB.out⟩
  · by_cases h2 : r = r'
    · have HF : Hid (ahead ⟨r, m, s, q⟩ ⟨r', m', s', q'⟩ = decide (m < m')) := by show _ = _; unfold ahead; rw [decide_eq_false h1]; simp [h2]
      have h2' : (r == r') = true := by simpa using h2
      clear h2
      go_enter Tryz.func47, Tryz.ntmps47
      go_wp2
      go_ret
      exact ⟨ret_bool HF.out.symm, HB.out⟩
    · have HF : Hid (ahead ⟨r, m, s, q⟩ ⟨r', m', s', q'⟩ = false) := by show _ = _; unfold ahead; rw [decide_eq_false h1]; simp [h2]
      have h2' : (r == r') = false := by simpa using h2
      clear h2
      go_enter Tryz.func47, Tryz.ntmps47
      go_wp2
      go_ret
      exact ⟨ret_bool HF.out.symm, HB.out⟩
theorem ahead_dc (x y : En) (w : World) : Calls Tryz.prog 47 #[.agg (DC x), .agg (DC y)] w fun e w' => e = .returned (.bool (ahead x y)) ∧ Below w.heap.size w w' := ahead_any x y w
def ld26 (v : Value) : Sem Value := Instr.loadAt 28 v
theorem ld26_eq (v : Value) : Instr.loadAt 28 v = ld26 v := rfl
attribute [local go_sem ↓] ld26_eq
theorem size26 : (Tryz.prog.info? 28).map (·.size) = some 2 := by kernel_rfl
theorem run_ld26 {w : World} {p : Addr} {e : En} (A : EnAt w p e) : (ld26 (.pointer (some p))).run Tryz.prog w = .ok (.agg (DC e)) w := by
  have hl := run_loadCells_list (P := Tryz.prog) (w := w) p (DC e).toList (fun j v hv => by
    match j, hv with
    | 0, hv => cases hv; rw [add_zero]; exact A.c0
    | 1, hv => cases hv; exact A.c1
    | j + 2, hv => simp [DC] at hv)
  unfold ld26
  simp only [Instr.loadAt, Instr.sureAddr, Sem.run_bind, Sem.run_pure, Result.andThen]
  cases hq : Tryz.prog.info? 28 with
  | none => have := size26; simp [hq] at this
  | some x =>
    have hs : x.size = 2 := by have := size26; simpa [hq] using this
    have hagg : (isAgg 28).run Tryz.prog w = .ok true w := by
      unfold isAgg
      rw [Sem.run_bind, run_underlying Tryz.underlying28 w]
      rfl
    have e4 : (DC e).toList.length = 2 := rfl
    rw [e4] at hl
    simp [loadVar, Sem.run_bind, hagg, sizeOf, typeInfo, hq, hs, hl]

set_option maxRecDepth 100000 in
set_option maxHeartbeats 1600000 in
theorem refCheckL_any (ao : Option Addr) (n cap : Nat) (L : List En) (w : World) (hS : ESrc w ao n cap L) :
    Calls Tryz.prog 25 #[.slice ao n cap] w fun e w' => e = .returned (.int .i64 (chk L)) ∧ Below w.heap.size w w' := by
  have HS := hide hS
  have hn := hS.2.2.2.2
  have HL : Hid (L.length = n) := hS.1
  clear hS
  go_enter Tryz.func25, Tryz.ntmps25
  go_wp2_with fail
  go_loopw [3] (fun i wr => ∃ k : Nat, k ≤ n ∧ i = .int .i64 k ∧ Hid (okN L k = true) ∧ Hid (Below w.heap.size w wr)) (fun i _ => n - (intOf i).toNat)
  case atStart => exact ⟨0, Nat.zero_le _, rfl, rfl, Below.refl _ _⟩
  case round =>
    obtain ⟨k, hk, rfl, HK, HB⟩ := hrel
    by_cases hlt : k < n
    · obtain ⟨ad, rfl, A0⟩ := (HS.out.below HB.out).at k hlt
      have hld := run_ld28 A0
      obtain ⟨e, He⟩ : ∃ e, Hid (L.getD k en0 = e) := ⟨_, rfl⟩
      have hsk := HS.out.sku k hlt
      rw [He.out] at hld hsk A0
      have HA0 := hide A0
      have HSK := hide hsk
      clear hsk A0
      obtain ⟨c, Hc⟩ : ∃ c, Hid (ceE e = c) := ⟨_, rfl⟩
      by_cases h0 : c = 0
      · have h0' : (c != 0) = false := by simpa using h0
        by_cases hk0 : k = 0
        · have HN : Hid (okN L (k + 1) = true) := by show _ = _; rw [okN_succ, HK.out]; unfold okAt; rw [He.out, Hc.out, h0]; simp [hk0]
          subst hk0
          rw [Nat.zero_mul, add_zero] at hld
          clear h0
          go_wp2_with (go_at_call 46; refine (refCheckEntry_ec e _ HSK.out).mono ?_; rintro x w1 ⟨rfl, b1⟩; rw [Hc.out])
          have HW1 := hide (HB.out.trans (b1.mono HB.out.size))
          refine wp_region_quiet_below (by kernel_rfl) (by kernel_rfl) ?_
          repeat (with_reducible (refine wpQuiet_step ?_); intro K hK; go_simp; (try rw [if_neg (by unfold undef; simp)]); first | (with_reducible (refine hK _ ?_); clear hK K) | (apply Exists.intro; refine ⟨fun _ => ?_, hK _ ?_⟩; (fail); clear hK K))
          with_reducible (refine wpQuiet_nil ?_)
          intro _ hw'
          obtain ⟨⟨dq, osq⟩, hw''⟩ := hw'
          subst hw''
          have HBE : Hid (Below w.heap.size w (Sort.grow (redrawn w1 dq) osq)) := HW1.out.trans ((below_regrown w1 dq osq).mono HW1.out.size)
          go_wp2_with fail
          go_roundw
          case rel => exact ⟨0 + 1, by omega, by go_num, HN, HBE⟩
          case measure => simp [intOf]; omega
        · have hk1 : decide ((0 : Int) < (k : Int)) = true := decide_eq_true (by omega)
          have hk2 : 0 < k := by omega
          obtain ⟨j, hj⟩ : ∃ j, k - 1 = j := ⟨_, rfl⟩
          have hz : IntKind.i64.wrap ((k : Int) - 1) = (j : Int) := by rw [IntKind.wrap_i64]; omega
          have hjn : j < n := by omega
          have A1 := (HS.out.below HB.out).2.2.1 ad rfl j (by omega)
          obtain ⟨e1, He1⟩ : ∃ e1, Hid (L.getD j en0 = e1) := ⟨_, rfl⟩
          rw [He1.out] at A1
          have HA1 := hide A1
          clear A1
          obtain ⟨q, Hq⟩ : ∃ q, Hid (ahead e1 e = q) := ⟨_, rfl⟩
          have hok : okAt L k = q := by unfold okAt; rw [He.out, Hc.out, h0, hj, He1.out, Hq.out]; simp [hk0]
          clear h0 hk0
          have HOK := hide hok
          clear hok
          cases q with
          | false =>
            have HF : Hid (chk L = 1) := by
              show _ = _; unfold chk; rw [okN_no L k _ (by rw [HL.out]; exact hlt) HOK.out]; rfl
            go_wp2_with (go_at_call 46; refine (refCheckEntry_ec e _ HSK.out).mono ?_; rintro x w1 ⟨rfl, b1⟩; rw [Hc.out])
            have HW1 := hide (HB.out.trans (b1.mono HB.out.size))
            have l0 : ∀ d os, (ld26 (.pointer (some (ad.add (k * 4))))).run Tryz.prog (Sort.grow (redrawn w1 d) os) = .ok (.agg (DC e)) (Sort.grow (redrawn w1 d) os) := fun d os => run_ld26 ((HA0.out.on b1).on (below_regrown w1 d os))
            have l1 : ∀ d os, (ld26 (.pointer (some (ad.add (j * 4))))).run Tryz.prog (Sort.grow (redrawn w1 d) os) = .ok (.agg (DC e1)) (Sort.grow (redrawn w1 d) os) := fun d os => run_ld26 ((HA1.out.on b1).on (below_regrown w1 d os))
            have cD : ∀ d os, Calls Tryz.prog 47 #[.agg (DC e1), .agg (DC e)] (Sort.grow (redrawn w1 d) os) fun x w'' => x = .returned (.bool false) ∧ ∃ p : Regrown, w'' = Sort.grow (redrawn w1 p.d) p.os := fun d os => by
              have := ahead_dc e1 e (Sort.grow (redrawn w1 d) os)
              rw [Hq.out] at this
              exact Calls.regrown_of this
            refine wp_region_quiet_below (by kernel_rfl) (by kernel_rfl) ?_
            repeat (with_reducible (refine wpQuiet_step ?_); intro K hK; go_simp; (try rw [if_neg (by unfold undef; simp)]); first | (with_reducible (refine hK _ ?_); clear hK K) | (apply Exists.intro; refine ⟨fun _ => ?_, hK _ ?_⟩; (go_at_call 47; exact cD _ _); clear hK K))
            with_reducible (refine wpQuiet_nil ?_)
            intro _ hw'
            obtain ⟨⟨dq, osq⟩, hw''⟩ := hw'
            subst hw''
            have HBE : Hid (Below w.heap.size w (Sort.grow (redrawn w1 dq) osq)) := HW1.out.trans ((below_regrown w1 dq osq).mono HW1.out.size)
            go_wp2_with fail
            go_ret
            exact ⟨ret_int HF.out.symm, HBE.out⟩
          | true =>
            have HN : Hid (okN L (k + 1) = true) := by show _ = _; rw [okN_succ, HK.out, HOK.out]; rfl
            go_wp2_with (go_at_call 46; refine (refCheckEntry_ec e _ HSK.out).mono ?_; rintro x w1 ⟨rfl, b1⟩; rw [Hc.out])
            have HW1 := hide (HB.out.trans (b1.mono HB.out.size))
            have l0 : ∀ d os, (ld26 (.pointer (some (ad.add (k * 4))))).run Tryz.prog (Sort.grow (redrawn w1 d) os) = .ok (.agg (DC e)) (Sort.grow (redrawn w1 d) os) := fun d os => run_ld26 ((HA0.out.on b1).on (below_regrown w1 d os))
            have l1 : ∀ d os, (ld26 (.pointer (some (ad.add (j * 4))))).run Tryz.prog (Sort.grow (redrawn w1 d) os) = .ok (.agg (DC e1)) (Sort.grow (redrawn w1 d) os) := fun d os => run_ld26 ((HA1.out.on b1).on (below_regrown w1 d os))
            have cD : ∀ d os, Calls Tryz.prog 47 #[.agg (DC e1), .agg (DC e)] (Sort.grow (redrawn w1 d) os) fun x w'' => x = .returned (.bool true) ∧ ∃ p : Regrown, w'' = Sort.grow (redrawn w1 p.d) p.os := fun d os => by
              have := ahead_dc e1 e (Sort.grow (redrawn w1 d) os)
              rw [Hq.out] at this
              exact Calls.regrown_of this
            refine wp_region_quiet_below (by kernel_rfl) (by kernel_rfl) ?_
            repeat (with_reducible (refine wpQuiet_step ?_); intro K hK; go_simp; (try rw [if_neg (by unfold undef; simp)]); first | (with_reducible (refine hK _ ?_); clear hK K) | (apply Exists.intro; refine ⟨fun _ => ?_, hK _ ?_⟩; (go_at_call 47; exact cD _ _); clear hK K))
            with_reducible (refine wpQuiet_nil ?_)
            intro _ hw'
            obtain ⟨⟨dq, osq⟩, hw''⟩ := hw'
            subst hw''
            have HBE : Hid (Below w.heap.size w (Sort.grow (redrawn w1 dq) osq)) := HW1.out.trans ((below_regrown w1 dq osq).mono HW1.out.size)
            go_wp2_with fail
            go_roundw
            case rel => exact ⟨k + 1, by omega, by go_num, HN, HBE⟩
            case measure => simp [intOf]; omega
      · have h0' : (c != 0) = true := by simpa using h0
        have HF : Hid (chk L = 1) := by
          show _ = _; unfold chk; rw [okN_no L k _ (by rw [HL.out]; exact hlt) (by unfold okAt; rw [He.out, Hc.out]; simp [h0])]; rfl
        clear h0
        go_wp2_with (go_at_call 46; refine (refCheckEntry_ec e _ HSK.out).mono ?_; rintro x w1 ⟨rfl, b1⟩; rw [Hc.out])
        go_ret
        exact ⟨ret_int HF.out.symm, HB.out.trans (b1.mono HB.out.size)⟩
    · obtain rfl : k = n := by omega
      have HF : Hid (chk L = 0) := by show _ = _; unfold chk; rw [HL.out, HK.out]; rfl
      go_wp2_with fail
      go_ret
      exact ⟨ret_int HF.out.symm, HB.out⟩
end Go.Proofs.YtooinnhjeloocaaGreat.K
