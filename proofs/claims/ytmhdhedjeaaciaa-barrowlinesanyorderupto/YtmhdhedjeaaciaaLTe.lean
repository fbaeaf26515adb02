/- entriesOK: its contract. -/
import Derived.Test.YtmhdhedjeaaciaaLTa
import Derived.Test.YtmhdhedjeaaciaaLUp
import Derived.Lib.QuietBelow
namespace Go.Proofs.Ytmhdhedjeaaciaa
open Go.RowKit
attribute [local go_sem ↓] ld28_eq st28_eq ld26_eq
attribute [local go_sem] zero_EC cells_EV EC_size

theorem ce_parts (e : En) : (ceE e == 0) = (dotB e && good e.sku.data.toList && decide (1 ≤ e.qty) && decide (e.qty ≤ 1000000)) := by
  unfold ceE dotB
  by_cases h1 : isR e.rep = false
  · rw [if_pos h1, h1]; rfl
  · rw [if_neg h1]
    have h1' : isR e.rep = true := by simpa using h1
    by_cases h2 : e.num < 1 ∨ 1000000000 < e.num
    · rw [if_pos h2, h1']
      rcases h2 with h | h
      · have : ¬ 1 ≤ e.num := by omega
        simp [this]
      · have : ¬ e.num ≤ 1000000000 := by omega
        simp [this]
    · rw [if_neg h2, h1']
      have g1 : 1 ≤ e.num := by omega
      have g2 : e.num ≤ 1000000000 := by omega
      by_cases h3 : good e.sku.data.toList = false
      · rw [if_pos h3, h3]; simp
      · rw [if_neg h3]
        have h3' : good e.sku.data.toList = true := by simpa using h3
        by_cases h4 : e.qty < 1 ∨ 1000000 < e.qty
        · rw [if_pos h4, h3']
          rcases h4 with h | h
          · have : ¬ 1 ≤ e.qty := by omega
            simp [this]
          · have : ¬ e.qty ≤ 1000000 := by omega
            simp [this]
        · rw [if_neg h4, h3']
          have g3 : 1 ≤ e.qty := by omega
          have g4 : e.qty ≤ 1000000 := by omega
          simp [g1, g2, g3, g4]
set_option maxRecDepth 100000 in
set_option maxHeartbeats 8000000 in
theorem entriesOK_any (ao : Option Addr) (n cap : Nat) (L : List En) (w : World) (hS : ESrc w ao n cap L) :
    Calls Try.prog 24 #[.slice ao n cap] w fun e w' => e = .returned (.bool (okN L L.length)) ∧ Below w.heap.size w w' := by
  have HS := hide hS
  have HL : Hid (L.length = n) := hS.1
  have hn := hS.2.2.2.2
  clear hS
  obtain ⟨v, Hv⟩ : ∃ v, Hid (okN L L.length = v) := ⟨_, rfl⟩
  rw [Hv.out]
  go_enter Try.func24, Try.ntmps24
  go_wp2_with fail
  go_loopw [7] (fun i wr => ∃ k : Nat, k ≤ n ∧ i = .int .i64 k ∧ Hid (okN L k = true) ∧ Hid (Below w.heap.size w wr)) (fun i _ => n - (intOf i).toNat)
  case atStart => exact ⟨0, Nat.zero_le _, rfl, rfl, Below.refl _ _⟩
  case round =>
    obtain ⟨k, hk, rfl, HK, HB⟩ := hrel
    by_cases hlt : k < n
    · obtain ⟨ad, rfl, A0⟩ := (HS.out.below HB.out).at k hlt
      have hld := run_ld28 A0
      have hsk := HS.out.sku k hlt
      have HNO : Hid (okAt L k = false → false = v) := fun h => by rw [← Hv.out, okN_no L k _ (by rw [HL.out]; exact hlt) h]
      have hokat : okAt L k = ((ceE (L.getD k en0) == 0) && (decide (k = 0) || ahead (L.getD (k - 1) en0) (L.getD k en0))) := rfl
      obtain ⟨e, He⟩ : ∃ e, Hid (L.getD k en0 = e) := ⟨_, rfl⟩
      rw [He.out] at hld A0 hsk hokat
      have HOK := hide hokat
      have hce := ce_parts e
      have HSK := hide hsk
      obtain ⟨wk, hst, X1, B1, Z1⟩ := made wr e wr.heap.size rfl
      have HX := hide X1
      have HBK := hide (HB.out.trans (B1.mono HB.out.size))
      have HB1 := hide B1
      have lD := run_ld26 X1.at
      clear X1 B1 Z1 hsk hokat
      obtain ⟨d, Hd⟩ : ∃ d, Hid (dotB e = d) := ⟨_, rfl⟩
      rw [Hd.out] at hce
      go_wp2_with fail
      refine (isDot_any e _).mono ?_
      rintro y w2 ⟨rfl, b2⟩
      rw [Hd.out]
      have HX2 := hide (HX.out.below b2)
      have HB2 := hide (HBK.out.trans (b2.mono HBK.out.size))
      have HB12 := hide (HB1.out.trans (b2.mono HB1.out.size))
      have c2 : w2.cell? ⟨wr.heap.size, 2, none⟩ = some (.string e.sku) := by have h := HX2.out.at.c2; simpa [Addr.add] using h
      have c3 : w2.cell? ⟨wr.heap.size, 3, none⟩ = some (.int .i64 e.qty) := by have h := HX2.out.at.c3; simpa [Addr.add] using h
      clear b2 lD hst hld HX HBK HB1
      cases d with
      | false =>
        have HV := hide (HNO.out (by rw [HOK.out, hce]; rfl))
        clear hce
        go_wp2_with fail
        go_ret
        exact ⟨ret_bool HV.out, HB2.out⟩
      | true =>
        obtain ⟨gd, Hg⟩ : ∃ gd, Hid (good e.sku.data.toList = gd) := ⟨_, rfl⟩
        rw [Hg.out] at hce
        go_wp2_with fail
        refine (refGood_any e.sku _ HSK.out).mono ?_
        rintro y w' ⟨rfl, hww⟩
        obtain rfl := hww.symm
        rw [Hg.out]
        cases gd with
        | false =>
          have HV := hide (HNO.out (by rw [HOK.out, hce]; rfl))
          clear hce
          go_wp2_with fail
          go_ret
          exact ⟨ret_bool HV.out, HB2.out⟩
        | true =>
          by_cases h3 : e.qty < 1
          · have g3 : decide (e.qty < 1) = true := decide_eq_true h3
            have HV := hide (HNO.out (by rw [HOK.out, hce]; have : ¬ 1 ≤ e.qty := (by omega); simp [this]))
            clear hce h3
            go_wp2_with fail
            go_ret
            exact ⟨ret_bool HV.out, HB2.out⟩
          · have g3 : decide (e.qty < 1) = false := decide_eq_false h3
            by_cases h4 : 1000000 < e.qty
            · have g4 : decide (1000000 < e.qty) = true := decide_eq_true h4
              have HV := hide (HNO.out (by rw [HOK.out, hce]; have : ¬ e.qty ≤ 1000000 := (by omega); simp [this]))
              clear hce h3 h4
              go_wp2_with fail
              go_ret
              exact ⟨ret_bool HV.out, HB2.out⟩
            · have g4 : decide (1000000 < e.qty) = false := decide_eq_false h4
              have hc0 : (ceE e == 0) = true := by rw [hce]; have a1 : 1 ≤ e.qty := (by omega); have a2 : e.qty ≤ 1000000 := (by omega); simp [a1, a2]
              clear hce h3 h4
              by_cases hk0 : k = 0
              · have HN : Hid (okN L (k + 1) = true) := by show _ = _; rw [okN_succ, HK.out, HOK.out, hc0]; simp [hk0]
                subst hk0
                clear hc0
                go_wp2_with fail
                refine wp_region_quiet_below (by kernel_rfl) (by kernel_rfl) ?_
                repeat (with_reducible (refine wpQuiet_step ?_); intro K hK; go_simp; (try rw [if_neg (by unfold undef; simp)]); (with_reducible (refine hK _ ?_); clear hK K))
                with_reducible (refine wpQuiet_nil ?_)
                intro _ hw'
                obtain ⟨⟨dq, osq⟩, hw''⟩ := hw'
                subst hw''
                have HBE := hide (HB2.out.trans ((below_regrown _ dq osq).mono HB2.out.size))
                go_wp2_with fail
                go_roundw
                case rel => exact ⟨0 + 1, by omega, by go_num, HN, HBE⟩
                case measure => simp [intOf]; omega
              · have hk1 : decide ((0 : Int) < (k : Int)) = true := decide_eq_true (by omega)
                have hk2 : 0 < k := by omega
                obtain ⟨j, hj⟩ : ∃ j, k - 1 = j := ⟨_, rfl⟩
                have hz : IntKind.i64.wrap ((k : Int) - 1) = (j : Int) := by rw [IntKind.wrap_i64]; omega
                have hjn : j < n := by omega
                have A1 := ((HS.out.below HB.out).2.2.1 ad rfl j hjn).on HB12.out
                obtain ⟨e1, He1⟩ : ∃ e1, Hid (L.getD j en0 = e1) := ⟨_, rfl⟩
                rw [He1.out] at A1
                have HA1 := hide A1
                have hsp := A1.spot
                obtain ⟨q, Hq⟩ : ∃ q, Hid (ahead e1 e = q) := ⟨_, rfl⟩
                have hokk : okAt L k = q := by rw [HOK.out, hc0, hj, He1.out, Hq.out]; simp [hk0]
                clear A1 hc0 hk0
                have l1 : ∀ d os, (ld26 (.pointer (some (ad.add (j * 4))))).run Try.prog (Sort.grow (redrawn w2 d) os) = .ok (.agg (DC e1)) (Sort.grow (redrawn w2 d) os) := fun d os => run_ld26 (HA1.out.on (below_regrown w2 d os))
                have l2 : ∀ d os, (ld26 (.pointer (some ⟨wr.heap.size, 0, none⟩))).run Try.prog (Sort.grow (redrawn w2 d) os) = .ok (.agg (DC e)) (Sort.grow (redrawn w2 d) os) := fun d os => run_ld26 (HX2.out.below (below_regrown w2 d os)).at
                have cD : ∀ d os, Calls Try.prog 44 #[.agg (DC e1), .agg (DC e)] (Sort.grow (redrawn w2 d) os) fun x w'' => x = .returned (.bool q) ∧ ∃ p : Regrown, w'' = Sort.grow (redrawn w2 p.d) p.os := fun d os => by
                  have := before_any e1 e (Sort.grow (redrawn w2 d) os)
                  rw [Hq.out] at this
                  exact Calls.regrown_of this
                cases q with
                | false =>
                  have HV := hide (HNO.out hokk)
                  clear hokk
                  go_wp2_with fail
                  refine wp_region_quiet_below (by kernel_rfl) (by kernel_rfl) ?_
                  repeat (with_reducible (refine wpQuiet_step ?_); intro K hK; go_simp; (try rw [if_neg (by unfold undef; simp)]); first | (with_reducible (refine hK _ ?_); clear hK K) | (apply Exists.intro; refine ⟨fun _ => ?_, hK _ ?_⟩; (go_at_call 44; exact cD _ _); clear hK K))
                  with_reducible (refine wpQuiet_nil ?_)
                  intro _ hw'
                  obtain ⟨⟨dq, osq⟩, hw''⟩ := hw'
                  subst hw''
                  have HBE := hide (HB2.out.trans ((below_regrown w2 dq osq).mono HB2.out.size))
                  go_wp2_with fail
                  go_ret
                  exact ⟨ret_bool HV.out, HBE.out⟩
                | true =>
                  have HN : Hid (okN L (k + 1) = true) := by show _ = _; rw [okN_succ, HK.out, hokk]; rfl
                  clear hokk
                  go_wp2_with fail
                  refine wp_region_quiet_below (by kernel_rfl) (by kernel_rfl) ?_
                  repeat (with_reducible (refine wpQuiet_step ?_); intro K hK; go_simp; (try rw [if_neg (by unfold undef; simp)]); first | (with_reducible (refine hK _ ?_); clear hK K) | (apply Exists.intro; refine ⟨fun _ => ?_, hK _ ?_⟩; (go_at_call 44; exact cD _ _); clear hK K))
                  with_reducible (refine wpQuiet_nil ?_)
                  intro _ hw'
                  obtain ⟨⟨dq, osq⟩, hw''⟩ := hw'
                  subst hw''
                  have HBE := hide (HB2.out.trans ((below_regrown w2 dq osq).mono HB2.out.size))
                  go_wp2_with fail
                  go_roundw
                  case rel => exact ⟨k + 1, by omega, by go_num, HN, HBE⟩
                  case measure => simp [intOf]; omega
    · obtain rfl : k = n := by omega
      have HV : Hid (true = v) := by show _ = _; rw [← Hv.out, HL.out, HK.out]
      go_wp2_with fail
      go_ret
      exact ⟨ret_bool HV.out, HB.out⟩
end Go.Proofs.Ytmhdhedjeaaciaa
