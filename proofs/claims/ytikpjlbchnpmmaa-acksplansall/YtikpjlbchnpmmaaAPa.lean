/- AcksPlansAll: the law's walk. -/
import Derived.Test.YtikpjlbchnpmmaaASt
namespace Go.Proofs.Ytikpjlbchnpmmaa
open Go.RowKit
attribute [local go_sem ↓] ldA_eq stA_eq stP_eq ldN_eq stN_eq run_eqN
attribute [local go_sem] zero_PC to_NC NC_s0 NC_s1 NC_s2
variable {w w' : World} {g : Nat} {r s : Int} {f : Nat → Int}

set_option maxRecDepth 100000 in
set_option maxHeartbeats 4000000 in
theorem plansAll_any (hi a b : Int) (w : World) : Calls Try.prog 5 #[.int .i64 hi, .int .i64 a, .int .i64 b] w fun e w' => e = .returned (.bool true) ∧ Below w.heap.size w w' := by
  go_enter Try.func5, Try.ntmps5
  go_wp2_with fail
  refine (start_any w).mono ?_
  rintro e w1 ⟨q, c, rfl, T0, Tk, -, b1⟩
  have T3 : Tb w1 (w.heap.size + 5) 3 1 (fun _ => 0) := Tk 3 (by omega) (by omega)
  obtain ⟨n1, hn1⟩ : ∃ n1, w1.heap.size = n1 := ⟨_, rfl⟩
  obtain ⟨w2, hst, P2, b2, z2⟩ := madeA w1 (psE (w.heap.size + 2) q c) n1 hn1
  have T2 := T3.below b2
  have HB2 := hide (b1.trans (b2.mono b1.size))
  have c12 : w2.cell? ⟨n1, 12, none⟩ = some (ptr (w.heap.size + 5)) := P2.c0 3 (by omega)
  have HT2 := hide T2
  have HS2 : Hid (w.heap.size + 5 < w2.heap.size) := T2.lt
  clear T0 Tk T3 T2 P2 b1 b2 z2
  go_wp2_with fail
  refine (heard_any w2 HT2.out (by omega) 2 hi).mono ?_
  rintro e w3 ⟨rfl, T3, F3⟩
  have HT3 := hide T3
  have HB3 := hide (F3.below HB2.out (by omega))
  clear T3 F3 c12 hst HT2
  go_wp2_with fail
  refine (of_any w3 HT3.out (by omega) 2).mono ?_
  rintro e w4 ⟨rfl, rfl⟩
  rw [show peerE 3 1 2 = 0 from by decide]
  obtain ⟨F, hF⟩ : ∃ F, heardF 3 1 (fun _ => 0) 2 hi = F := ⟨_, rfl⟩
  have hv : ofV 3 1 F 2 = F 2 := by unfold ofV; rw [if_pos (by decide)]; rfl
  rw [hF] at HT3 ⊢
  rw [hv]
  obtain ⟨z, hz⟩ : ∃ z, F 2 = z := ⟨_, rfl⟩
  obtain ⟨E, hE⟩ : ∃ E, heardE 3 1 2 hi = E := ⟨_, rfl⟩
  have key : (E = 0 ∧ z = hi) ∨ (E = 2 ∧ z = 0 ∧ hi ≠ 0) := by
    by_cases h : hi < 0 ∨ 4611686018427387904 < hi
    · have h1 : heardE 3 1 2 hi = 2 := by unfold heardE; rw [if_pos (by decide), if_pos h]
      refine Or.inr ⟨hE.symm.trans h1, ?_, by omega⟩
      rw [← hz, ← hF]; unfold heardF; rw [if_neg (by rw [h1]; decide)]
    · have h1 : heardE 3 1 2 hi = 0 := by unfold heardE; rw [if_pos (by decide), if_neg h]
      refine Or.inl ⟨hE.symm.trans h1, ?_⟩
      rw [← hz, ← hF]; unfold heardF; rw [if_pos h1]
      show max 0 hi = hi
      omega
  rw [hz, hE]
  have HZ := hide hz
  clear hz hE hv hF
  rcases key with ⟨rfl, hzi⟩ | ⟨rfl, hz0, hne⟩
  · rw [hzi] at HZ ⊢
    clear hzi
    go_wp2_with fail
    refine (plan_any w4 HT3.out (by omega) 2 a b).mono ?_
    rintro e w5 ⟨rfl, b5⟩
    obtain ⟨n5, hn5⟩ : ∃ n5, w5.heap.size = n5 := ⟨_, rfl⟩
    obtain ⟨w6, hst, N6, b6, z6⟩ := NBox.made' w5 (planV 3 1 F 2 a b) n5 hn5
    have HB6 := hide ((HB3.out.trans (b5.mono HB3.out.size)).trans (b6.mono (Nat.le_trans HB3.out.size b5.size)))
    have hpe : planE 3 1 2 a b = if a < 0 ∨ b < a ∨ 4611686018427387904 < b then 2 else 0 := by unfold planE; rw [if_pos (by decide)]
    have HN6 := hide N6
    have ld6 : (ldN (.pointer (some ⟨n5, 0, none⟩))).run Try.prog w6 = .ok (.agg (NC (planV 3 1 F 2 a b))) w6 := run_ldN N6
    clear b5 b6 z6 N6 HT3 HB3
    by_cases h : a < 0 ∨ b < a ∨ 4611686018427387904 < b
    · rw [if_pos h] at hpe
      have hpv : planV 3 1 F 2 a b = ⟨false, 0, 0⟩ := by unfold planV; rw [if_neg (by rw [hpe]; decide)]; rfl
      rw [hpe, hpv]
      rw [hpv] at hst ld6 HN6
      have d0 := HN6.out.c0
      have d1 := HN6.out.c1
      have d2 := HN6.out.c2
      clear hpe hpv
      by_cases h1 : a < 0
      · clear h
        go_wp2_with fail
        go_ret
        exact ⟨rfl, HB6.out⟩
      · by_cases h2 : b < a
        · clear h
          go_wp2_with fail
          go_ret
          exact ⟨rfl, HB6.out⟩
        · have h3 : 4611686018427387904 < b := by omega
          clear h
          go_wp2_with fail
          go_ret
          exact ⟨rfl, HB6.out⟩
    · rw [if_neg h] at hpe
      have k1 : ¬ a < 0 := by omega
      have k2 : ¬ b < a := by omega
      have k3 : ¬ 4611686018427387904 < b := by omega
      by_cases h2 : hi < a ∨ b < hi
      · have hpv : planV 3 1 F 2 a b = ⟨true, 0, b⟩ := by unfold planV; rw [if_pos hpe, show F (2 : Int).toNat = hi from HZ.out, if_pos h2]
        rw [hpe, hpv]
        rw [hpv] at hst ld6 HN6
        have d0 := HN6.out.c0
        have d1 := HN6.out.c1
        have d2 := HN6.out.c2
        clear hpe hpv h
        by_cases h3 : hi < a
        · clear h2
          go_wp2_with fail
          go_ret
          exact ⟨rfl, HB6.out⟩
        · have h4 : b < hi := by omega
          clear h2
          go_wp2_with fail
          go_ret
          exact ⟨rfl, HB6.out⟩
      · have hpv : planV 3 1 F 2 a b = ⟨false, hi, b⟩ := by unfold planV; rw [if_pos hpe, show F (2 : Int).toNat = hi from HZ.out, if_neg h2]
        rw [hpe, hpv]
        rw [hpv] at hst ld6 HN6
        have d0 := HN6.out.c0
        have d1 := HN6.out.c1
        have d2 := HN6.out.c2
        have k4 : a ≤ hi := by omega
        have k5 : hi ≤ b := by omega
        clear hpe hpv h h2
        go_wp2_with fail
        go_ret
        exact ⟨rfl, HB6.out⟩
  · rw [hz0] at HZ ⊢
    clear hz0
    have hne' : ¬ (0 : Int) = hi := fun x => hne x.symm
    go_wp2_with fail
    refine (plan_any w4 HT3.out (by omega) 2 a b).mono ?_
    rintro e w5 ⟨rfl, b5⟩
    obtain ⟨n5, hn5⟩ : ∃ n5, w5.heap.size = n5 := ⟨_, rfl⟩
    obtain ⟨w6, hst, N6, b6, z6⟩ := NBox.made' w5 (planV 3 1 F 2 a b) n5 hn5
    have HB6 := hide ((HB3.out.trans (b5.mono HB3.out.size)).trans (b6.mono (Nat.le_trans HB3.out.size b5.size)))
    have hpe : planE 3 1 2 a b = if a < 0 ∨ b < a ∨ 4611686018427387904 < b then 2 else 0 := by unfold planE; rw [if_pos (by decide)]
    have HN6 := hide N6
    have ld6 : (ldN (.pointer (some ⟨n5, 0, none⟩))).run Try.prog w6 = .ok (.agg (NC (planV 3 1 F 2 a b))) w6 := run_ldN N6
    clear b5 b6 z6 N6 HT3 HB3
    by_cases h : a < 0 ∨ b < a ∨ 4611686018427387904 < b
    · rw [if_pos h] at hpe
      have hpv : planV 3 1 F 2 a b = ⟨false, 0, 0⟩ := by unfold planV; rw [if_neg (by rw [hpe]; decide)]; rfl
      rw [hpe, hpv]
      rw [hpv] at hst ld6 HN6
      have d0 := HN6.out.c0
      have d1 := HN6.out.c1
      have d2 := HN6.out.c2
      clear hpe hpv
      by_cases h1 : a < 0
      · clear h
        go_wp2_with fail
        go_ret
        exact ⟨rfl, HB6.out⟩
      · by_cases h2 : b < a
        · clear h
          go_wp2_with fail
          go_ret
          exact ⟨rfl, HB6.out⟩
        · have h3 : 4611686018427387904 < b := by omega
          clear h
          go_wp2_with fail
          go_ret
          exact ⟨rfl, HB6.out⟩
    · rw [if_neg h] at hpe
      have k1 : ¬ a < 0 := by omega
      have k2 : ¬ b < a := by omega
      have k3 : ¬ 4611686018427387904 < b := by omega
      by_cases h2 : 0 < a ∨ b < 0
      · have hpv : planV 3 1 F 2 a b = ⟨true, 0, b⟩ := by unfold planV; rw [if_pos hpe, show F (2 : Int).toNat = 0 from HZ.out, if_pos h2]
        rw [hpe, hpv]
        rw [hpv] at hst ld6 HN6
        have d0 := HN6.out.c0
        have d1 := HN6.out.c1
        have d2 := HN6.out.c2
        clear hpe hpv h
        by_cases h3 : 0 < a
        · clear h2
          go_wp2_with fail
          go_ret
          exact ⟨rfl, HB6.out⟩
        · omega
      · have hpv : planV 3 1 F 2 a b = ⟨false, 0, b⟩ := by unfold planV; rw [if_pos hpe, show F (2 : Int).toNat = 0 from HZ.out, if_neg h2]
        rw [hpe, hpv]
        rw [hpv] at hst ld6 HN6
        have d0 := HN6.out.c0
        have d1 := HN6.out.c1
        have d2 := HN6.out.c2
        have k4 : a ≤ 0 := by omega
        have k5 : 0 ≤ b := by omega
        clear hpe hpv h h2
        go_wp2_with fail
        go_ret
        exact ⟨rfl, HB6.out⟩
end Go.Proofs.Ytikpjlbchnpmmaa
