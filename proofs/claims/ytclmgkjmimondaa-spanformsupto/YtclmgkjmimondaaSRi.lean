/- The reference's IsNorm: its contract. -/
import Derived.Test.YtclmgkjmimondaaSRg
namespace Go.Proofs.Ytclmgkjmimondaa
open Go.RowKit
attribute [local go_sem ↓] ldR_eq stR_eq
attribute [local go_sem] zero_RC cells_RV RC_size fold_RC build_RC

/-- the reference's IsNorm -/
def GivesF (w w' : World) (e : Ending) (A : List Rn) : Prop := ∃ b, e = .returned (.bool b) ∧ (b = true ↔ form 1 A) ∧ Below w.heap.size w w'
theorem form_mid : ∀ {i : List Rn} {l : Int} {x r : Rn} {t : List Rn}, form l (i ++ [x] ++ r :: t) → x.hi + 2 ≤ r.lo
  | [], _, _, _, _, h => h.2.2.2.1
  | _ :: _, _, _, _, _, h => form_mid h.2.2.2
theorem form_at' {A : List Rn} {k : Nat} (h : form 1 A) (hk : k < A.length) : 1 ≤ (A.getD k rn0).lo ∧ (A.getD k rn0).lo ≤ (A.getD k rn0).hi ∧ (A.getD k rn0).hi ≤ 1000000000 := form_at k (Int.le_refl _) h hk
theorem form_two {A : List Rn} {k : Nat} (h : form 1 A) (hk : k + 1 < A.length) : (A.getD k rn0).hi + 2 ≤ (A.getD (k + 1) rn0).lo := by
  have e : A = A.take k ++ [A.getD k rn0] ++ A.getD (k + 1) rn0 :: A.drop (k + 2) := by
    have h1 : A.getD k rn0 = A[k] := by simp [List.getD, show k < A.length by omega]
    have h2 : A.getD (k + 1) rn0 = A[k + 1] := by simp [List.getD, hk]
    rw [h1, h2, ← List.take_succ_eq_append_getElem (by omega), ← List.drop_eq_getElem_cons hk, List.take_append_drop]
  rw [e] at h
  exact form_mid h
theorem form_more {A : List Rn} {k : Nat} (hk : k + 1 < A.length) (h : form 1 (A.take (k + 1))) (h0 : (A.getD k rn0).hi + 2 ≤ (A.getD (k + 1) rn0).lo) (h2 : (A.getD (k + 1) rn0).lo ≤ (A.getD (k + 1) rn0).hi) (h3 : (A.getD (k + 1) rn0).hi ≤ 1000000000) : form 1 (A.take (k + 2)) := by
  rw [take_snoc A (k + 1) hk]
  rw [take_snoc A k (by omega)] at h ⊢
  exact form_snoc h h0 h2 h3
set_option maxRecDepth 100000 in
set_option maxHeartbeats 8000000 in
theorem refIsNorm_any (ao : Option Addr) (n cap : Nat) (A : List Rn) (w : World) (hS : RSrc w ao n cap A) :
    Calls Try.prog 12 #[.slice ao n cap] w fun e w' => GivesF w w' e A := by
  have HS := hide hS
  have hn := hS.big
  have HL : Hid (A.length = n) := hS.len
  clear hS
  go_enter Try.func12, Try.ntmps12
  go_wp2_with fail
  go_loopw [3] (fun i wr => ∃ (k : Nat), k ≤ n ∧ i = .int .i64 k ∧ Hid (form 1 (A.take k) ∧ Below w.heap.size w wr)) (fun i _ => n - (intOf i).toNat)
  case atStart => exact ⟨0, Nat.zero_le _, rfl, trivial, Below.refl _ _⟩
  case round =>
    obtain ⟨k, hk, rfl, H⟩ := hrel
    rename World => w4
    by_cases hlt : k < n
    · have HS4 := hide (HS.out.below H.out.2)
      obtain ⟨ad, rfl, _⟩ := HS4.out.at k hlt
      obtain ⟨b, o, rfl⟩ := HS4.out.spot (by omega)
      obtain ⟨c0, c1⟩ := HS4.out.nums k hlt
      have hkl : k < A.length := by rw [HL.out]; exact hlt
      have HFA : Hid (form 1 A → 1 ≤ (A.getD k rn0).lo ∧ (A.getD k rn0).lo ≤ (A.getD k rn0).hi ∧ (A.getD k rn0).hi ≤ 1000000000) := fun h => form_at' h hkl
      obtain ⟨r, Hr⟩ : ∃ r, Hid (A.getD k rn0 = r) := ⟨_, rfl⟩
      rw [Hr.out] at c0 c1 HFA
      have HC0 := hide c0
      have k0 := cell_regrown c0
      have k1 := cell_regrown c1
      obtain ⟨lo, hi⟩ := r
      simp only at k0 k1 HFA
      clear c0 c1
      by_cases h1 : lo < 1
      · have HF : Hid (¬ form 1 A) := fun h => by have := (HFA.out h).1; omega
        have d1 : decide (lo < 1) = true := decide_eq_true h1
        go_wp2_with fail
        refine wp_region_quiet_below (by kernel_rfl) (by kernel_rfl) ?_
        repeat (with_reducible (refine wpQuiet_step ?_); intro K hK; go_simp; (try rw [if_neg (by unfold undef; simp)]); first | (with_reducible (refine hK _ ?_); clear hK K) | (apply Exists.intro; refine ⟨fun _ => ?_, hK _ ?_⟩; (fail); clear hK K))
        with_reducible (refine wpQuiet_nil ?_)
        intro w5 hw'
        obtain ⟨⟨dq, osq⟩, hw''⟩ := hw'
        have b5 : Below w4.heap.size w4 w5 := by rw [hw'']; exact below_regrown w4 dq osq
        clear hw'' dq osq
        have HBF := hide (H.out.2.trans (b5.mono H.out.2.size))
        clear b5 k0 k1
        go_wp2_with fail
        go_ret
        exact (⟨false, rfl, ⟨(fun h => by cases h), fun h => absurd h HF.out⟩, HBF.out⟩ : GivesF _ _ _ _)
      · have d1 : decide (lo < 1) = false := decide_eq_false h1
        by_cases h2 : hi < lo
        · have HF : Hid (¬ form 1 A) := fun h => by have := (HFA.out h).2.1; omega
          have d2 : decide (hi < lo) = true := decide_eq_true h2
          go_wp2_with fail
          refine wp_region_quiet_below (by kernel_rfl) (by kernel_rfl) ?_
          repeat (with_reducible (refine wpQuiet_step ?_); intro K hK; go_simp; (try rw [if_neg (by unfold undef; simp)]); first | (with_reducible (refine hK _ ?_); clear hK K) | (apply Exists.intro; refine ⟨fun _ => ?_, hK _ ?_⟩; (fail); clear hK K))
          with_reducible (refine wpQuiet_nil ?_)
          intro w5 hw'
          obtain ⟨⟨dq, osq⟩, hw''⟩ := hw'
          have b5 : Below w4.heap.size w4 w5 := by rw [hw'']; exact below_regrown w4 dq osq
          clear hw'' dq osq
          have HBF := hide (H.out.2.trans (b5.mono H.out.2.size))
          clear b5 k0 k1
          go_wp2_with fail
          go_ret
          exact (⟨false, rfl, ⟨(fun h => by cases h), fun h => absurd h HF.out⟩, HBF.out⟩ : GivesF _ _ _ _)
        · have d2 : decide (hi < lo) = false := decide_eq_false h2
          by_cases h3 : 1000000000 < hi
          · have HF : Hid (¬ form 1 A) := fun h => by have := (HFA.out h).2.2; omega
            have d3 : decide (1000000000 < hi) = true := decide_eq_true h3
            go_wp2_with fail
            refine wp_region_quiet_below (by kernel_rfl) (by kernel_rfl) ?_
            repeat (with_reducible (refine wpQuiet_step ?_); intro K hK; go_simp; (try rw [if_neg (by unfold undef; simp)]); first | (with_reducible (refine hK _ ?_); clear hK K) | (apply Exists.intro; refine ⟨fun _ => ?_, hK _ ?_⟩; (fail); clear hK K))
            with_reducible (refine wpQuiet_nil ?_)
            intro w5 hw'
            obtain ⟨⟨dq, osq⟩, hw''⟩ := hw'
            have b5 : Below w4.heap.size w4 w5 := by rw [hw'']; exact below_regrown w4 dq osq
            clear hw'' dq osq
            have HBF := hide (H.out.2.trans (b5.mono H.out.2.size))
            clear b5 k0 k1
            go_wp2_with fail
            go_ret
            exact (⟨false, rfl, ⟨(fun h => by cases h), fun h => absurd h HF.out⟩, HBF.out⟩ : GivesF _ _ _ _)
          · have d3 : decide (1000000000 < hi) = false := decide_eq_false h3
            go_wp2_with fail
            refine wp_region_quiet_below (by kernel_rfl) (by kernel_rfl) ?_
            repeat (with_reducible (refine wpQuiet_step ?_); intro K hK; go_simp; (try rw [if_neg (by unfold undef; simp)]); first | (with_reducible (refine hK _ ?_); clear hK K) | (apply Exists.intro; refine ⟨fun _ => ?_, hK _ ?_⟩; (fail); clear hK K))
            with_reducible (refine wpQuiet_nil ?_)
            intro w5 hw'
            obtain ⟨⟨dq, osq⟩, hw''⟩ := hw'
            have b5 : Below w4.heap.size w4 w5 := by rw [hw'']; exact below_regrown w4 dq osq
            clear hw'' dq osq
            have HB5 := hide (H.out.2.trans (b5.mono H.out.2.size))
            have HS5 := hide (HS.out.below HB5.out)
            clear b5 k0 k1 d1 d2 d3
            cases k with
            | zero =>
              have HN : Hid (form 1 (A.take (0 + 1))) := by
                rw [take_snoc A 0 hkl, Hr.out]
                exact ⟨by simp only; omega, by simp only; omega, by simp only; omega, trivial⟩
              have e0 : ((0 : Nat) : Int) = 0 := rfl
              have d4 : decide ((0 : Int) < 0) = false := rfl
              clear hkl
              go_wp2_with fail
              refine wp_region_quiet_below (by kernel_rfl) (by kernel_rfl) ?_
              repeat (with_reducible (refine wpQuiet_step ?_); intro K hK; go_simp; (try rw [if_neg (by unfold undef; simp)]); first | (with_reducible (refine hK _ ?_); clear hK K) | (apply Exists.intro; refine ⟨fun _ => ?_, hK _ ?_⟩; (fail); clear hK K))
              with_reducible (refine wpQuiet_nil ?_)
              intro w6 hw'
              obtain ⟨⟨dq, osq⟩, hw''⟩ := hw'
              have b6 : Below w5.heap.size w5 w6 := by rw [hw'']; exact below_regrown w5 dq osq
              clear hw'' dq osq
              have HB6 := hide (HB5.out.trans (b6.mono HB5.out.size))
              clear b6
              go_wp2_with fail
              go_roundw
              case rel => exact ⟨0 + 1, by omega, by go_num, HN.out, HB6.out⟩
              case measure => simp [intOf]; omega
            | succ j =>
              obtain ⟨m, hm⟩ : ∃ m, j + 1 = m := ⟨_, rfl⟩
              obtain ⟨q0, q1⟩ := HS5.out.nums j (by omega)
              obtain ⟨p0, p1⟩ := HS5.out.nums (j + 1) hlt
              obtain ⟨s, Hs⟩ : ∃ s, Hid (A.getD j rn0 = s) := ⟨_, rfl⟩
              rw [Hs.out] at q1
              rw [Hr.out] at p0
              have HTW : Hid (form 1 A → s.hi + 2 ≤ lo) := fun h => by have := form_two h hkl; rw [Hs.out, Hr.out] at this; exact this
              have HMO : Hid (s.hi + 2 ≤ lo → form 1 (A.take (j + 2))) := fun h => form_more hkl H.out.1 (by rw [Hs.out, Hr.out]; exact h) (by rw [Hr.out]; simp only; omega) (by rw [Hr.out]; simp only; omega)
              obtain ⟨sl, sh⟩ := s
              simp only at q1 p0 HTW HMO
              have e1 : IntKind.i64.wrap (lo - 2) = lo - 2 := by rw [IntKind.wrap_i64]; omega
              have e2 : IntKind.i64.wrap ((m : Int) - 1) = (j : Int) := by rw [IntKind.wrap_i64]; omega
              have HQ := hide q1
              have k0 := cell_regrown p0
              have k1 := cell_regrown q1
              rw [hm] at hlt hk ⊢ k0
              have hjn : j < n := by omega
              have d4 : decide (0 < m) = true := decide_eq_true (by omega)
              clear q0 q1 p0 p1 hkl
              by_cases h4 : lo - 2 < sh
              · have HF : Hid (¬ form 1 A) := fun h => by have := HTW.out h; omega
                have d5 : decide (lo - 2 < sh) = true := decide_eq_true h4
                go_wp2_with fail
                refine wp_region_quiet_below (by kernel_rfl) (by kernel_rfl) ?_
                repeat (with_reducible (refine wpQuiet_step ?_); intro K hK; go_simp; (try rw [if_neg (by unfold undef; simp)]); first | (with_reducible (refine hK _ ?_); clear hK K) | (apply Exists.intro; refine ⟨fun _ => ?_, hK _ ?_⟩; (fail); clear hK K))
                with_reducible (refine wpQuiet_nil ?_)
                intro w6 hw'
                obtain ⟨⟨dq, osq⟩, hw''⟩ := hw'
                have b6 : Below w5.heap.size w5 w6 := by rw [hw'']; exact below_regrown w5 dq osq
                clear hw'' dq osq
                have HBF := hide (HB5.out.trans (b6.mono HB5.out.size))
                clear b6 k0 k1
                go_wp2_with fail
                go_ret
                exact (⟨false, rfl, ⟨(fun h => by cases h), fun h => absurd h HF.out⟩, HBF.out⟩ : GivesF _ _ _ _)
              · have d5 : decide (lo - 2 < sh) = false := decide_eq_false h4
                have HN : Hid (form 1 (A.take (m + 1))) := by rw [← hm]; exact HMO.out (by omega)
                go_wp2_with fail
                refine wp_region_quiet_below (by kernel_rfl) (by kernel_rfl) ?_
                repeat (with_reducible (refine wpQuiet_step ?_); intro K hK; go_simp; (try rw [if_neg (by unfold undef; simp)]); first | (with_reducible (refine hK _ ?_); clear hK K) | (apply Exists.intro; refine ⟨fun _ => ?_, hK _ ?_⟩; (fail); clear hK K))
                with_reducible (refine wpQuiet_nil ?_)
                intro w6 hw'
                obtain ⟨⟨dq, osq⟩, hw''⟩ := hw'
                have b6 : Below w5.heap.size w5 w6 := by rw [hw'']; exact below_regrown w5 dq osq
                clear hw'' dq osq
                have HB6 := hide (HB5.out.trans (b6.mono HB5.out.size))
                clear b6 k0 k1
                go_wp2_with fail
                go_roundw
                case rel => exact ⟨m + 1, by omega, by go_num, HN.out, HB6.out⟩
                case measure => simp [intOf]; omega
    · obtain rfl : k = n := by omega
      have HF : Hid (form 1 A) := by
        have := H.out.1
        rwa [List.take_of_length_le (by rw [HL.out]; exact Nat.le_refl _)] at this
      go_wp2_with fail
      go_ret
      exact (⟨_, rfl, ⟨fun _ => HF.out, fun _ => rfl⟩, H.out.2⟩ : GivesF _ _ _ _)
end Go.Proofs.Ytclmgkjmimondaa
