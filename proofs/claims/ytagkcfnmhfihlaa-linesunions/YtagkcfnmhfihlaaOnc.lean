/- The reference's once: its contract. -/
import Derived.Test.YtagkcfnmhfihlaaDd
import Derived.Test.YtagkcfnmhfihlaaSame
namespace Go.Proofs.Ytagkcfnmhfihlaa
open Go.RowKit
attribute [local go_sem ↓] ld28_eq st28_eq ld26_eq
attribute [local go_sem] zero_EC cells_EV EC_size fold_EC

theorem run_eqD (x y : En) (w : World) : (Op.equalIn 10000 24 (.agg (DC x)) (.agg (DC y))).run Try.prog w = .ok (sameDot x y) w := by
  have u3 := Try.underlying3
  have a3 := Try.isAgg3
  have z3 := Try.sizeOf3
  have hS : Try.prog.underlying 24 = some (.struct (Try.prog.fieldsOf 24)) := by kernel_rfl
  have hp : Try.prog.stoodInHeld 24 = false := by kernel_rfl
  obtain ⟨a, b, _, _⟩ := x
  obtain ⟨c, d, _, _⟩ := y
  show (Op.equalIn 10000 24 (.agg #[.int .i64 a, .int .i64 b]) (.agg #[.int .i64 c, .int .i64 d])).run Try.prog w = .ok (a == c && b == d) w
  rw [show (10000 : Nat) = 9999 + 1 from rfl, run_equalIn_struct w 9999 24 _ _ hS hp]
  simp only [Program.fieldsOf, Try.underlying24]
  go_simp
  by_cases h1 : a = c <;> by_cases h2 : b = d <;> simp [h1, h2]
attribute [local go_sem ↓] run_eq28 run_eqD
theorem eqE_iff (x y : En) : eqE x y = true ↔ x = y := by
  constructor
  · intro h
    obtain ⟨a, b, s, c⟩ := x
    obtain ⟨a', b', s', c'⟩ := y
    simp only [eqE, Bool.and_eq_true, beq_iff_eq] at h
    obtain ⟨⟨⟨rfl, rfl⟩, h3⟩, rfl⟩ := h
    have : s = s' := by
      rw [ByteArray.toList_eq, ByteArray.toList_eq] at h3
      cases s; cases s'; simp at h3; simp [h3]
    rw [this]
  · rintro rfl; exact eqE_self _
/-- a list and an error are handed back: the entries settled -/
def GivesT (w w' : World) (e : Ending) (L : List En) : Prop := ∃ ao n c R er, e = .returned (.tuple #[.slice ao n c, .int .i64 er]) ∧ ESrc w' ao n c R ∧ Below w.heap.size w w' ∧ (∀ ad, ao = some ad → w.heap.size ≤ ad.block) ∧ Settled L R er
theorem ESrc.none (w : World) : ESrc w none 0 0 [] := ⟨rfl, fun _ => ⟨rfl, rfl⟩, (fun ad h => by cases h), (fun e he => by cases he), by omega⟩
set_option maxRecDepth 100000 in
set_option maxHeartbeats 4000000 in
theorem once_any (ao : Option Addr) (n cap : Nat) (L : List En) (w : World) (hS : ESrc w ao n cap L) (hL : L.Pairwise (fun x y => leE x y = true)) :
    Calls Try.prog 18 #[.slice ao n cap] w fun x w' => GivesT w w' x L := by
  have HS := hide hS
  have hn := hS.2.2.2.2
  have HL : Hid (L.length = n) := hS.1
  have HP := hide hL
  clear hS hL
  go_enter Try.func18, Try.ntmps18
  go_wp2_with fail
  go_loopw [4, 5] (fun v i wr => ∃ (k : Nat) (ap : Option Addr) (c : Nat) (acc : List En), k ≤ n ∧ acc.length ≤ k ∧ v = .slice ap acc.length c ∧ i = .int .i64 k ∧ Hid (OnceInv L k acc ∧ OwnE w.heap.size w.heap.size w wr ap c acc)) (fun _ i _ => n - (intOf i).toNat)
  case atStart => exact ⟨0, none, 0, [], Nat.zero_le _, Nat.le_refl _, rfl, rfl, once_start L, OwnE.nil (Below.refl _ _) (Nat.le_refl _) (Nat.le_refl _)⟩
  case round =>
    obtain ⟨k, ap, c, acc, hk, hal, rfl, rfl, H⟩ := hrel
    rename World => w4
    by_cases hlt : k < n
    · obtain ⟨ad, rfl, A0⟩ := (HS.out.below H.out.2.below).at k hlt
      obtain ⟨e, He⟩ : ∃ e, Hid (L.getD k en0 = e) := ⟨_, rfl⟩
      rw [He.out] at A0
      have HA0 := hide A0
      clear A0
      have HAL := hide hal
      by_cases hk0 : k = 0
      · have HN : Hid (OnceInv L (k + 1) (acc ++ [e])) := by have := once_new HP.out (by rw [HL.out]; exact hlt) H.out.1 (Or.inl hk0); rwa [He.out] at this
        subst hk0
        go_wp2_with fail
        refine wp_region_quiet_below (by kernel_rfl) (by kernel_rfl) ?_
        repeat (with_reducible (refine wpQuiet_step ?_); intro K hK; go_simp; (try rw [if_neg (by unfold undef; simp)]); first | (with_reducible (refine hK _ ?_); clear hK K) | (apply Exists.intro; refine ⟨fun _ => ?_, hK _ ?_⟩; (fail); clear hK K))
        with_reducible (refine wpQuiet_nil ?_)
        intro w5 hw'
        obtain ⟨⟨dq, osq⟩, hw''⟩ := hw'
        have b5 : Below w4.heap.size w4 w5 := by rw [hw'']; exact below_regrown w4 dq osq
        clear hw'' dq osq
        have O5 := hide (H.out.2.later b5)
        have l5 := run_ld28 (HA0.out.on b5)
        rw [Nat.zero_mul, add_zero] at l5
        clear b5
        go_wp2_with (at_builtin; refine O5.out.append e _ rfl (by omega) rfl (.tmp 28) (.tmp 33) rfl acc.length rfl rfl rfl ?_; intro g6 c6 w6 O6 hk6)
        go_roundw
        case rel => exact ⟨0 + 1, some ⟨g6, 0, none⟩, c6, acc ++ [e], by omega, by have := HAL.out; rw [List.length_append, List.length_singleton]; omega, by simp, by go_num, HN.out, O6⟩
        case measure => simp [intOf]; omega
      · obtain ⟨j, hj⟩ : ∃ j, k - 1 = j := ⟨_, rfl⟩
        have hz : IntKind.i64.wrap ((k : Int) - 1) = (j : Int) := by rw [IntKind.wrap_i64]; omega
        have hjn : j < n := by omega
        have A1 := (HS.out.below H.out.2.below).2.2.1 ad rfl j (by omega)
        obtain ⟨e1, He1⟩ : ∃ e1, Hid (L.getD j en0 = e1) := ⟨_, rfl⟩
        rw [He1.out] at A1
        have HA1 := hide A1
        clear A1
        have hk1 : ((k : Int) == 0) = false := by simp; omega
        have Hj := hide hj
        have HK0 := hide hk0
        have l0 : ∀ d os, (ld26 (.pointer (some (ad.add (k * 4))))).run Try.prog (Sort.grow (redrawn w4 d) os) = .ok (.agg (DC e)) (Sort.grow (redrawn w4 d) os) := fun d os => run_ld26 (HA0.out.on (below_regrown w4 d os))
        have l1 : ∀ d os, (ld26 (.pointer (some (ad.add (j * 4))))).run Try.prog (Sort.grow (redrawn w4 d) os) = .ok (.agg (DC e1)) (Sort.grow (redrawn w4 d) os) := fun d os => run_ld26 (HA1.out.on (below_regrown w4 d os))
        clear hj hk0
        obtain ⟨s, hs⟩ : ∃ s, sameDot e e1 = s := ⟨_, rfl⟩
        cases s with
        | false =>
          have HN : Hid (OnceInv L (k + 1) (acc ++ [e])) := by have := once_new HP.out (by rw [HL.out]; exact hlt) H.out.1 (Or.inr (by rw [Hj.out, He.out, He1.out]; exact hs)); rwa [He.out] at this
          go_wp2_with fail
          refine wp_region_quiet_below (by kernel_rfl) (by kernel_rfl) ?_
          repeat (with_reducible (refine wpQuiet_step ?_); intro K hK; go_simp; (try rw [if_neg (by unfold undef; simp)]); first | (with_reducible (refine hK _ ?_); clear hK K) | (apply Exists.intro; refine ⟨fun _ => ?_, hK _ ?_⟩; (fail); clear hK K))
          with_reducible (refine wpQuiet_nil ?_)
          intro w5 hw'
          obtain ⟨⟨dq, osq⟩, hw''⟩ := hw'
          have b5 : Below w4.heap.size w4 w5 := by rw [hw'']; exact below_regrown w4 dq osq
          clear hw'' dq osq
          have O5 := hide (H.out.2.later b5)
          have l5 := run_ld28 (HA0.out.on b5)
          clear b5 l0 l1
          go_wp2_with (at_builtin; refine O5.out.append e _ rfl (by omega) rfl (.tmp 28) (.tmp 33) rfl acc.length rfl rfl rfl ?_; intro g6 c6 w6 O6 hk6)
          go_roundw
          case rel => exact ⟨k + 1, some ⟨g6, 0, none⟩, c6, acc ++ [e], by omega, by have := HAL.out; rw [List.length_append, List.length_singleton]; omega, by simp, by go_num, HN.out, O6⟩
          case measure => simp [intOf]; omega
        | true =>
          have HSD := hide hs
          obtain ⟨q, hq⟩ : ∃ q, eqE e e1 = q := ⟨_, rfl⟩
          go_wp2_with fail
          refine wp_region_quiet_below (by kernel_rfl) (by kernel_rfl) ?_
          repeat (with_reducible (refine wpQuiet_step ?_); intro K hK; go_simp; (try rw [if_neg (by unfold undef; simp)]); first | (with_reducible (refine hK _ ?_); clear hK K) | (apply Exists.intro; refine ⟨fun _ => ?_, hK _ ?_⟩; (fail); clear hK K))
          with_reducible (refine wpQuiet_nil ?_)
          intro w5 hw'
          obtain ⟨⟨dq, osq⟩, hw''⟩ := hw'
          have b5 : Below w4.heap.size w4 w5 := by rw [hw'']; exact below_regrown w4 dq osq
          clear hw'' dq osq
          have O5 := hide (H.out.2.later b5)
          have HB5 := hide b5
          clear b5 l0 l1 hs
          have l0 : ∀ d os, (ld28 (.pointer (some (ad.add (k * 4))))).run Try.prog (Sort.grow (redrawn w5 d) os) = .ok (EV e) (Sort.grow (redrawn w5 d) os) := fun d os => run_ld28 ((HA0.out.on HB5.out).on (below_regrown w5 d os))
          have l1 : ∀ d os, (ld28 (.pointer (some (ad.add (j * 4))))).run Try.prog (Sort.grow (redrawn w5 d) os) = .ok (EV e1) (Sort.grow (redrawn w5 d) os) := fun d os => run_ld28 ((HA1.out.on HB5.out).on (below_regrown w5 d os))
          cases q with
          | true =>
            have HN : Hid (OnceInv L (k + 1) acc) := once_skip (by rw [HL.out]; exact hlt) (by have := HK0.out; omega) H.out.1 (by rw [Hj.out, He.out, He1.out]; exact (eqE_iff e e1).1 hq)
            go_wp2_with fail
            refine wp_region_quiet_below (by kernel_rfl) (by kernel_rfl) ?_
            repeat (with_reducible (refine wpQuiet_step ?_); intro K hK; go_simp; (try rw [if_neg (by unfold undef; simp)]); first | (with_reducible (refine hK _ ?_); clear hK K) | (apply Exists.intro; refine ⟨fun _ => ?_, hK _ ?_⟩; (fail); clear hK K))
            with_reducible (refine wpQuiet_nil ?_)
            intro w6 hw'
            obtain ⟨⟨dq, osq⟩, hw''⟩ := hw'
            have b6 : Below w5.heap.size w5 w6 := by rw [hw'']; exact below_regrown w5 dq osq
            clear hw'' dq osq
            have O6 := hide (O5.out.later b6)
            clear b6 l0 l1
            go_wp2_with fail
            go_roundw
            case rel => exact ⟨k + 1, ap, c, acc, by omega, by omega, rfl, by go_num, HN.out, O6.out⟩
            case measure => simp [intOf]; omega
          | false =>
            have HN : Hid (Settled L [] 10) := Or.inl ⟨once_clash (k := k) (by rw [HL.out]; exact hlt) (by rw [Hj.out, He.out, He1.out]; exact HSD.out) (by rw [Hj.out, He.out, He1.out]; intro h; rw [(eqE_iff e e1).2 h] at hq; cases hq), rfl, rfl⟩
            go_wp2_with fail
            refine wp_region_quiet_below (by kernel_rfl) (by kernel_rfl) ?_
            repeat (with_reducible (refine wpQuiet_step ?_); intro K hK; go_simp; (try rw [if_neg (by unfold undef; simp)]); first | (with_reducible (refine hK _ ?_); clear hK K) | (apply Exists.intro; refine ⟨fun _ => ?_, hK _ ?_⟩; (fail); clear hK K))
            with_reducible (refine wpQuiet_nil ?_)
            intro w6 hw'
            obtain ⟨⟨dq, osq⟩, hw''⟩ := hw'
            have b6 : Below w5.heap.size w5 w6 := by rw [hw'']; exact below_regrown w5 dq osq
            clear hw'' dq osq
            have O6 := hide (O5.out.later b6)
            clear b6 l0 l1
            go_wp2_with fail
            go_ret2
            exact ⟨none, 0, 0, [], 10, rfl, ESrc.none _, O6.out.below, fun ad h => (by cases h), HN.out⟩
    · obtain rfl : k = n := by omega
      have HN : Hid (Settled L acc 0) := once_done (by rw [HL.out]; exact H.out.1)
      have hs : ∀ e ∈ acc, e.sku.size ≤ maxLen := by
        intro e he; exact HS.out.2.2.2.1 e (List.mem_of_mem_take ((H.out.1.2 e).1 he))
      obtain ⟨S1, F1⟩ := H.out.2.src hs (by omega)
      have HS1 := hide S1
      have HF1 := hide F1
      clear S1 F1 hs
      go_wp2_with fail
      go_ret2
      exact ⟨_, _, _, acc, 0, rfl, HS1.out, H.out.2.below, HF1.out, HN.out⟩
end Go.Proofs.Ytagkcfnmhfihlaa
