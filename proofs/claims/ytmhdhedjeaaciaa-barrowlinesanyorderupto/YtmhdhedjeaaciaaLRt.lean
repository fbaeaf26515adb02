/- The reference's Total; SameLines: their contracts. -/
import Derived.Test.YtmhdhedjeaaciaaLTo
import Derived.Test.YtmhdhedjeaaciaaLROf
import Derived.Test.YtmhdhedjeaaciaaLAd
namespace Go.Proofs.Ytmhdhedjeaaciaa
open Go.RowKit
attribute [local go_sem ↓] ld28_eq st28_eq ldL_eq stL_eq
attribute [local go_sem] zero_EC cells_EV EC_size zero_LC cells_LV LC_size

theorem EnAt.f3 {w : World} {p : Addr} {e : En} (A : EnAt w p e) : w.cell? ⟨p.block, p.off + 3, none⟩ = some (.int .i64 e.qty) := by
  have h := A.c3
  have hs := A.spot
  obtain ⟨b, o, sp⟩ := p
  simp at hs
  subst hs
  rwa [Addr.add_lit] at h
set_option maxRecDepth 100000 in
set_option maxHeartbeats 4000000 in
theorem refTotal_any (ao : Option Addr) (n cap : Nat) (L : List En) (w : World) (hS : ESrc w ao n cap L) :
    Calls Try.prog 11 #[.slice ao n cap] w fun e w' => e = .returned (.tuple #[.int .i64 (totV L), .int .i64 (chk L)]) ∧ Below w.heap.size w w' := by
  have HS := hide hS
  have HL : Hid (L.length = n) := hS.1
  have hn := hS.2.2.2.2
  clear hS
  obtain ⟨v, Hv⟩ : ∃ v, Hid (totV L = v) := ⟨_, rfl⟩
  rw [Hv.out]
  go_enter Try.func11, Try.ntmps11
  go_wp2_with fail
  refine (refCheckL_any ao n cap L _ HS.out).mono ?_
  rintro x w1 ⟨rfl, b1⟩
  have B1 := hide b1
  have S1 := hide (HS.out.below b1)
  clear b1
  rcases chk_c L with h | h
  · rw [h]
    have HC := hide h
    have HF : Hid (v = ttl L) := by show _ = _; rw [← Hv.out, totV, if_pos h]
    have HA := hide (chk_all h)
    have hlen := chk_len h
    rw [HL.out] at hlen
    clear h
    go_wp2_with fail
    go_loopw [4, 5] (fun s i wr => ∃ k : Nat, k ≤ n ∧ s = .int .i64 (ttl (L.take k)) ∧ i = .int .i64 k ∧ Hid (Below w1.heap.size w1 wr)) (fun _ i _ => n - (intOf i).toNat)
    case atStart => exact ⟨0, Nat.zero_le _, rfl, rfl, Below.refl _ _⟩
    case round =>
      obtain ⟨k, hk, rfl, rfl, HB⟩ := hrel
      obtain ⟨t, Ht⟩ : ∃ t, Hid (ttl (L.take k) = t) := ⟨_, rfl⟩
      rw [Ht.out]
      by_cases hlt : k < n
      · obtain ⟨ad, rfl, A0⟩ := (S1.out.below HB.out).at k hlt
        have htk := take_snoc L k (by rw [HL.out]; exact hlt)
        have hok : AllOk (L.take (k + 1)) := fun x hx => HA.out x (List.mem_of_mem_take hx)
        have hbd := ttl_bd _ hok
        have htl : (L.take (k + 1)).length = k + 1 := by rw [List.length_take, HL.out]; omega
        rw [htl, htk, ttl_append, Ht.out] at hbd
        have HN : Hid (ttl (L.take (k + 1)) = t + (L.getD k en0).qty) := by show _ = _; rw [htk, ttl_append, Ht.out]; simp [ttl]
        obtain ⟨e, He⟩ : ∃ e, Hid (L.getD k en0 = e) := ⟨_, rfl⟩
        rw [He.out] at A0 HN hbd
        simp only [ttl] at hbd
        have hw : IntKind.i64.wrap (t + e.qty) = t + e.qty := by rw [IntKind.wrap_i64]; omega
        have c3 := A0.f3
        have c4 := A0.spot
        clear A0 hok hbd htl htk
        go_wp2_with fail
        go_roundw
        case rel => exact ⟨k + 1, by omega, by rw [HN.out], by go_num, HB⟩
        case measure => simp [intOf]; omega
      · obtain rfl : k = n := by omega
        have HT2 : Hid (t = v) := by show _ = _; rw [HF.out, ← Ht.out, List.take_of_length_le (by rw [HL.out]; exact Nat.le_refl _)]
        have HW := hide (B1.out.trans (HB.out.mono B1.out.size))
        go_wp2_with fail
        go_ret2
        exact ⟨(by rw [HT2.out, HC.out] <;> rfl), HW.out⟩
  · rw [h]
    have HC := hide h
    have HF : Hid (v = 0) := by show _ = _; rw [← Hv.out, totV, if_neg (by rw [h]; decide)]
    clear h
    go_wp2_with fail
    go_ret2
    exact ⟨(by rw [HF.out, HC.out] <;> rfl), B1.out⟩
attribute [local go_sem ↓] run_eqL
set_option maxRecDepth 100000 in
set_option maxHeartbeats 1600000 in
theorem sameLines_any (ao bo : Option Addr) (n cap m cap' : Nat) (L R : List Ln) (w : World) (hS : LSrc w ao n cap L) (hR : LSrc w bo m cap' R) (hE : L = R) :
    Calls Try.prog 13 #[.slice ao n cap, .slice bo m cap'] w fun e w' => e = .returned (.bool true) ∧ Below w.heap.size w w' := by
  have HS := hide hS
  have HR := hide hR
  have hn := hS.2.2.2.2
  have hnm : n = m := by rw [← hS.1, ← hR.1, hE]
  subst hE
  subst hnm
  clear hS hR
  go_enter Try.func13, Try.ntmps13
  go_wp2_with fail
  go_loopw [5] (fun i wr => ∃ k : Nat, k ≤ n ∧ i = .int .i64 k ∧ Hid (Below w.heap.size w wr)) (fun i _ => n - (intOf i).toNat)
  case atStart => exact ⟨0, Nat.zero_le _, rfl, Below.refl _ _⟩
  case round =>
    obtain ⟨k, hk, rfl, HB⟩ := hrel
    by_cases hlt : k < n
    · obtain ⟨ad, rfl, A0⟩ := (HS.out.below HB.out).at k hlt
      obtain ⟨bd, rfl, A1⟩ := (HR.out.below HB.out).at k hlt
      obtain ⟨e, He⟩ : ∃ e, Hid (L.getD k ln0 = e) := ⟨_, rfl⟩
      rw [He.out] at A0 A1
      have l0 : ∀ d os, (ldL (.pointer (some (ad.add (k * 3))))).run Try.prog (Sort.grow (redrawn wr d) os) = .ok (LV e) (Sort.grow (redrawn wr d) os) := fun d os => run_ldL (A0.on (below_regrown wr d os))
      have l1 : ∀ d os, (ldL (.pointer (some (bd.add (k * 3))))).run Try.prog (Sort.grow (redrawn wr d) os) = .ok (LV e) (Sort.grow (redrawn wr d) os) := fun d os => run_ldL (A1.on (below_regrown wr d os))
      have hq := eqL_self e
      clear A0 A1
      go_wp2_with fail
      refine wp_region_quiet_below (by kernel_rfl) (by kernel_rfl) ?_
      repeat (with_reducible (refine wpQuiet_step ?_); intro K hK; go_simp; (try rw [if_neg (by unfold undef; simp)]); first | (with_reducible (refine hK _ ?_); clear hK K) | (apply Exists.intro; refine ⟨fun _ => ?_, hK _ ?_⟩; (fail); clear hK K))
      with_reducible (refine wpQuiet_nil ?_)
      intro _ hw'
      obtain ⟨⟨dq, osq⟩, hw''⟩ := hw'
      subst hw''
      have HBE : Hid (Below w.heap.size w (Sort.grow (redrawn wr dq) osq)) := HB.out.trans ((below_regrown wr dq osq).mono HB.out.size)
      go_wp2_with fail
      go_roundw
      case rel => exact ⟨k + 1, by omega, by go_num, HBE⟩
      case measure => simp [intOf]; omega
    · go_wp2_with fail
      go_ret
      exact ⟨rfl, HB.out⟩
end Go.Proofs.Ytmhdhedjeaaciaa
