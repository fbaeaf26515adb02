/- The reference's Equal: its contract. -/
import Derived.Test.YtmamnigobdgpjaaRNo
namespace Go.Proofs.Ytmamnigobdgpjaa
open Go.RowKit
attribute [local go_sem ↓] ldR_eq stR_eq
attribute [local go_sem] zero_RC cells_RV RC_size fold_RC

theorem getD_ext {A B : List Rn} (hl : A.length = B.length) (h : ∀ k, k < A.length → A.getD k rn0 = B.getD k rn0) : A = B := by
  apply List.ext_getElem hl
  intro k h1 h2
  have := h k h1
  simpa [List.getD, h1, h2] using this
set_option maxRecDepth 100000 in
set_option maxHeartbeats 4000000 in
theorem equal_any (ao bo : Option Addr) (n cap m cap' : Nat) (A B : List Rn) (w : World) (hS : RSrc w ao n cap A) (hR : RSrc w bo m cap' B) :
    Calls Try.prog 6 #[.slice ao n cap, .slice bo m cap'] w fun e w' => e = .returned (.bool (decide (A = B))) ∧ Below w.heap.size w w' := by
  have HS := hide hS
  have HR := hide hR
  have hn := hS.big
  have HLA : Hid (A.length = n) := hS.len
  have HLB : Hid (B.length = m) := hR.len
  have HBR : Hid (Below w.heap.size w w) := Below.refl _ _
  clear hS hR
  by_cases hnm : n = m
  · subst hnm
    have hd0 : ((n : Int) != (n : Int)) = false := by simp
    go_enter Try.func6, Try.ntmps6
    go_wp2_with fail
    go_loopw [5] (fun i wr => ∃ k : Nat, k ≤ n ∧ i = .int .i64 k ∧ Hid ((∀ j, j < k → A.getD j rn0 = B.getD j rn0) ∧ Below w.heap.size w wr)) (fun i _ => n - (intOf i).toNat)
    case atStart => exact ⟨0, Nat.zero_le _, rfl, fun j hj => by omega, Below.refl _ _⟩
    case round =>
      obtain ⟨k, hk, rfl, H⟩ := hrel
      rename World => w4
      by_cases hlt : k < n
      · have S4 := HS.out.below H.out.2
        have R4 := HR.out.below H.out.2
        obtain ⟨ad, rfl, _⟩ := S4.at k hlt
        obtain ⟨bd, rfl, _⟩ := R4.at k hlt
        obtain ⟨b1, o1, rfl⟩ := S4.spot (by omega)
        obtain ⟨b2, o2, rfl⟩ := R4.spot (by omega)
        obtain ⟨q0, q1⟩ := S4.nums k hlt
        obtain ⟨q2, q3⟩ := R4.nums k hlt
        obtain ⟨x, Hx⟩ : ∃ x, Hid (A.getD k rn0 = x) := ⟨_, rfl⟩
        obtain ⟨y, Hy⟩ : ∃ y, Hid (B.getD k rn0 = y) := ⟨_, rfl⟩
        rw [Hx.out] at q0 q1
        rw [Hy.out] at q2 q3
        have k0 := cell_regrown q0
        have k1 := cell_regrown q1
        have k2 := cell_regrown q2
        have k3 := cell_regrown q3
        clear q0 q1 q2 q3 S4 R4
        obtain ⟨x1, x2⟩ := x
        obtain ⟨y1, y2⟩ := y
        simp only at k0 k1 k2 k3
        by_cases e1 : x1 = y1
        · have d1 : (x1 != y1) = false := by simpa using e1
          by_cases e2 : x2 = y2
          · have d2 : (x2 != y2) = false := by simpa using e2
            have HXY : Hid (A.getD k rn0 = B.getD k rn0) := by show _ = _; rw [Hx.out, Hy.out, e1, e2]
            clear e1 e2
            go_wp2_with fail
            refine wp_region_quiet_below (by kernel_rfl) (by kernel_rfl) ?_
            repeat (with_reducible (refine wpQuiet_step ?_); intro K hK; go_simp; (try rw [if_neg (by unfold undef; simp)]); first | (with_reducible (refine hK _ ?_); clear hK K) | (apply Exists.intro; refine ⟨fun _ => ?_, hK _ ?_⟩; (fail); clear hK K))
            with_reducible (refine wpQuiet_nil ?_)
            intro w5 hw'
            obtain ⟨⟨dq, osq⟩, hw''⟩ := hw'
            have b5 : Below w4.heap.size w4 w5 := by rw [hw'']; exact below_regrown w4 dq osq
            clear hw'' dq osq
            have HN : Hid ((∀ j, j < k + 1 → A.getD j rn0 = B.getD j rn0) ∧ Below w.heap.size w w5) := ⟨fun j hj => by
              by_cases ej : j = k
              · rw [ej]; exact HXY.out
              · exact H.out.1 j (by omega), H.out.2.trans (b5.mono H.out.2.size)⟩
            clear b5 k0 k1 k2 k3
            go_wp2_with fail
            go_roundw
            case rel => exact ⟨k + 1, by omega, by go_num, HN⟩
            case measure => simp [intOf]; omega
          · have d2 : (x2 != y2) = true := by simpa using e2
            have HF : Hid (decide (A = B) = false) := decide_eq_false (fun h => e2 (by have := Hx.out; rw [h, Hy.out] at this; simp at this; exact this.2.symm))
            clear e1 e2
            go_wp2_with fail
            refine wp_region_quiet_below (by kernel_rfl) (by kernel_rfl) ?_
            repeat (with_reducible (refine wpQuiet_step ?_); intro K hK; go_simp; (try rw [if_neg (by unfold undef; simp)]); first | (with_reducible (refine hK _ ?_); clear hK K) | (apply Exists.intro; refine ⟨fun _ => ?_, hK _ ?_⟩; (fail); clear hK K))
            with_reducible (refine wpQuiet_nil ?_)
            intro w5 hw'
            obtain ⟨⟨dq, osq⟩, hw''⟩ := hw'
            have b5 : Below w4.heap.size w4 w5 := by rw [hw'']; exact below_regrown w4 dq osq
            clear hw'' dq osq
            have HN := hide (H.out.2.trans (b5.mono H.out.2.size))
            clear b5 k0 k1 k2 k3
            go_wp2_with fail
            go_ret
            exact ⟨ret_bool HF.out.symm, HN.out⟩
        · have d1 : (x1 != y1) = true := by simpa using e1
          have HF : Hid (decide (A = B) = false) := decide_eq_false (fun h => e1 (by have := Hx.out; rw [h, Hy.out] at this; simp at this; exact this.1.symm))
          clear e1
          go_wp2_with fail
          refine wp_region_quiet_below (by kernel_rfl) (by kernel_rfl) ?_
          repeat (with_reducible (refine wpQuiet_step ?_); intro K hK; go_simp; (try rw [if_neg (by unfold undef; simp)]); first | (with_reducible (refine hK _ ?_); clear hK K) | (apply Exists.intro; refine ⟨fun _ => ?_, hK _ ?_⟩; (fail); clear hK K))
          with_reducible (refine wpQuiet_nil ?_)
          intro w5 hw'
          obtain ⟨⟨dq, osq⟩, hw''⟩ := hw'
          have b5 : Below w4.heap.size w4 w5 := by rw [hw'']; exact below_regrown w4 dq osq
          clear hw'' dq osq
          have HN := hide (H.out.2.trans (b5.mono H.out.2.size))
          clear b5 k0 k1 k2 k3
          go_wp2_with fail
          go_ret
          exact ⟨ret_bool HF.out.symm, HN.out⟩
      · obtain rfl : k = n := by omega
        have HF : Hid (decide (A = B) = true) := decide_eq_true (getD_ext (by rw [HLA.out, HLB.out]) (fun j hj => H.out.1 j (by rw [HLA.out] at hj; exact hj)))
        go_wp2_with fail
        go_ret
        exact ⟨ret_bool HF.out.symm, H.out.2⟩
  · have hd0 : ((n : Int) != (m : Int)) = true := by simpa using fun h => hnm (by omega)
    have HF : Hid (decide (A = B) = false) := decide_eq_false (fun h => hnm (by rw [← HLA.out, ← HLB.out, h]))
    clear hnm
    go_enter Try.func6, Try.ntmps6
    go_wp2_with fail
    go_ret
    exact ⟨ret_bool HF.out.symm, HBR.out⟩
end Go.Proofs.Ytmamnigobdgpjaa
