/- Meet of any number: its contract. -/
import Derived.Test.YtdilejbdkhkifaaRMet
namespace Go.Proofs.Ytdilejbdkhkifaa
open Go.RowKit
attribute [local go_sem ↓] ld56_eq st56_eq
attribute [local go_sem] zeros_VC cells_VA

theorem short_zeros : short (fun _ => 0) = [] := by decide +kernel
theorem rows_addr {w : World} {ao : Option Addr} {m c : Nat} {A : Nat → Option Addr} {N C : Nat → Nat} {Z : Nat → List Int} (h : Rows w ao m c A N C Z) (hm : 0 < m) : ∃ b off, ao = some ⟨b, off, none⟩ ∧ ∀ t, t < m → w.cell? ⟨b, off + t, none⟩ = some (.slice (A t) (N t) (C t)) := by
  cases ao with
  | none => have := (h.nil rfl).1; omega
  | some ad =>
    obtain ⟨b, off, s⟩ := ad
    have hs : s = none := by simpa [Addr.add] using World.cell?_spot (h.cell _ rfl 0 hm)
    subst hs
    refine ⟨b, off, rfl, fun t ht => ?_⟩
    have := h.cell _ rfl t ht
    rwa [Addr.add_lit] at this
theorem meetR_two (Z : Nat → List Int) (k : Nat) : meetR Z (k + 1 + 1) = fmin (meetR Z (k + 1)) (at' (Z (k + 1))) := by
  show (if k + 1 = 0 then _ else _) = _
  rw [if_neg (by omega)]

set_option maxHeartbeats 1600000 in
theorem meetAll_any (ao : Option Addr) (m c : Nat) (A : Nat → Option Addr) (N C : Nat → Nat) (Z : Nat → List Int) (w : World) (hR : Rows w ao m c A N C Z) (hmc : m ≤ c) (hc : c ≤ maxLen) :
    Calls Try.prog 25 #[.slice ao m c] w fun e w' => Gives w w' e (short (meetR Z m)) := by
  unfold maxLen at hc
  cases m with
  | zero =>
    have e0 : Hid (short (meetR Z 0) = []) := short_zeros
    rw [e0.out]
    go_enter Try.func25, Try.ntmps25
    go_wp2_with fail
    go_ret
    exact ⟨_, _, _, rfl, src_nil _, Below.refl _ _⟩
  | succ m =>
    obtain ⟨b, off, rfl, hcell⟩ := rows_addr hR (by omega)
    have c0 := hcell 0 (by omega)
    have HCL := hide hcell
    have HR := hide hR
    have S0 := hide (hR.src 0 (by omega))
    have hne : ((m : Int) + 1 == 0) = false := by simp; omega
    have q1 : (0 : Int) < (m : Int) + 1 := by omega
    have q2 : (1 : Int) ≤ (m : Int) + 1 := by omega
    clear hcell hR
    simp only [Nat.add_zero] at c0
    go_enter Try.func25, Try.ntmps25
    go_wp2_with fail
    refine (meant_any _ _ _ (Z 0) _ S0.out).mono ?_
    rintro e w1 ⟨rfl, b1⟩
    obtain ⟨w2, s2, a2, b2, _⟩ := fresh56 w w1 (at' (Z 0)) b1
    have A2 := hide a2
    have B2 := hide b2
    have LW := hide b1.size
    clear a2 b2 b1
    by_cases hc1 : c = 1
    · obtain rfl : m = 0 := by omega
      subst hc1
      go_wp2_with fail
      go_loopw [16] (fun i wr => i = .int .i64 0 ∧ wr = w2) (fun _ _ => 0)
      case atStart => exact ⟨rfl, rfl⟩
      case round =>
        obtain ⟨rfl, rfl⟩ := hrel
        have l0 := run_ld56 A2.out
        go_wp2_with fail
        refine (list_any _ _).mono ?_
        rintro e w5 ⟨a5, n5, c5, rfl, S, b⟩
        have B5 := hide (B2.out.trans (b.mono B2.out.size))
        have S5 := hide S
        clear b S
        go_wp2_with fail
        go_ret
        exact ⟨_, _, _, rfl, S5.out, B5.out⟩
    · go_wp2_with fail
      go_loopw [16] (fun i wr => ∃ j : Nat, j ≤ m ∧ i = .int .i64 j ∧ Hid (Arr wr w1.heap.size 56 (meetR Z (j + 1))) ∧ Hid (Below w.heap.size w wr)) (fun i _ => m - (intOf i).toNat)
      case atStart => exact ⟨0, Nat.zero_le _, rfl, A2, B2⟩
      case round =>
        obtain ⟨j, hj, rfl, AX, BX⟩ := hrel
        by_cases hlt : j < m
        · have cj := HCL.out (j + 1) (by omega)
          have cj' := (BX.out.cell (World.block_lt_of_cell? _ _ cj)).trans cj
          rw [show off + (j + 1) = off + 1 + j by omega] at cj'
          obtain ⟨f, Hf⟩ : ∃ f, Hid (meetR Z (j + 1) = f) := ⟨_, rfl⟩
          have HM : Hid (meetR Z (j + 1 + 1) = fmin f (at' (Z (j + 1)))) := by show _ = _; rw [meetR_two, Hf.out]
          rw [Hf.out] at AX
          have HD : Hid (Arr wr.drew w1.heap.size 56 f) := AX.out
          have SD : Hid (Src wr.drew (A (j + 1)) (N (j + 1)) (C (j + 1)) (Z (j + 1))) := src_drew ((HR.out.src (j + 1) (by omega)).below BX.out)
          have BD : Hid (Below w.heap.size w wr.drew) := below_drew BX.out
          have l0 := run_ld56 HD.out
          clear cj AX
          go_wp2_with fail
          go_region_with (first | (go_at_call 38; refine (meant_any _ _ _ (Z (j + 1)) _ SD.out).mono ?_; rintro e w3 ⟨rfl, b3⟩; have A3 := hide (HD.out.below b3); have l3 := run_ld56 A3.out; have B3 := hide (BD.out.trans (b3.mono BD.out.size)); clear b3) | (go_at_call 44; refine (under_any _ _ _).mono ?_; rintro e w4 ⟨rfl, b4⟩; have A4 := hide (A3.out.below b4); have s4 := run_st56 (f' := fmin f (at' (Z (j + 1)))) A4.out; have B4 := hide (B3.out.trans (b4.mono B3.out.size)); clear b4))
          all_goals (go_wp2_with fail)
          all_goals exact ⟨⟨j + 1, by omega, by go_num, by rw [HM.out]; exact A4.out.setRow, below_setRow B4.out LW.out⟩, by simp [intOf]; omega⟩
        · obtain rfl : j = m := by omega
          have l0 := run_ld56 AX.out
          go_wp2_with fail
          refine (list_any _ _).mono ?_
          rintro e w5 ⟨a5, n5, c5, rfl, S, b⟩
          have B5 := hide (BX.out.trans (b.mono BX.out.size))
          have S5 := hide S
          clear b S
          go_wp2_with fail
          go_ret
          exact ⟨_, _, _, rfl, S5.out, B5.out⟩
end Go.Proofs.Ytdilejbdkhkifaa
