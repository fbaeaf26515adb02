/- The reference's Merge: its contract. -/
import Derived.Test.YtdilejbdkhkifaaMeet
namespace Go.Proofs.Ytdilejbdkhkifaa
open Go.RowKit
attribute [local go_sem ↓] ld55_eq st55_eq
attribute [local go_sem] zeros_VC cells_VA

set_option maxHeartbeats 1600000 in
theorem refMerge_any (ao : Option Addr) (m c : Nat) (A : Nat → Option Addr) (N C : Nat → Nat) (Z : Nat → List Int) (w : World) (hR : Rows w ao m c A N C Z) (hm : m ≤ maxLen) :
    Calls Try.prog 27 #[.slice ao m c] w fun e w' => Gives w w' e (short (mergeF Z m)) := by
  have HR := hide hR
  unfold maxLen at hm
  clear hR
  go_enter Try.func27, Try.ntmps27
  go_wp2_with fail
  go_loopw [4] (fun i wr => ∃ k : Nat, k ≤ m ∧ i = .int .i64 k ∧ Hid (Arr wr w.heap.size 55 (mergeF Z k)) ∧ Hid (Below w.heap.size w wr)) (fun i _ => m - (intOf i).toNat)
  case atStart => exact ⟨0, Nat.zero_le _, rfl, arr_new w 55 _, (Below.refl _ _).alloc (Nat.le_refl _) _⟩
  case round =>
    obtain ⟨k, hk, rfl, HA, HB⟩ := hrel
    by_cases hlt : k < m
    · obtain ⟨ad, rfl⟩ : ∃ ad, ao = some ad := by
        cases ao with
        | none => have := HR.out.nil rfl; omega
        | some ad => exact ⟨ad, rfl⟩
      have RK := HR.out.below HB.out
      have ck := RK.cell ad rfl k hlt
      have SK := hide (RK.src k hlt)
      clear RK
      obtain ⟨f, Hf⟩ : ∃ f, Hid (mergeF Z k = f) := ⟨_, rfl⟩
      have HM : Hid (mergeF Z (k + 1) = fmax f (at' (Z k))) := by show _ = _; rw [← Hf.out]; rfl
      rw [Hf.out] at HA
      go_wp2_with fail
      refine (full_any _ _ _ (Z k) _ SK.out).mono ?_
      rintro e w1 ⟨rfl, b1⟩
      have lt1 : w.heap.size < w1.heap.size := Nat.lt_of_lt_of_le HA.out.lt b1.size
      obtain ⟨w2, s2, a2, b2, c2⟩ := fresh55 w w1 (at' (Z k)) (HB.out.trans (b1.mono HB.out.size))
      have A2 := hide ((HA.out.below b1).below c2)
      have G2 := hide a2
      have B2 := hide b2
      clear b1 a2 b2 c2 HA SK HB
      obtain ⟨g, Hg⟩ : ∃ g, Hid (at' (Z k) = g) := ⟨_, rfl⟩
      rw [Hg.out] at G2 HM
      go_wp2_with fail
      go_loopw [6] (fun i wx => ∃ j : Nat, j ≤ 16 ∧ i = .int .i64 j ∧ Hid (Arr wx w.heap.size 55 (fmix j (fmax f g) f)) ∧ Hid (Arr wx w1.heap.size 55 g) ∧ Hid (Below w.heap.size w wx)) (fun i _ => 16 - (intOf i).toNat)
      case atStart => exact ⟨0, Nat.zero_le _, rfl, A2.out.congr (fun r _ => by simp [fmix]), G2, B2⟩
      case round =>
        obtain ⟨j, hj, rfl, AX, GX, BX⟩ := hrel
        by_cases hjl : j < 16
        · have c1 := AX.out.cell j hjl
          rw [fmix_here] at c1
          have z1 := AX.out.frozen j
          have c2 := GX.out.cell j hjl
          have AXd : Hid (Arr wr.drew w.heap.size 55 (fmix j (fmax f g) f)) := AX.out
          have c1d := AXd.out.cell j hjl
          rw [fmix_here] at c1d
          have z1d := AXd.out.frozen j
          have GXd : Hid (Arr wr.drew w1.heap.size 55 g) := GX.out
          have c2d := GXd.out.cell j hjl
          obtain ⟨x, Hx⟩ : ∃ x, Hid (f j = x) := ⟨_, rfl⟩
          obtain ⟨y, Hy⟩ : ∃ y, Hid (g j = y) := ⟨_, rfl⟩
          rw [Hx.out] at c1 c1d
          rw [Hy.out] at c2 c2d
          by_cases h : x < y
          · have HQ : Hid (y = fmax f g j) := by show _ = _; unfold fmax; rw [Hx.out, Hy.out, if_pos h]
            go_wp2_with fail
            go_region
            go_wp2_with fail
            go_roundw
            case rel =>
              have A' := (AXd.out.set j y).congr (fmix_next j _ _ y HQ.out)
              exact ⟨j + 1, by omega, by go_num, A', GXd.out.setOther _ _ (by simp; omega), (below_drew BX.out).setCell (by simp) _⟩
            case measure => simp [intOf]; omega
          · have HQ : Hid (∀ r, r < 16 → fmix j (fmax f g) f r = fmix (j + 1) (fmax f g) f r) := by
              intro r _
              unfold fmix
              by_cases e : r = j
              · subst e; simp [fmax, Hx.out, Hy.out, h]
              · by_cases e' : r < j
                · simp [e']; omega
                · simp [e']; omega
            go_wp2_with fail
            go_region
            go_wp2_with fail
            go_roundw
            case rel => exact ⟨j + 1, by omega, by go_num, AXd.out.congr HQ.out, GXd, below_drew BX.out⟩
            case measure => simp [intOf]; omega
        · obtain rfl : j = 16 := by omega
          have A3 := hide (AX.out.congr (fmix_all _ _))
          go_wp2_with fail
          go_roundw
          case rel => exact ⟨k + 1, by omega, by go_num, by rw [HM.out]; exact A3, BX⟩
          case measure => simp [intOf]; omega
    · obtain rfl : k = m := by omega
      have l0 := run_ld55 HA.out
      go_wp2_with fail
      refine (short_any _ _).mono ?_
      rintro e w2 ⟨ao2, n2, c2, rfl, S2, b2⟩
      have B := hide (HB.out.trans (b2.mono HB.out.size))
      have S := hide S2
      clear b2 S2
      go_wp2_with fail
      go_ret
      exact ⟨_, _, _, rfl, S.out, B.out⟩
end Go.Proofs.Ytdilejbdkhkifaa
