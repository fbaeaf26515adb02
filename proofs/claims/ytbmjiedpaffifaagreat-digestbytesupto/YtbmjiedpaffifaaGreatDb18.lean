/- URd -/
import Derived.Test.YtbmjiedpaffifaaGreatDb17
import Derived.OwnWalk
namespace Go.Proofs.YtbmjiedpaffifaaGreat.U
open Go.RowKit

theorem cell_at {w : World} {ao : Option Addr} {n cap : Nat} {Z : List Int} (hS : Src w ao n cap Z) (t : Nat) (ht : t < n) : ∃ ad, ao = some ad ∧ w.cell? (ad.add t) = some (.int .u8 (Z.getD t 0)) := by
  cases ao with
  | none => have := hS.2.1 rfl; omega
  | some ad => exact ⟨ad, rfl, hS.2.2.1 ad rfl t ht⟩
def p3 (x : Int × Int × Int) : Ending := .returned (.tuple #[.int .i64 x.1, .int .i64 x.2.1, .int .i64 x.2.2])
theorem scan_end (Z : List Int) (a f k : Nat) (h : Z.length ≤ a + k) : scan Z a (f + 1) k = (0, 0, 50) := by rw [scan, if_pos h]
theorem scan_on (Z : List Int) (a f k : Nat) (h : ¬ Z.length ≤ a + k) (h2 : ¬ Z.getD (a + k) 0 < 128) : scan Z a (f + 1) k = scan Z a f (k + 1) := by rw [scan, if_neg h, if_neg h2]
theorem scan_bad (Z : List Int) (a f k : Nat) (h : ¬ Z.length ≤ a + k) (h2 : Z.getD (a + k) 0 = 0) (h3 : 0 < k) : scan Z a (f + 1) k = (0, 0, 51) := by rw [scan, if_neg h, if_pos (by omega), if_pos ⟨h2, h3⟩]
theorem scan_good (Z : List Int) (a f k : Nat) (h : ¬ Z.length ≤ a + k) (h2 : Z.getD (a + k) 0 < 128) (h3 : ¬ (Z.getD (a + k) 0 = 0 ∧ 0 < k)) : scan Z a (f + 1) k = (val Z a (k + 1), (k : Int) + 1, 0) := by rw [scan, if_neg h, if_pos h2, if_neg h3]

/-- ReadNum's answer -/
def rdA (Z : List Int) (a : Nat) : Int × Int × Int := if (rdN Z a).2.2 = 0 then ((rdN Z a).1, (a : Int) + (rdN Z a).2.1, 0) else rdN Z a

theorem pow_le (k : Nat) (h : k ≤ 8) : (128 : Int) ^ k * 128 ≤ 9223372036854775808 := by
  have : (128 : Nat) ^ k ≤ 128 ^ 8 := Nat.pow_le_pow_right (by omega) h
  have h2 : ((128 ^ k : Nat) : Int) ≤ ((128 ^ 8 : Nat) : Int) := by exact_mod_cast this
  simp at h2
  omega
theorem step_val (Z : List Int) (a k : Nat) (hk : k ≤ 8) (z c V U : Int) (hz : Z.getD (a + k) 0 = z) (hc : c = z % 128) (hV : val Z a k = V) (hU : (128 : Int) ^ k = U) :
    val Z a (k + 1) = V + c * U ∧ 0 ≤ V ∧ 0 ≤ c * U ∧ V + c * U < 9223372036854775808 ∧ 1 ≤ U ∧ U * 128 ≤ 9223372036854775808 := by
  have b1 := val_bd Z a k
  have b2 := val_bd Z a (k + 1)
  have e : val Z a (k + 1) = V + c * U := by rw [hc, ← hz, ← hV, ← hU]; rfl
  have p1 := pow_le k hk
  have p2 := pow128 k
  rw [Int.pow_succ, e, hU] at b2
  rw [hV] at b1
  rw [hU] at p1 p2
  have h0 : 0 ≤ c * U := Int.mul_nonneg (by omega) (by omega)
  exact ⟨e, b1.1, h0, by omega, by omega, p1⟩

set_option maxHeartbeats 1600000 in
theorem refRead_any (ao : Option Addr) (n cap : Nat) (Z : List Int) (a : Nat) (w : World) (hS : Src w ao n cap Z) (ha : a ≤ n) (hn : n ≤ 4611686018427387904) :
    Calls Tryz.prog 55 #[.slice ao n cap, .int .i64 a] w fun e w' => e = p3 (rdA Z a) ∧ w' = w := by

  go_enter Tryz.func55, Tryz.ntmps55
  go_wp2
  go_loop [7, 8, 9] (fun s t i => ∃ k : Nat, k ≤ 9 ∧ s = .int .i64 (val Z a k) ∧ t = .int .i64 (128 ^ (min k 8)) ∧ i = .int .i64 k ∧ Hid (scan Z a (9 - k) k = rdN Z a)) (fun _ _ i => 9 - (intOf i).toNat)
  case atStart => exact ⟨0, Nat.zero_le _, rfl, rfl, rfl, rfl⟩
  case round =>
    obtain ⟨k, hk, rfl, rfl, rfl, HK⟩ := hrel
    obtain ⟨V, HV⟩ : ∃ V, Hid (val Z a k = V) := ⟨_, rfl⟩
    obtain ⟨U, HU⟩ : ∃ U : Int, Hid ((128 : Int) ^ (min k 8) = U) := ⟨_, rfl⟩
    rw [HV.out, HU.out]
    by_cases h9 : k = 9
    · subst h9
      have HF : Hid (rdA Z a = (0, 0, 51)) := by show _ = _; unfold rdA; rw [← HK.out]; rfl
      go_wp2
      go_ret3
      exact ⟨by rw [HF.out]; rfl, rfl⟩
    · have h8 : k ≤ 8 := by omega
      have hmin : min k 8 = k := by omega
      rw [hmin] at HU
      have hf : 9 - k = (9 - (k + 1)) + 1 := by omega
      rw [hf] at HK
      by_cases hlt : a + k < n
      · have hl : ¬ Z.length ≤ a + k := by have := hS.1; omega
        obtain ⟨ad, rfl, hcell⟩ := cell_at hS (a + k) hlt
        have hbd := hS.2.2.2 (a + k)
        obtain ⟨z, Hz⟩ : ∃ z, Hid (Z.getD (a + k) 0 = z) := ⟨_, rfl⟩
        rw [Hz.out] at hcell hbd
        have HL := hide hl
        clear hl hf hmin
        by_cases h1 : z < 128
        · obtain ⟨e1, v0, c0, c1, _, _⟩ := step_val Z a k h8 z z V U Hz.out (by omega) HV.out HU.out
          have HE := hide e1
          clear e1
          by_cases h0 : z = 0 ∧ 0 < k
          · have HF : Hid (rdA Z a = (0, 0, 51)) := by show _ = _; unfold rdA; rw [← HK.out, scan_bad Z a _ k HL.out (by rw [Hz.out]; exact h0.1) h0.2]; rfl
            have hk0 := h0.2
            have h0' : (z == 0) = true := by simpa using h0.1
            clear h0
            go_wp2
            go_ret3
            exact ⟨by rw [HF.out]; rfl, rfl⟩
          · have HF : Hid (rdA Z a = (val Z a (k + 1), (a : Int) + ((k : Int) + 1), 0)) := by show _ = _; unfold rdA; rw [← HK.out, scan_good Z a _ k HL.out (by rw [Hz.out]; exact h1) (by rw [Hz.out]; exact h0)]; rfl
            rw [HE.out] at HF
            by_cases hz0 : z = 0
            · have hk0 : ¬ 0 < k := fun h => h0 ⟨hz0, h⟩
              have h0' : (z == 0) = true := by simpa using hz0
              clear h0 hz0
              go_wp2
              go_ret3
              exact ⟨by rw [HF.out]; exact ret_three rfl (by show (a : Int) + k + 1 = a + (k + 1); omega) rfl, rfl⟩
            · have h0' : (z == 0) = false := by simpa using hz0
              clear h0 hz0
              go_wp2
              go_ret3
              exact ⟨by rw [HF.out]; exact ret_three rfl (by show (a : Int) + k + 1 = a + (k + 1); omega) rfl, rfl⟩
        · obtain ⟨e1, v0, c0, c1, u0, u1⟩ := step_val Z a k h8 z (z - 128) V U Hz.out (by omega) HV.out HU.out
          have HE := hide e1
          clear e1
          have HN : Hid (scan Z a (9 - (k + 1)) (k + 1) = rdN Z a) := by show _ = _; rw [← HK.out, scan_on Z a _ k HL.out (by rw [Hz.out]; exact h1)]
          by_cases h7 : k < 8
          · have HP : Hid ((128 : Int) ^ (min (k + 1) 8) = U * 128) := by show _ = _; rw [show min (k + 1) 8 = k + 1 by omega, Int.pow_succ, HU.out]
            have u2 : U * 128 < 9223372036854775808 := by have := pow_le (k + 1) (by omega); rw [Int.pow_succ, HU.out] at this; omega
            go_wp2
            go_round
            case rel => exact ⟨k + 1, by omega, by rw [HE.out], by rw [HP.out], by go_num, HN⟩
            case measure => simp [intOf]; omega
          · have HP : Hid ((128 : Int) ^ (min (k + 1) 8) = U) := by show _ = _; rw [show min (k + 1) 8 = k by omega, HU.out]
            go_wp2
            go_round
            case rel => exact ⟨k + 1, by omega, by rw [HE.out], by rw [HP.out], by go_num, HN⟩
            case measure => simp [intOf]; omega
      · have HF : Hid (rdA Z a = (0, 0, 50)) := by show _ = _; unfold rdA; rw [← HK.out, scan_end Z a _ k (by have := hS.1; omega)]; rfl
        go_wp2
        go_ret3
        exact ⟨by rw [HF.out]; rfl, rfl⟩
end Go.Proofs.YtbmjiedpaffifaaGreat.U
