/- checkDigit: its contract. -/
import Derived.Test.YtnlklhjmhienkaaGreatDoorANum
namespace Go.Proofs.YtnlklhjmhienkaaGreatDoor.A
open Go.RowKit

/-- the weight at place i, counted from the last digit -/
def wt (i : Nat) : Int := if i % 2 = 0 then 3 else 1
/-- the k last digits, weighted and summed -/
def wsum (l : List UInt8) : Nat → Int
  | 0 => 0
  | k + 1 => wsum l k + wt k * (((l.reverse.getD k 48).toNat : Int) - 48)
def chk (s : ByteArray) : Int := (10 - wsum s.data.toList s.size % 10) % 10

theorem wt_bd (i : Nat) : 1 ≤ wt i ∧ wt i ≤ 3 := by unfold wt; split <;> omega
theorem rev_at (s : ByteArray) (k : Nat) (h : k < s.size) : s.data.toList.reverse.getD k 48 = s[s.size - 1 - k] := by
  have e : s.data.toList.length = s.size := by simp
  rw [List.getD, List.getElem?_reverse (by omega), e]
  rw [List.getElem?_eq_getElem (by omega)]; rfl
theorem wsum_bd (s : ByteArray) (h : allDig s = true) (k : Nat) (hk : k ≤ s.size) : 0 ≤ wsum s.data.toList k ∧ wsum s.data.toList k ≤ 27 * k := by
  induction k with
  | zero => simp [wsum]
  | succ k ih =>
    have h1 := ih (by omega)
    have h2 := allDig_at s h (s.size - 1 - k) (by omega)
    unfold wsum
    rw [rev_at s k (by omega)]
    generalize ((s[s.size - 1 - k]'(by omega)).toNat : Int) = d at h2
    generalize wsum s.data.toList k = q at *
    unfold wt; split <;> omega

theorem cellsW (w : World) (k : Nat) (h : k < 13) : (w.alloc (.cells #[.int .i64 3, .int .i64 1, .int .i64 3, .int .i64 1, .int .i64 3, .int .i64 1, .int .i64 3, .int .i64 1, .int .i64 3, .int .i64 1, .int .i64 3, .int .i64 1, .int .i64 3] 83)).cell? ⟨w.heap.size, k, none⟩ = some (.int .i64 (wt k)) := by
  match k, h with
  | 0, _ => simp [wt]
  | 1, _ => simp [wt]
  | 2, _ => simp [wt]
  | 3, _ => simp [wt]
  | 4, _ => simp [wt]
  | 5, _ => simp [wt]
  | 6, _ => simp [wt]
  | 7, _ => simp [wt]
  | 8, _ => simp [wt]
  | 9, _ => simp [wt]
  | 10, _ => simp [wt]
  | 11, _ => simp [wt]
  | 12, _ => simp [wt]

set_option maxRecDepth 100000 in
set_option maxHeartbeats 1600000 in
theorem checkDigit_any (s : ByteArray) (w : World) (hs : s.size ≤ 13) (hd : allDig s = true) :
    Calls Tryz.prog 57 #[.string s] w fun e w' => e = .returned (.int .i64 (chk s)) ∧ Below w.heap.size w w' := by
  have HD := hide hd
  clear hd
  go_enter Tryz.func57, Tryz.ntmps57
  go_wp2
  go_loopw [5, 13] (fun t i wr => ∃ k : Nat, k ≤ s.size ∧ i = .int .i64 k ∧ t = .int .i64 (wsum s.data.toList k) ∧ Hid (∀ j, j < 13 → wr.cell? ⟨w.heap.size, j, none⟩ = some (.int .i64 (wt j))) ∧ Below w.heap.size w wr) (fun _ i _ => s.size - (intOf i).toNat)
  case atStart => exact ⟨0, Nat.zero_le _, rfl, rfl, fun j hj => cellsW w j hj, (Below.refl _ _).alloc (Nat.le_refl _) _⟩
  case round =>
    obtain ⟨k, hk, rfl, rfl, HC, hb⟩ := hrel
    have hbd := wsum_bd s HD.out k hk
    by_cases hlt : k < s.size
    · have hcell := HC.out k (by omega)
      have hw := wt_bd k
      have HR := hide (rev_at s k hlt)
      have hdg := allDig_at s HD.out (s.size - 1 - k) (by omega)
      obtain ⟨c, hc⟩ : ∃ c, Hid (wt k = c) := ⟨_, rfl⟩
      obtain ⟨q, hq⟩ : ∃ q, Hid (wsum s.data.toList k = q) := ⟨_, rfl⟩
      rw [hc.out] at hcell hw
      rw [hq.out] at hbd ⊢
      have hi : ((s.size : Int) - 1 - (k : Int)).toNat = s.size - 1 - k := by omega
      have hA : (k : Int) ≤ (s.size : Int) - 1 := by omega
      obtain ⟨d, hd⟩ : ∃ d : Int, ((s[s.size - 1 - k]'(by omega)).toNat : Int) = d := ⟨_, rfl⟩
      rw [hd] at hdg
      have HW : Hid (wsum s.data.toList (k + 1) = q + c * (d - 48)) := by
        show wsum s.data.toList k + wt k * (((s.data.toList.reverse.getD k 48).toNat : Int) - 48) = _
        rw [hq.out, hc.out, HR.out, hd]
      have hm1 : 0 ≤ c * (d - 48) := Int.mul_nonneg (by omega) (by omega)
      have hm2 : c * (d - 48) ≤ 27 := by
        have : c * (d - 48) ≤ 3 * 9 := Int.mul_le_mul (by omega) (by omega) (by omega) (by omega)
        omega
      go_wp2
      go_quiet (fail)
      go_wp2
      go_roundw
      case rel => exact ⟨k + 1, by omega, by go_num, by rw [HW.out], HC, hb.trans ⟨rfl, rfl, rfl, Nat.le_refl _, fun _ _ => rfl⟩⟩
      case measure => simp [intOf]; omega
    · have ek : k = s.size := by omega
      subst ek
      obtain ⟨q, hq⟩ : ∃ q, Hid (wsum s.data.toList s.size = q) := ⟨_, rfl⟩
      rw [hq.out] at hbd ⊢
      have HR : Hid ((10 - q % 10) % 10 = chk s) := by show _ = _; unfold chk; rw [hq.out]
      go_wp2
      go_ret
      exact ⟨ret_int HR.out, hb⟩
end Go.Proofs.YtnlklhjmhienkaaGreatDoor.A
