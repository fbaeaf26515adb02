/- The reference's check: its contract. -/
import Derived.Test.YtnlklhjmhienkaaGreatDoorARef
namespace Go.Proofs.YtnlklhjmhienkaaGreatDoor.A
open Go.RowKit

theorem int_eq' {k : IntKind} {a b : Int} (h : a = b) : Value.int k a = Value.int k b := by rw [h]
theorem wsum_back (s : ByteArray) (k : Nat) (h : k < s.size) : wsum s.data.toList (s.size - k) = wsum s.data.toList (s.size - (k + 1)) + wt (s.size - (k + 1)) * ((s[k].toNat : Int) - 48) := by
  have e : s.size - k = (s.size - (k + 1)) + 1 := by omega
  rw [e]
  show wsum s.data.toList (s.size - (k + 1)) + wt (s.size - (k + 1)) * (((s.data.toList.reverse.getD (s.size - (k + 1)) 48).toNat : Int) - 48) = _
  rw [rev_at s (s.size - (k + 1)) (by omega)]
  have e2 : s.size - 1 - (s.size - (k + 1)) = k := by omega
  simp only [e2]

set_option maxRecDepth 100000 in
set_option maxHeartbeats 1600000 in
theorem check_any (s : ByteArray) (w : World) (hs : s.size ≤ 14) (hd : allDig s = true) :
    Calls Tryz.prog 59 #[.string s] w fun e w' => e = .returned (.int .i64 (chk s)) ∧ Below w.heap.size w w' := by
  have HD := hide hd
  have hb0 := wsum_bd s hd s.size (Nat.le_refl _)
  clear hd
  obtain ⟨T, HT⟩ : ∃ T, Hid (wsum s.data.toList s.size = T) := ⟨wsum s.data.toList s.size, rfl⟩
  rw [HT.out] at hb0
  go_enter Tryz.func59, Tryz.ntmps59
  go_wp2
  go_loopw [3, 4, 5] (fun t i _ wr => ∃ k : Nat, k ≤ s.size ∧ i = .int .i64 k ∧ t = .int .i64 (T - wsum s.data.toList (s.size - k)) ∧ Below w.heap.size w wr) (fun _ i _ _ => s.size - (intOf i).toNat)
  case atStart => exact ⟨0, Nat.zero_le _, rfl, by rw [Nat.sub_zero, HT.out, Int.sub_self], Below.refl _ _⟩
  case round =>
    obtain ⟨k, hk, rfl, rfl, hb⟩ := hrel
    have hbd := wsum_bd s HD.out (s.size - k) (by omega)
    by_cases hlt : k < s.size
    · have HW := hide (wsum_back s k hlt)
      have hbd2 := wsum_bd s HD.out (s.size - (k + 1)) (by omega)
      have hdg := allDig_at s HD.out k hlt
      obtain ⟨q, hq⟩ : ∃ q, Hid (wsum s.data.toList (s.size - k) = q) := ⟨_, rfl⟩
      obtain ⟨q2, hq2⟩ : ∃ q2, Hid (wsum s.data.toList (s.size - (k + 1)) = q2) := ⟨_, rfl⟩
      rw [hq.out] at hbd HW ⊢
      rw [hq2.out] at hbd2 HW
      obtain ⟨d, hdE⟩ : ∃ d : Int, (s[k].toNat : Int) = d := ⟨_, rfl⟩
      rw [hdE] at hdg HW
      by_cases hpar : (s.size - (k + 1)) % 2 = 0
      · have hp' : ((s.size : Int) - 1 - (k : Int)) % 2 = 0 := by omega
        have hwt : wt (s.size - (k + 1)) = 3 := by unfold wt; rw [if_pos hpar]
        rw [hwt] at HW
        go_wp2
        exact ⟨⟨k + 1, by omega, by go_num, int_eq' (by rw [hq2.out]; have := HW.out; omega), ⟨hb.os, hb.tape, hb.output, hb.size, hb.block⟩⟩, by simp [intOf]; omega⟩
      · have hp' : ((s.size : Int) - 1 - (k : Int)) % 2 = 1 := by omega
        have hp2 : (((s.size : Int) - 1 - (k : Int)) % 2 == 0) = false := by rw [hp']; rfl
        have hwt : wt (s.size - (k + 1)) = 1 := by unfold wt; rw [if_neg hpar]
        rw [hwt] at HW
        go_wp2
        exact ⟨⟨k + 1, by omega, by go_num, int_eq' (by rw [hq2.out]; have := HW.out; omega), ⟨hb.os, hb.tape, hb.output, hb.size, hb.block⟩⟩, by simp [intOf]; omega⟩
    · have ek : k = s.size := by omega
      subst ek
      have e0 : wsum s.data.toList (s.size - s.size) = 0 := by rw [Nat.sub_self]; rfl
      rw [e0, Int.sub_zero]
      have HC : Hid (chk s = (10 - T % 10) % 10) := by show _ = _; unfold chk; rw [HT.out]
      go_wp2
      go_loopw [6] (fun v wr2 => ∃ d : Nat, (d : Int) ≤ (10 - T % 10) % 10 ∧ v = .int .i64 d ∧ Below w.heap.size w wr2) (fun v _ => 10 - (intOf v).toNat)
      case atStart => exact ⟨0, by omega, rfl, hb⟩
      case round =>
        obtain ⟨d, hdl, rfl, hb2⟩ := hrel
        by_cases he : (d : Int) = (10 - T % 10) % 10
        · have h0 : (T + (d : Int)) % 10 = 0 := by omega
          go_wp2
          go_ret
          exact ⟨ret_int (by rw [HC.out]; exact he), hb2⟩
        · have h0 : ¬ (T + (d : Int)) % 10 = 0 := by omega
          have h1 : ((T + (d : Int)) % 10 == 0) = false := by simpa using h0
          have h2 : ((T + (d : Int)) % 10 != 0) = true := by rw [bne, h1]; rfl
          go_wp2
          go_roundw
          case rel => exact ⟨d + 1, by omega, by go_num, hb2⟩
          case measure => simp [intOf]; omega
end Go.Proofs.YtnlklhjmhienkaaGreatDoor.A
