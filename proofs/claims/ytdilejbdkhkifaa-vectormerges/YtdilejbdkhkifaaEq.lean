/- The reference's Equal: its contract. -/
import Derived.Test.YtdilejbdkhkifaaOver
namespace Go.Proofs.Ytdilejbdkhkifaa
open Go.RowKit

theorem take_snoc (l : List Int) (k : Nat) (h : k < l.length) : l.take (k + 1) = l.take k ++ [l.getD k 0] := by
  rw [List.take_succ_eq_append_getElem h]; simp [List.getD, h]
theorem Src.at {w : World} {ao : Option Addr} {n c : Nat} {Z : List Int} (S : Src w ao n c Z) (k : Nat) (h : k < n) : ∃ ad, ao = some ad ∧ w.cell? (ad.add k) = some (.int .i64 (Z.getD k 0)) := by
  cases ao with
  | none => have := S.2.1 rfl; omega
  | some ad => exact ⟨ad, rfl, S.2.2 ad rfl k h⟩
theorem src_drew {w : World} {ao : Option Addr} {n c : Nat} {Z : List Int} (S : Src w ao n c Z) : Src w.drew ao n c Z := S

set_option maxHeartbeats 1600000 in
theorem equal_any (ao bo : Option Addr) (n m c d : Nat) (A B : List Int) (w : World) (hA : Src w ao n c A) (hB : Src w bo m d B) (hn : n ≤ maxLen) :
    Calls Try.prog 15 #[.slice ao n c, .slice bo m d] w fun e w' => e = .returned (.bool (decide (A = B))) ∧ Below w.heap.size w w' := by
  have HA := hide hA
  have HB := hide hB
  unfold maxLen at hn
  by_cases hnm : n = m
  · subst hnm
    clear hA hB
    go_enter Try.func15, Try.ntmps15
    go_wp2
    go_loopw [5] (fun i wr => ∃ k : Nat, k ≤ n ∧ i = .int .i64 k ∧ Hid (A.take k = B.take k) ∧ Hid (Below w.heap.size w wr)) (fun i _ => n - (intOf i).toNat)
    case atStart => exact ⟨0, Nat.zero_le _, rfl, rfl, Below.refl _ _⟩
    case round =>
      obtain ⟨k, hk, rfl, HT, HW⟩ := hrel
      by_cases hlt : k < n
      · obtain ⟨ad, rfl, ca⟩ := (HA.out.below HW.out).at k hlt
        obtain ⟨bd, rfl, cb⟩ := (HB.out.below HW.out).at k hlt
        have t1 := hide (take_snoc A k (by have := HA.out.1; omega))
        have t2 := hide (take_snoc B k (by have := HB.out.1; omega))
        obtain ⟨x, HX⟩ : ∃ x, Hid (A.getD k 0 = x) := ⟨_, rfl⟩
        obtain ⟨y, HY⟩ : ∃ y, Hid (B.getD k 0 = y) := ⟨_, rfl⟩
        rw [HX.out] at ca t1
        rw [HY.out] at cb t2
        by_cases he : x = y
        · have he' : (x != y) = false := by simp [he]
          have HE := hide he
          clear he
          go_wp2
          go_region
          go_wp2
          go_roundw
          case rel => exact ⟨k + 1, by omega, by go_num, by show _ = _; rw [t1.out, t2.out, HT.out, HE.out], below_drew HW.out⟩
          case measure => simp [intOf]; omega
        · have he' : (x != y) = true := by simp [he]
          have HF : Hid (decide (A = B) = false) := by
            show _ = _
            rw [decide_eq_false_iff_not]
            rintro rfl
            exact he (HX.out.symm.trans HY.out)
          clear he
          go_wp2
          go_region
          go_wp2
          go_ret
          exact ⟨ret_bool HF.out.symm, below_drew HW.out⟩
      · have HF : Hid (decide (A = B) = true) := by
          show _ = _
          rw [decide_eq_true_iff]
          have h := HT.out
          rwa [List.take_of_length_le (by have := HA.out.1; omega), List.take_of_length_le (by have := HB.out.1; omega)] at h
        go_wp2
        go_ret
        exact ⟨ret_bool HF.out.symm, HW.out⟩
  · have hne : ((n : Int) != (m : Int)) = true := by simp; omega
    have HF : Hid (decide (A = B) = false) := by
      show _ = _
      rw [decide_eq_false_iff_not]
      rintro rfl
      exact hnm (hA.1.symm.trans hB.1)
    clear hnm hA hB
    go_enter Try.func15, Try.ntmps15
    go_wp2
    go_ret
    exact ⟨ret_bool HF.out.symm, Below.refl _ _⟩
end Go.Proofs.Ytdilejbdkhkifaa
