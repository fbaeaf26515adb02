/- span's Last: its contract. -/
import Derived.Test.YtojpjakpcihacaaGreatRNo
import Derived.Test.YtojpjakpcihacaaGreatSQl
namespace Go.Proofs.YtojpjakpcihacaaGreat
open Go.RowKit
attribute [local go_sem ↓] ldR_eq stR_eq
attribute [local go_sem] zero_RC cells_RV RC_size fold_RC

theorem take_snoc (L : List Rn) (k : Nat) (h : k < L.length) : L.take (k + 1) = L.take k ++ [L.getD k rn0] := by
  rw [List.take_succ_eq_append_getElem h]; simp [List.getD, h]
set_option maxRecDepth 100000 in
set_option maxHeartbeats 4000000 in
theorem last_any (ao : Option Addr) (n cap : Nat) (A : List Rn) (w : World) (hS : RSrc w ao n cap A) :
    Calls Tryz.prog 53 #[.slice ao n cap] w fun e w' => ∃ k, e = .returned (.int .i64 k) ∧ Most A k ∧ Below w.heap.size w w' := by
  have HS := hide hS
  clear hS
  go_enter Tryz.func53, Tryz.ntmps53
  go_wp2_with fail
  refine (norm_any ao n cap A _ HS.out).mono ?_
  rintro e w1 ⟨a1, n1, c1, X, rfl, S1, b1, p1⟩
  have HS1 := hide S1
  have HP1 := hide p1
  have HB1 := hide b1
  have HL : Hid (X.length = n1) := S1.len
  have hn := S1.big
  clear S1 b1 p1
  go_wp2_with fail
  go_loopw [3, 9] (fun v i wr => ∃ (k : Nat) (z : Int), k ≤ n1 ∧ v = .int .i64 z ∧ i = .int .i64 k ∧ Hid (Most (X.take k) z ∧ Below w1.heap.size w1 wr)) (fun _ i _ => n1 - (intOf i).toNat)
  case atStart => exact ⟨0, 0, Nat.zero_le _, rfl, rfl, Most.start, Below.refl _ _⟩
  case round =>
    obtain ⟨k, z, hk, rfl, rfl, H⟩ := hrel
    rename World => w4
    by_cases hlt : k < n1
    · obtain ⟨ad, rfl, A0⟩ := (HS1.out.below H.out.2).at k hlt
      have hld := run_ldR A0
      obtain ⟨r, Hr⟩ : ∃ r, Hid (X.getD k rn0 = r) := ⟨_, rfl⟩
      rw [Hr.out] at hld
      have HT := hide (take_snoc X k (by rw [HL.out]; exact hlt))
      rw [Hr.out] at HT
      have HM : Hid (Most (X.take (k + 1)) r.hi) := by
        have := form_take (k + 1) HP1.out.1
        rw [HT.out] at this
        rw [HT.out]; exact Most.last this
      obtain ⟨w5, hst, X5, B5, Z5⟩ := made w4 r w4.heap.size rfl
      have HB5 := hide (H.out.2.trans (B5.mono H.out.2.size))
      have k1 : w5.cell? ⟨w4.heap.size, 1, none⟩ = some (.int .i64 r.hi) := X5.at.c1
      clear A0 X5 B5 Z5
      go_wp2_with fail
      go_roundw
      case rel => exact ⟨k + 1, r.hi, by omega, rfl, by go_num, HM.out, HB5.out⟩
      case measure => simp [intOf]; omega
    · obtain rfl : k = n1 := by omega
      have HF : Hid (Most A z) := by
        have := H.out.1
        rw [List.take_of_length_le (by rw [HL.out]; exact Nat.le_refl _)] at this
        exact this.congr HP1.out.2
      have HBF := hide (HB1.out.trans (H.out.2.mono HB1.out.size))
      go_wp2_with fail
      go_ret
      exact ⟨_, rfl, HF.out, HBF.out⟩
end Go.Proofs.YtojpjakpcihacaaGreat
