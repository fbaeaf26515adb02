/- IsNorm: its contract. -/
import Derived.Test.YthehbnfkobkciaaRNo
namespace Go.Proofs.Ythehbnfkobkciaa
open Go.RowKit
attribute [local go_sem ↓] ldR_eq stR_eq
attribute [local go_sem] zero_RC cells_RV RC_size fold_RC

def isForm (l : Int) : List Rn → Bool
  | [] => true
  | r :: a => decide (l ≤ r.lo) && decide (r.lo ≤ r.hi) && decide (r.hi ≤ 1000000000) && isForm (r.hi + 2) a
theorem isForm_iff : ∀ (a : List Rn) (l : Int), isForm l a = true ↔ form l a
  | [], _ => ⟨fun _ => trivial, fun _ => rfl⟩
  | r :: a, l => by simp only [isForm, form, Bool.and_eq_true, decide_eq_true_eq, isForm_iff a (r.hi + 2)]; exact ⟨fun ⟨⟨⟨a, b⟩, c⟩, d⟩ => ⟨a, b, c, d⟩, fun ⟨a, b, c, d⟩ => ⟨⟨⟨a, b⟩, c⟩, d⟩⟩
set_option maxRecDepth 100000 in
set_option maxHeartbeats 4000000 in
theorem isNorm_any (ao : Option Addr) (n cap : Nat) (L : List Rn) (w : World) (hS : RSrc w ao n cap L) :
    Calls Try.prog 9 #[.slice ao n cap] w fun e w' => e = .returned (.bool (isForm 1 L)) ∧ Below w.heap.size w w' := by
  have HS := hide hS
  have hn := hS.big
  have HL : Hid (L.length = n) := hS.len
  clear hS
  go_enter Try.func9, Try.ntmps9
  go_wp2_with fail
  go_loopw [3, 5, 8] (fun v _ i wr => ∃ (k : Nat) (l : Int), k ≤ n ∧ 1 ≤ l ∧ v = .int .i64 l ∧ i = .int .i64 k ∧ Hid (isForm l (L.drop k) = isForm 1 L ∧ Below w.heap.size w wr)) (fun _ _ i _ => n - (intOf i).toNat)
  case atStart => exact ⟨0, 1, Nat.zero_le _, Int.le_refl _, rfl, rfl, rfl, Below.refl _ _⟩
  case round =>
    obtain ⟨k, l, hk, hl1, rfl, rfl, H⟩ := hrel
    rename World => w4
    by_cases hlt : k < n
    · obtain ⟨ad, rfl, A0⟩ := (HS.out.below H.out.2).at k hlt
      have hld := run_ldR A0
      obtain ⟨r, Hr⟩ : ∃ r, Hid (L.getD k rn0 = r) := ⟨_, rfl⟩
      rw [Hr.out] at hld
      have hkl : k < L.length := by rw [HL.out]; exact hlt
      have HD : Hid (L.drop k = r :: L.drop (k + 1)) := by show _ = _; rw [List.drop_eq_getElem_cons hkl, show L[k] = r by rw [← Hr.out]; simp [List.getD, hkl]]
      obtain ⟨w5, hst, X5, B5, Z5⟩ := made w4 r w4.heap.size rfl
      have HB5 := hide (H.out.2.trans (B5.mono H.out.2.size))
      have c0 := X5.at.c0
      have c1 : w5.cell? ⟨w4.heap.size, 1, none⟩ = some (.int .i64 r.hi) := X5.at.c1
      clear A0 X5 B5 hkl
      obtain ⟨lo, hi⟩ := r
      simp only at c0 c1
      by_cases h1 : lo < l
      · have HF : Hid (isForm 1 L = false) := by show _ = _; rw [← H.out.1, HD.out]; simp only [isForm]; rw [decide_eq_false (by omega)]; rfl
        go_wp2_with fail
        go_ret
        exact ⟨ret_bool HF.out.symm, HB5.out⟩
      · by_cases h2 : hi < lo
        · have HF : Hid (isForm 1 L = false) := by show _ = _; rw [← H.out.1, HD.out]; simp only [isForm]; rw [decide_eq_false (show ¬ lo ≤ hi by omega)]; simp
          go_wp2_with fail
          go_ret
          exact ⟨ret_bool HF.out.symm, HB5.out⟩
        · by_cases h3 : 1000000000 < hi
          · have HF : Hid (isForm 1 L = false) := by show _ = _; rw [← H.out.1, HD.out]; simp only [isForm]; rw [decide_eq_false (show ¬ hi ≤ 1000000000 by omega)]; simp
            go_wp2_with fail
            go_ret
            exact ⟨ret_bool HF.out.symm, HB5.out⟩
          · have HN : Hid (isForm (hi + 2) (L.drop (k + 1)) = isForm 1 L) := by show _ = _; rw [← H.out.1, HD.out]; simp only [isForm]; rw [decide_eq_true (show l ≤ lo by omega), decide_eq_true (show lo ≤ hi by omega), decide_eq_true (show hi ≤ 1000000000 by omega)]; simp
            go_wp2_with fail
            go_roundw
            case rel => exact ⟨k + 1, hi + 2, by omega, by omega, by go_num, by go_num, HN.out, HB5.out⟩
            case measure => simp [intOf]; omega
    · obtain rfl : k = n := by omega
      have HF : Hid (isForm 1 L = true) := by show _ = _; rw [← H.out.1, List.drop_eq_nil_of_le (by rw [HL.out]; exact Nat.le_refl _)]; rfl
      go_wp2_with fail
      go_ret
      exact ⟨ret_bool HF.out.symm, H.out.2⟩
end Go.Proofs.Ythehbnfkobkciaa
