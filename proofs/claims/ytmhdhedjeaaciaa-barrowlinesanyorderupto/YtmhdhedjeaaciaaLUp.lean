/- Lists in form: how long they may be, plain. -/
import Derived.Test.YtmhdhedjeaaciaaLChk
namespace Go.Proofs.Ytmhdhedjeaaciaa
open Go.RowKit

/-- a dot's number among all dots -/
def code (e : En) : Int := e.rep * 1000000000 + e.num
theorem code_lt {x y : En} (hx : ceE x = 0) (hy : ceE y = 0) (h : ahead x y = true) : code x < code y := by
  have bx : ∀ z : En, ceE z = 0 → (0 ≤ z.rep ∧ z.rep < 16) ∧ 1 ≤ z.num ∧ z.num ≤ 1000000000 := by
    intro z hz
    unfold ceE at hz
    by_cases h1 : isR z.rep = false
    · rw [if_pos h1] at hz; omega
    · rw [if_neg h1] at hz
      by_cases h2 : z.num < 1 ∨ 1000000000 < z.num
      · rw [if_pos h2] at hz; omega
      · have h1' : isR z.rep = true := by simpa using h1
        unfold isR at h1'
        simp at h1'
        exact ⟨h1', by omega, by omega⟩
  have b1 := bx x hx
  have b2 := bx y hy
  simp [ahead] at h
  unfold code
  omega
theorem code_bd {z : En} (hz : ceE z = 0) : 1 ≤ code z ∧ code z ≤ 16000000000 := by
  unfold ceE at hz
  by_cases h1 : isR z.rep = false
  · rw [if_pos h1] at hz; omega
  · rw [if_neg h1] at hz
    by_cases h2 : z.num < 1 ∨ 1000000000 < z.num
    · rw [if_pos h2] at hz; omega
    · have h1' : isR z.rep = true := by simpa using h1
      unfold isR at h1'
      simp at h1'
      unfold code
      omega
theorem okN_at (L : List En) (n : Nat) (h : okN L n = true) (k : Nat) (hk : k < n) : okAt L k = true := by
  unfold okN at h
  exact List.all_eq_true.1 h k (List.mem_range.2 hk)
theorem chk_zero {L : List En} (h : chk L = 0) : okN L L.length = true := by
  unfold chk at h
  by_cases e : okN L L.length = true
  · exact e
  · rw [if_neg e] at h; omega
theorem chk_len {L : List En} (h : chk L = 0) : L.length ≤ 16000000000 := by
  have ho := chk_zero h
  have key : ∀ k, k < L.length → ((k : Nat) : Int) + 1 ≤ code (L.getD k en0) := by
    intro k
    induction k with
    | zero =>
      intro hk
      have := okN_at L _ ho 0 hk
      simp [okAt] at this
      have := code_bd this
      simpa using this.1
    | succ k ih =>
      intro hk
      have h1 := okN_at L _ ho (k + 1) hk
      have h0 := okN_at L _ ho k (by omega)
      simp only [okAt, Bool.and_eq_true, beq_iff_eq, Bool.or_eq_true, decide_eq_true_eq, Nat.add_sub_cancel] at h0 h1
      have ha : ahead (L.getD k en0) (L.getD (k + 1) en0) = true := by
        rcases h1.2 with e | e
        · omega
        · exact e
      have := code_lt h0.1 h1.1 ha
      have := ih (by omega)
      omega
  rcases Nat.eq_zero_or_pos L.length with h0 | h0
  · omega
  · have h1 := key (L.length - 1) (by omega)
    have h2 := okN_at L _ ho (L.length - 1) (by omega)
    simp only [okAt, Bool.and_eq_true, beq_iff_eq] at h2
    have := (code_bd h2.1).2
    omega
end Go.Proofs.Ytmhdhedjeaaciaa
