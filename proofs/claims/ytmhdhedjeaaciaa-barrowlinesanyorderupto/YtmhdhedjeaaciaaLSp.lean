/- Sorted lists and unions, plain: what follows for lists with the same members. -/
import Derived.Test.YtmhdhedjeaaciaaLUn
import Derived.Test.YtmhdhedjeaaciaaLSo2
namespace Go.Proofs.Ytmhdhedjeaaciaa
open Go.RowKit

theorem first_iff (L : List En) : firstE L = 0 ↔ ∀ e ∈ L, ceE e = 0 := by
  induction L with
  | nil => simp [firstE]
  | cons a L ih =>
    by_cases h : ceE a = 0
    · rw [firstE, if_pos h, ih]; simp [h]
    · rw [firstE, if_neg h]; simp [h]
theorem Clash.sub {A B : List En} (h : Clash A) (hm : ∀ x, x ∈ A → x ∈ B) : Clash B := by
  obtain ⟨x, hx, y, hy, hs, hne⟩ := h
  exact ⟨x, hm x hx, y, hm y hy, hs, hne⟩
/-- what Sort answers, where it answers no error -/
theorem sorted_zero {L R : List En} {er : Int} (h : Sorted L R er) (he : er = 0) : (∀ e ∈ L, ceE e = 0) ∧ ¬ Clash L ∧ Asc R ∧ ∀ x, x ∈ R ↔ x ∈ L := by
  rcases h with ⟨a, b, c⟩ | ⟨a, b⟩
  · exact absurd (c.symm.trans he) a
  · rcases b with ⟨_, _, h10⟩ | ⟨h1, _, h3, h4⟩
    · omega
    · exact ⟨(first_iff L).1 a, h1, h3, h4⟩
theorem sorted_none {L R : List En} {er : Int} (h : Sorted L R er) (he : er ≠ 0) : R = [] := by
  rcases h with ⟨_, b, _⟩ | ⟨_, b⟩
  · exact b
  · rcases b with ⟨_, h2, _⟩ | ⟨_, h2, _⟩
    · exact h2
    · exact absurd h2 he
theorem sorted_mk {L R : List En} (hc : ∀ e ∈ L, ceE e = 0) (hn : ¬ Clash L) (ha : Asc R) (hm : ∀ x, x ∈ R ↔ x ∈ L) : Sorted L R 0 :=
  Or.inr ⟨(first_iff L).2 hc, Or.inr ⟨hn, rfl, ha, hm⟩⟩
theorem sorted_good {L R : List En} {er : Int} (hc : ∀ e ∈ L, ceE e = 0) (hn : ¬ Clash L) (h : Sorted L R er) : er = 0 ∧ Asc R ∧ ∀ x, x ∈ R ↔ x ∈ L := by
  rcases h with ⟨a, _⟩ | ⟨_, b⟩
  · exact absurd ((first_iff L).2 hc) a
  · rcases b with ⟨h1, _⟩ | ⟨_, h2, h3, h4⟩
    · exact absurd h1 hn
    · exact ⟨h2, h3, h4⟩
theorem chk_asc {R : List En} (ha : Asc R) (hc : ∀ e ∈ R, ceE e = 0) : chk R = 0 := by
  have key : okN R R.length = true := by
    unfold okN
    rw [List.all_eq_true]
    intro k hk
    have hk' := List.mem_range.1 hk
    unfold okAt
    rw [Bool.and_eq_true]
    refine ⟨?_, ?_⟩
    · rw [beq_iff_eq]; exact hc _ (getD_mem R k hk')
    · cases k with
      | zero => rfl
      | succ j =>
        have h := List.pairwise_iff_getElem.1 ha j (j + 1) (by omega) hk' (by omega)
        have e1 : R.getD j en0 = R[j] := by simp [List.getD, show j < R.length by omega]
        have e2 : R.getD (j + 1) en0 = R[j + 1] := by simp [List.getD, hk']
        simp only [Nat.add_sub_cancel, e1, e2, h, Bool.or_true]
  unfold chk; rw [if_pos key]
theorem chk_asc' {R : List En} (h : chk R = 0) : Asc R := by
  refine asc_of_adj R (fun i hi => ?_)
  have := okN_at R _ (chk_zero h) (i + 1) hi
  unfold okAt at this
  rw [Bool.and_eq_true] at this
  simpa using this.2
/-- the union of two sorted pieces -/
theorem union_of {A B R U : List En} {er : Int} (hA : Asc A) (hB : Asc B) (hc : ∀ e ∈ R, ceE e = 0) (hR : Asc R) (hm : ∀ x, x ∈ R ↔ x ∈ A ∨ x ∈ B) (h : UnionOf A B U er) : er = 0 ∧ U = R := by
  have ca : chk A = 0 := chk_asc hA (fun e he => hc e ((hm e).2 (Or.inl he)))
  have cb : chk B = 0 := chk_asc hB (fun e he => hc e ((hm e).2 (Or.inr he)))
  have hmm : ∀ x, x ∈ R ↔ x ∈ A ++ B := fun x => by rw [hm, List.mem_append]
  rcases h with ⟨h, _⟩ | ⟨_, h⟩
  · exact absurd ⟨ca, cb⟩ h
  · rcases h with ⟨h1, _⟩ | ⟨_, h2, h3, h4⟩
    · exact absurd h1 (asc_noclash hR hmm)
    · exact ⟨h2, asc_unique h3 hR (fun x => (h4 x).trans (hmm x).symm)⟩
end Go.Proofs.Ytmhdhedjeaaciaa
