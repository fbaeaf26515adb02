/- Two lists in form without a dot in common: their union, plain. -/
import Derived.Test.YtmhdhedjeaaciaaLSp
import Derived.Test.YtmhdhedjeaaciaaLAp
namespace Go.Proofs.Ytmhdhedjeaaciaa
open Go.RowKit

theorem asc_nodup {R : List En} (h : Asc R) : R.Nodup := h.imp (fun {a b} hab e => by subst e; rw [ahead_irr] at hab; cases hab)
theorem asc_dot {R : List En} (h : Asc R) {x y : En} (hx : x ∈ R) (hy : y ∈ R) (hs : sameDot x y = true) : x = y := by
  refine Classical.byContradiction fun hne => ?_
  exact asc_noclash h (fun _ => Iff.rfl) ⟨x, hx, y, hy, hs, hne⟩
/-- no dot in common -/
def Far (A B : List En) : Prop := ∀ x ∈ A, ∀ y ∈ B, sameDot y x = false
theorem same_refl (x : En) : sameDot x x = true := by simp [sameDot]
theorem far_noclash {A B : List En} (hA : Asc A) (hB : Asc B) (h : Far A B) : ¬ Clash (A ++ B) := by
  rintro ⟨x, hx, y, hy, hs, hne⟩
  rcases List.mem_append.1 hx with hx | hx <;> rcases List.mem_append.1 hy with hy | hy
  · exact hne (asc_dot hA hx hy hs)
  · have := h x hx y hy; rw [same_symm, hs] at this; cases this
  · have := h y hy x hx; rw [hs] at this; cases this
  · exact hne (asc_dot hB hx hy hs)
theorem far_perm {A B U : List En} (hA : Asc A) (hB : Asc B) (hU : Asc U) (h : Far A B) (hm : ∀ x, x ∈ U ↔ x ∈ A ++ B) : U.Perm (A ++ B) := by
  refine (List.perm_ext_iff_of_nodup (asc_nodup hU) ?_).2 hm
  refine List.nodup_append.2 ⟨asc_nodup hA, asc_nodup hB, fun a ha b hb e => ?_⟩
  subst e
  have := h a ha a hb
  rw [same_refl] at this
  cases this
theorem sq_perm (q : En → Int) {A B : List En} (h : A.Perm B) : sq q A = sq q B := by
  induction h with
  | nil => rfl
  | cons x _ ih => simp only [sq, ih]
  | swap x y l => simp only [sq]; omega
  | trans _ _ h1 h2 => exact h1.trans h2
theorem sq_append (q : En → Int) (A B : List En) : sq q (A ++ B) = sq q A + sq q B := by
  induction A with
  | nil => simp [sq]
  | cons a A ih => simp only [List.cons_append, sq, ih]; omega
/-- what LinesFolds asks -/
structure Folds (A B U : List En) : Prop where
  len : U.length = A.length + B.length
  chk : chk U = 0
  q : ∀ s, (lineOf U s).qty = (lineOf A s).qty + (lineOf B s).qty
  p : ∀ s, (lineOf U s).parts = (lineOf A s).parts + (lineOf B s).parts
  t : ttl U = ttl A + ttl B
theorem folds_of {A B U : List En} {er : Int} (ha : chk A = 0) (hb : chk B = 0) (h : Far A B) (hu : UnionOf A B U er) : er = 0 ∧ Folds A B U := by
  have aA := chk_asc' ha
  have aB := chk_asc' hb
  rcases hu with ⟨h', _⟩ | ⟨_, hs⟩
  · exact absurd ⟨ha, hb⟩ h'
  · rcases hs with ⟨hc, _⟩ | ⟨_, h0, aU, hm⟩
    · exact absurd hc (far_noclash aA aB h)
    · have hp := far_perm aA aB aU h hm
      have hof : ∀ s, (ofS U s).Perm (ofS A s ++ ofS B s) := fun s => by
        have := hp.filter (fun e => eqS e.sku s)
        rwa [List.filter_append] at this
      refine ⟨h0, ⟨by rw [hp.length_eq, List.length_append], ?_, fun s => ?_, fun s => ?_, ?_⟩⟩
      · refine chk_asc aU (fun e he => ?_)
        rcases List.mem_append.1 ((hm e).1 he) with h | h
        · exact chk_ce ha e h
        · exact chk_ce hb e h
      · rw [(line_sums U s).1, (line_sums A s).1, (line_sums B s).1, sq_perm qOf (hof s), sq_append]
      · rw [(line_sums U s).2, (line_sums A s).2, (line_sums B s).2, sq_perm oneOf (hof s), sq_append]
      · rw [← sq_qty, ← sq_qty, ← sq_qty, sq_perm qOf hp, sq_append]
theorem of_good {L : List En} (hc : chk L = 0) {s : ByteArray} (h : good s.data.toList = true) : ofE L s = 0 ∧ lnV L s = lineOf L s := by
  have h1 : ofE L s = 0 := by unfold ofE; rw [if_pos hc, if_pos h]
  exact ⟨h1, by unfold lnV; rw [if_pos h1]⟩
end Go.Proofs.Ytmhdhedjeaaciaa
