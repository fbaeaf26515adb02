/- awake: it answers true. -/
import Derived.Test.YtmhdhedjeaaciaaLLi
namespace Go.Proofs.Ytmhdhedjeaaciaa
open Go.RowKit
def someR : List Ln := [⟨bA, 6, 2⟩, ⟨bB, 2, 1⟩]
theorem some_chk : chk someL = 0 := by decide +kernel
theorem some_lines : LinesOf someL someR 0 := by
  have aa : eqS bA bA = true := (eqS_iff _ _).2 rfl
  have bb : eqS bB bB = true := (eqS_iff _ _).2 rfl
  have ab : eqS bA bB = false := (eqS_no _ _).2 (by decide)
  have ba : eqS bB bA = false := (eqS_no _ _).2 (by decide)
  have h1 : lineOf someL bA = ⟨bA, 6, 2⟩ := by simp [lineOf, ofS, someL, List.filter, aa, ba, addL, ln0]
  have h2 : lineOf someL bB = ⟨bB, 2, 1⟩ := by simp [lineOf, ofS, someL, List.filter, bb, ab, addL, ln0]
  refine Or.inr ⟨some_chk, rfl, ?_, fun l => ?_⟩
  · refine List.pairwise_cons.2 ⟨fun y hy => ?_, List.pairwise_singleton _ _⟩
    simp at hy; subst hy; decide
  · simp only [someR, someL, List.mem_cons, List.not_mem_nil, or_false]
    constructor
    · rintro (rfl | rfl)
      · exact ⟨⟨0, 3, bA, 5⟩, Or.inl rfl, h1.symm⟩
      · exact ⟨⟨1, 1, bB, 2⟩, Or.inr (Or.inl rfl), h2.symm⟩
    · rintro ⟨e, rfl | rfl | rfl, rfl⟩
      · exact Or.inl h1
      · exact Or.inr h2
      · exact Or.inl h1
set_option maxRecDepth 100000 in
set_option maxHeartbeats 4000000 in
theorem awake_any (w : World) : Calls Try.prog 8 #[] w fun e w' => e = .returned (.bool true) ∧ Below w.heap.size w w' := by
  go_enter Try.func8, Try.ntmps8
  go_wp2_with fail
  refine (some_any _).mono ?_
  rintro x w1 ⟨a1, n1, c1, rfl, S1, b1, f1⟩
  have HS1 := hide S1
  have HB1 := hide b1
  clear S1 b1 f1
  go_wp2_with fail
  refine (lines_any a1 n1 c1 someL _ HS1.out).mono ?_
  rintro x w2 ⟨a2, n2, c2, R, er, rfl, S2, b2, f2, t2⟩
  obtain ⟨rfl, rfl⟩ := t2.unique some_lines
  have HW := hide (HB1.out.trans (b2.mono HB1.out.size))
  obtain rfl : 2 = n2 := S2.1
  obtain ⟨ad, rfl, A0⟩ := S2.at 0 (by omega)
  obtain ⟨ad', e', A1⟩ := S2.at 1 (by omega)
  obtain rfl := Option.some.inj e'
  obtain ⟨g, rfl⟩ : ∃ g, ad = ⟨g, 0, none⟩ := ⟨_, (f2 ad rfl).2⟩
  have c0 := A0.c0
  have c1 := A0.c1
  have c2 := A0.c2
  have d0 := A1.c0
  have d1 := A1.c1
  have d2 := A1.c2
  simp only [someR, List.getD, List.getElem?_cons_zero, List.getElem?_cons_succ, Option.getD_some, Nat.zero_mul, Nat.one_mul, Addr.add_lit, Nat.zero_add, Nat.reduceAdd] at c0 c1 c2 d0 d1 d2
  clear S2 b2 f2 t2 A0 A1 e' HS1
  go_wp2_with fail
  go_ret
  exact ⟨rfl, HW.out⟩
end Go.Proofs.Ytmhdhedjeaaciaa
