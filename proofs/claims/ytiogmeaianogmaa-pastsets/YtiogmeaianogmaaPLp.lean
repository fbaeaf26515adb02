/- Pasts as sets of dots, plain: the laws. -/
import Derived.Test.YtiogmeaianogmaaPNm
import Derived.Test.YtiogmeaianogmaaSNe
import Derived.Test.YtiogmeaianogmaaRCo
namespace Go.Proofs.Ytiogmeaianogmaa
open Go.RowKit

def mP (P : Pst) : Nat → Int → Prop := fun r n => mem (runsAt P r) n
def mOr (M M' : Nat → Int → Prop) : Nat → Int → Prop := fun r n => M r n ∨ M' r n
def mAnd (M M' : Nat → Int → Prop) : Nat → Int → Prop := fun r n => M r n ∧ M' r n
def mNot (M M' : Nat → Int → Prop) : Nat → Int → Prop := fun r n => M r n ∧ ¬ M' r n
/-- the past is the form of this set of dots -/
def IsP (M : Nat → Int → Prop) (P : Pst) : Prop := ∃ C, CanonOf C P ∧ ∀ r, r < 16 → ∀ n, mem (C r) n ↔ M r n
def Eqv (M M' : Nat → Int → Prop) : Prop := ∀ r, r < 16 → ∀ n, M r n ↔ M' r n
theorem IsP.unique {M M' : Nat → Int → Prop} {P P' : Pst} (h : IsP M P) (h' : IsP M' P') (e : Eqv M M') : P = P' := by
  obtain ⟨C, hC, hm⟩ := h
  obtain ⟨C', hC', hm'⟩ := h'
  exact hC.unique hC' (fun r hr n => (hm r hr n).trans ((e r hr n).trans (hm' r hr n).symm))
theorem IsP.mem {M : Nat → Int → Prop} {P : Pst} (h : IsP M P) : Eqv (mP P) M := by
  obtain ⟨C, hC, hm⟩ := h
  exact fun r hr n => (canon_mem hC r hr n).trans (hm r hr n)
theorem IsP.iff {M M' : Nat → Int → Prop} {P P' : Pst} (h : IsP M P) (h' : IsP M' P') : P = P' ↔ Eqv M M' := by
  refine ⟨fun e r hr n => ?_, h.unique h'⟩
  subst e
  exact (h.mem r hr n).symm.trans (h'.mem r hr n)
theorem IsP.len {M : Nat → Int → Prop} {P : Pst} (h : IsP M P) : P.cloud.length ≤ 8000000016 := by
  obtain ⟨C, hC, _⟩ := h
  exact (canon_len hC).1
theorem isP_norm {a P : Pst} (h : CanonOf (runsAt a) P) : IsP (mP a) P := ⟨_, h, fun _ _ _ => Iff.rfl⟩
theorem isP_join2 {a b : Pv} {P : Pst} (h : CanonOf (runsOf [a, b]) P) : IsP (mOr (mP a.P) (mP b.P)) P := ⟨_, h, fun r _ n => by
  simp only [runsOf, List.append_nil]
  rw [mem_append]
  exact Iff.rfl⟩
theorem isP_join3 {a b c : Pv} {P : Pst} (h : CanonOf (runsOf [a, b, c]) P) : IsP (mOr (mP a.P) (mOr (mP b.P) (mP c.P))) P := ⟨_, h, fun r _ n => by
  simp only [runsOf, List.append_nil]
  rw [mem_append, mem_append]
  exact Iff.rfl⟩
theorem isP_meet {a b : Pst} {P : Pst} (h : ∃ C : Nat → List Rn, (∀ r, r < 16 → MeetOf (runsAt a r) (runsAt b r) (C r)) ∧ CanonOf C P) : IsP (mAnd (mP a) (mP b)) P := by
  obtain ⟨C, hM, hC⟩ := h
  exact ⟨C, hC, fun r hr n => (hM r hr).2 n⟩
theorem isP_minus {a b : Pst} {P : Pst} (h : ∃ C : Nat → List Rn, (∀ r, r < 16 → MinusOf (runsAt a r) (runsAt b r) (C r)) ∧ CanonOf C P) : IsP (mNot (mP a) (mP b)) P := by
  obtain ⟨C, hM, hC⟩ := h
  exact ⟨C, hC, fun r hr n => (hM r hr).2 n⟩
/-- how many dots -/
def SzP (M : Nat → Int → Prop) (z : Int) : Prop := ∃ N, (∀ r, r < 16 → form 1 (N r) ∧ ∀ n, Go.Proofs.Ytiogmeaianogmaa.mem (N r) n ↔ M r n) ∧ z = sumZ N 16
theorem szP_of {P : Pst} {z : Int} (h : SizeP (runsAt P) z) : SzP (mP P) z := by
  obtain ⟨N, hN, e⟩ := h
  exact ⟨N, hN, e⟩
theorem szP_ex (P : Pst) : ∃ z, SzP (mP P) z := by
  have h : ∀ r, ∃ Y, NormOf (runsAt P r) Y := fun r => norm_ex _
  exact ⟨_, fun r => Classical.choose (h r), fun r _ => Classical.choose_spec (h r), rfl⟩
theorem SzP.unique {M M' : Nat → Int → Prop} {z z' : Int} (h : SzP M z) (h' : SzP M' z') (e : Eqv M M') : z = z' := by
  obtain ⟨N, hN, rfl⟩ := h
  obtain ⟨N', hN', rfl⟩ := h'
  exact sumZ_congr 16 fun r hr => form_unique (Int.le_refl _) (hN r hr).1 (hN' r hr).1 (fun n => ((hN r hr).2 n).trans ((e r hr n).trans ((hN' r hr).2 n).symm))
theorem SzP.bd {M : Nat → Int → Prop} {z : Int} (h : SzP M z) : 0 ≤ z ∧ z ≤ 16000000000 := by
  obtain ⟨N, hN, rfl⟩ := h
  have := sumZ_bd (N := N) 16 (fun r hr => (hN r hr).1)
  omega
theorem sumZ_four {N1 N2 N3 N4 : Nat → List Rn} : ∀ k, (∀ r, r < k → sz (N1 r) + sz (N2 r) = sz (N3 r) + sz (N4 r)) → sumZ N1 k + sumZ N2 k = sumZ N3 k + sumZ N4 k
  | 0, _ => rfl
  | k + 1, h => by
    have h1 := sumZ_four k (fun r hr => h r (by omega))
    have h2 := h k (by omega)
    simp only [sumZ]
    omega
theorem SzP.four {M1 M2 M3 M4 : Nat → Int → Prop} {z1 z2 z3 z4 : Int} (h1 : SzP M1 z1) (h2 : SzP M2 z2) (h3 : SzP M3 z3) (h4 : SzP M4 z4) (h : ∀ r, r < 16 → ∀ n, (M1 r n ∨ M2 r n ↔ M3 r n ∨ M4 r n) ∧ (M1 r n ∧ M2 r n ↔ M3 r n ∧ M4 r n)) : z1 + z2 = z3 + z4 := by
  obtain ⟨N1, a1, rfl⟩ := h1
  obtain ⟨N2, a2, rfl⟩ := h2
  obtain ⟨N3, a3, rfl⟩ := h3
  obtain ⟨N4, a4, rfl⟩ := h4
  refine sumZ_four 16 (fun r hr => sz_pairs (a1 r hr).1 (a2 r hr).1 (a3 r hr).1 (a4 r hr).1 (fun n => ?_))
  rw [(a1 r hr).2 n, (a2 r hr).2 n, (a3 r hr).2 n, (a4 r hr).2 n]
  exact h r hr n
theorem SzP.none : SzP (fun _ _ => False) 0 := ⟨fun _ => [], fun _ _ => ⟨trivial, fun n => ⟨fun h => mem_nil n h, fun h => h.elim⟩⟩, by decide⟩
theorem SzP.congr {M M' : Nat → Int → Prop} {z : Int} (h : SzP M z) (e : Eqv M M') : SzP M' z := by
  obtain ⟨N, hN, rfl⟩ := h
  exact ⟨N, fun r hr => ⟨(hN r hr).1, fun n => ((hN r hr).2 n).trans (e r hr n)⟩, rfl⟩
/-- rows of two and of three -/
theorem fold_PC2 (a b : Pv) : Array.foldl (fun cs x => cs.setIfInBounds x.snd x.fst) (Array.foldl (fun cs x => cs.setIfInBounds x.snd x.fst) #[(PC pv0)[0]!, (PC pv0)[1]!, (PC pv0)[0]!, (PC pv0)[1]!] (PC a).zipIdx 0 2) ((PC b).zipIdx 2) 0 2 = (pcs [a, b]).toArray := rfl
theorem fold_PC3 (a b c : Pv) : Array.foldl (fun cs x => cs.setIfInBounds x.snd x.fst) (Array.foldl (fun cs x => cs.setIfInBounds x.snd x.fst) (Array.foldl (fun cs x => cs.setIfInBounds x.snd x.fst) #[(PC pv0)[0]!, (PC pv0)[1]!, (PC pv0)[0]!, (PC pv0)[1]!, (PC pv0)[0]!, (PC pv0)[1]!] (PC a).zipIdx 0 2) ((PC b).zipIdx 2) 0 2) ((PC c).zipIdx 4) 0 2 = (pcs [a, b, c]).toArray := rfl
theorem IsP.congr {M M' : Nat → Int → Prop} {P : Pst} (h : IsP M P) (e : Eqv M M') : IsP M' P := by
  obtain ⟨C, hC, hm⟩ := h
  exact ⟨C, hC, fun r hr n => (hm r hr n).trans (e r hr n)⟩
theorem prow_two (W : World) (a b : Pv) (hA : PSrc W a) (hB : PSrc W b) : PRow (W.alloc (.cells (pcs [a, b]).toArray 25)) (some ⟨W.heap.size, 0, none⟩) 2 [a, b] :=
  prow_lit _ _ [a, b] _ rfl _ 2 rfl (heap_alloc_new W _) (fun p h => by
    rcases List.mem_cons.1 h with rfl | h
    · exact hA.below (below_new _ _)
    · obtain rfl := List.mem_singleton.1 h; exact hB.below (below_new _ _))
theorem prow_three (W : World) (a b c : Pv) (hA : PSrc W a) (hB : PSrc W b) (hC : PSrc W c) : PRow (W.alloc (.cells (pcs [a, b, c]).toArray 25)) (some ⟨W.heap.size, 0, none⟩) 3 [a, b, c] :=
  prow_lit _ _ [a, b, c] _ rfl _ 3 rfl (heap_alloc_new W _) (fun p h => by
    rcases List.mem_cons.1 h with rfl | h
    · exact hA.below (below_new _ _)
    · rcases List.mem_cons.1 h with rfl | h
      · exact hB.below (below_new _ _)
      · obtain rfl := List.mem_singleton.1 h; exact hC.below (below_new _ _))
end Go.Proofs.Ytiogmeaianogmaa
