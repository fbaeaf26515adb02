/- A mail's bytes, plain. -/
import Derived.Test.YtpnlfljndkfplaaUPm
namespace Go.Proofs.Ytpnlfljndkfplaa
open Go.RowKit

abbrev Oc (Z : List Int) : Prop := ∀ t, 0 ≤ Z.getD t 0 ∧ Z.getD t 0 ≤ 255
theorem Oc.drop {Z : List Int} (h : Oc Z) (a : Nat) : Oc (Z.drop a) := fun t => by rw [drop_getD]; exact h _
/-- a number of at most so much, read -/
def pNum (most : Int) (Z : List Int) : Option (Nat × List Int) := if nmE Z most = 0 then some (nmV Z, Z.drop (nmK Z)) else none
theorem pNum_to {most : Int} {v : Nat} (R : List Int) (hv : (v : Int) ≤ most) (hm : v ≤ 9223372036854775807) : pNum most (numB v ++ R) = some (v, R) := by
  have e : nmE (numB v ++ R) most = 0 := by rw [nmE_numB v R most hm, if_neg (by omega)]
  unfold pNum
  rw [if_pos e, nmV_numB v R hm, nmK_numB v R hm, List.drop_left]
theorem pNum_of {most : Int} {Z R : List Int} {v : Nat} (hZ : Oc Z) (h : pNum most Z = some (v, R)) : Z = numB v ++ R ∧ (v : Int) ≤ most ∧ Oc R ∧ v ≤ 9223372036854775807 := by
  unfold pNum at h
  split at h
  · rename_i h0
    simp only [Option.some.injEq, Prod.mk.injEq] at h
    obtain ⟨h1, h2, h3, h4⟩ := nm_ok h0
    obtain ⟨u, e1, e2, e3⟩ := rdN_back Z hZ h1
    have ev : nmV Z = u := by omega
    have ek : nmK Z = (numB u).length := by omega
    obtain ⟨rfl, rfl⟩ := h
    refine ⟨?_, h2, hZ.drop _, ?_⟩
    · rw [ev, ek]; exact e3
    · exact nmV_le Z
  · cases h
/-- a frame, read -/
def pFrm (Z : List Int) : Option (List Int × List Int) := if pcE Z Z.length = 0 then some ((Z.drop (nmK Z)).take (nmV Z), Z.drop (nmK Z + nmV Z)) else none
theorem pFrm_to (Y R : List Int) (hm : Y.length ≤ 9223372036854775807) : pFrm (frm Y ++ R) = some (Y, R) := by
  have e : frm Y ++ R = numB Y.length ++ (Y ++ R) := by unfold frm; rw [List.append_assoc]
  have h1 : nmK (frm Y ++ R) = (numB Y.length).length := by rw [e]; exact nmK_numB _ _ hm
  have h2 : nmV (frm Y ++ R) = Y.length := by rw [e]; exact nmV_numB _ _ hm
  have hl : (frm Y ++ R).length = (numB Y.length).length + Y.length + R.length := by unfold frm; rw [List.length_append, List.length_append]
  have hE : pcE (frm Y ++ R) ((frm Y ++ R).length : Nat) = 0 := by
    unfold pcE
    have hn : nmE (frm Y ++ R) ((frm Y ++ R).length : Nat) = 0 := by
      rw [hl, e, nmE_numB _ _ _ hm, if_neg (by omega)]
    rw [hn, if_neg (by simp), h1, h2, if_neg (by omega)]
  unfold pFrm
  rw [if_pos hE, h1, h2]
  have h3 : ((frm Y ++ R).drop (numB Y.length).length).take Y.length = Y := by rw [e, List.drop_left, List.take_left]
  have h4 : (frm Y ++ R).drop ((numB Y.length).length + Y.length) = R := by
    have : (numB Y.length).length + Y.length = (frm Y).length := by unfold frm; rw [List.length_append]
    rw [this, List.drop_left]
  rw [h3, h4]
theorem pFrm_of {Z Y R : List Int} (hZ : Oc Z) (h : pFrm Z = some (Y, R)) : Z = frm Y ++ R ∧ Oc R ∧ Oc Y := by
  unfold pFrm at h
  split at h
  · rename_i h0
    simp only [Option.some.injEq, Prod.mk.injEq] at h
    obtain ⟨hn, hl⟩ := pcE_ok h0
    obtain ⟨h1, -, -, -⟩ := nm_ok hn
    obtain ⟨u, e1, e2, e3⟩ := rdN_back Z hZ h1
    have ev : nmV Z = u := by omega
    have ek : nmK Z = (numB u).length := by omega
    obtain ⟨rfl, rfl⟩ := h
    have hyl : ((Z.drop (nmK Z)).take (nmV Z)).length = u := by rw [List.length_take, List.length_drop]; omega
    refine ⟨?_, hZ.drop _, fun t => ?_⟩
    · unfold frm
      rw [hyl, ek, ev, List.append_assoc, ← List.drop_drop, List.take_append_drop]
      exact e3
    · by_cases ht : t < nmV Z
      · have := (hZ.drop (nmK Z)) t
        simp only [List.getD, List.getElem?_take, if_pos ht] at this ⊢
        exact this
      · simp [List.getD, List.getElem?_take, ht]
  · cases h
/-- a part's bytes -/
abbrev Prt := Nat × List Int
def partB (p : Prt) : List Int := numB p.1 ++ frm p.2
def partsB (P : List Prt) : List Int := P.flatMap partB
/-- so many parts, read -/
def pParts : Nat → List Int → Option (List Prt × List Int)
  | 0, Z => some ([], Z)
  | n + 1, Z =>
    match pNum 63 Z with
    | none => none
    | some (c, Z1) =>
      match pFrm Z1 with
      | none => none
      | some (Y, Z2) =>
        match pParts n Z2 with
        | none => none
        | some (P, R) => some ((c, Y) :: P, R)
theorem pParts_to : ∀ (P : List Prt) (R : List Int), (∀ p ∈ P, p.1 < 64 ∧ p.2.length ≤ 9223372036854775807) → pParts P.length (partsB P ++ R) = some (P, R)
  | [], R, _ => rfl
  | (c, Y) :: P, R, h => by
    have hp := h (c, Y) (List.mem_cons_self ..)
    have e : partsB ((c, Y) :: P) ++ R = numB c ++ (frm Y ++ (partsB P ++ R)) := by
      show (partB (c, Y) ++ partsB P) ++ R = _
      unfold partB
      simp only [List.append_assoc]
    show pParts (P.length + 1) _ = _
    rw [e]
    unfold pParts
    rw [pNum_to _ (by have := hp.1; omega) (by have := hp.1; omega)]
    simp only
    rw [pFrm_to _ _ hp.2]
    simp only
    rw [pParts_to P R (fun p hp => h p (List.mem_cons_of_mem _ hp))]
theorem pParts_of : ∀ (n : Nat) {Z : List Int} {P : List Prt} {R : List Int}, Oc Z → pParts n Z = some (P, R) → Z = partsB P ++ R ∧ P.length = n ∧ Oc R ∧ ∀ p ∈ P, p.1 < 64 ∧ Oc p.2
  | 0, Z, P, R, hZ, h => by
    unfold pParts at h
    simp only [Option.some.injEq, Prod.mk.injEq] at h
    obtain ⟨rfl, rfl⟩ := h
    exact ⟨rfl, rfl, hZ, fun p hp => by cases hp⟩
  | n + 1, Z, P, R, hZ, h => by
    unfold pParts at h
    cases h1 : pNum 63 Z with
    | none => rw [h1] at h; cases h
    | some x =>
      obtain ⟨c, Z1⟩ := x
      rw [h1] at h
      simp only at h
      obtain ⟨e1, l1, o1, -⟩ := pNum_of hZ h1
      cases h2 : pFrm Z1 with
      | none => rw [h2] at h; cases h
      | some x =>
        obtain ⟨Y, Z2⟩ := x
        rw [h2] at h
        simp only at h
        obtain ⟨e2, o2, o3⟩ := pFrm_of o1 h2
        cases h3 : pParts n Z2 with
        | none => rw [h3] at h; cases h
        | some x =>
          obtain ⟨P', R'⟩ := x
          rw [h3] at h
          simp only [Option.some.injEq, Prod.mk.injEq] at h
          obtain ⟨rfl, rfl⟩ := h
          obtain ⟨e3, l3, o4, hP⟩ := pParts_of n o2 h3
          refine ⟨?_, by rw [List.length_cons, l3], o4, fun p hp => ?_⟩
          · rw [e1, e2, e3]
            show _ = (partB (c, Y) ++ partsB P') ++ R'
            unfold partB
            simp only [List.append_assoc]
          · rcases List.mem_cons.1 hp with rfl | hp
            · exact ⟨by simp only; omega, o3⟩
            · exact hP p hp
/-- a mail, plain -/
structure Pm where
  kind : Nat
  fr : Nat
  to_ : Nat
  lo : Nat
  hi : Nat
  parts : List Prt
def mailB (m : Pm) : List Int := numB m.kind ++ (numB m.fr ++ (numB m.to_ ++ (numB m.lo ++ (numB m.hi ++ (numB m.parts.length ++ partsB m.parts)))))
/-- a mail, read; what is left -/
def pMail (Z : List Int) : Option (Pm × List Int) :=
  match pNum 6 Z with
  | none => none
  | some (k, Z1) =>
    match pNum 15 Z1 with
    | none => none
    | some (f, Z2) =>
      match pNum 15 Z2 with
      | none => none
      | some (t, Z3) =>
        match pNum 4611686018427387904 Z3 with
        | none => none
        | some (l, Z4) =>
          match pNum 4611686018427387904 Z4 with
          | none => none
          | some (h, Z5) =>
            match pNum 64 Z5 with
            | none => none
            | some (n, Z6) =>
              match pParts n Z6 with
              | none => none
              | some (P, R) => some (⟨k, f, t, l, h, P⟩, R)
/-- the numbers of a mail in form lie in these bounds -/
def Pm.okN (m : Pm) : Prop := m.kind ≤ 6 ∧ m.fr ≤ 15 ∧ m.to_ ≤ 15 ∧ m.lo ≤ 4611686018427387904 ∧ m.hi ≤ 4611686018427387904 ∧ m.parts.length ≤ 64 ∧ ∀ p ∈ m.parts, p.1 < 64 ∧ p.2.length ≤ 9223372036854775807
theorem pMail_to (m : Pm) (R : List Int) (h : m.okN) : pMail (mailB m ++ R) = some (m, R) := by
  obtain ⟨h1, h2, h3, h4, h5, h6, h7⟩ := h
  unfold pMail mailB
  simp only [List.append_assoc]
  rw [pNum_to _ (by omega) (by omega)]
  simp only
  rw [pNum_to _ (by omega) (by omega)]
  simp only
  rw [pNum_to _ (by omega) (by omega)]
  simp only
  rw [pNum_to _ (by omega) (by omega)]
  simp only
  rw [pNum_to _ (by omega) (by omega)]
  simp only
  rw [pNum_to _ (by omega) (by omega)]
  simp only
  rw [pParts_to _ _ h7]
theorem pMail_of {Z R : List Int} {m : Pm} (hZ : Oc Z) (h : pMail Z = some (m, R)) : Z = mailB m ++ R ∧ m.kind ≤ 6 ∧ m.fr ≤ 15 ∧ m.to_ ≤ 15 ∧ m.lo ≤ 4611686018427387904 ∧ m.hi ≤ 4611686018427387904 ∧ m.parts.length ≤ 64 ∧ ∀ p ∈ m.parts, p.1 < 64 ∧ Oc p.2 := by
  unfold pMail at h
  cases h1 : pNum 6 Z with
  | none => rw [h1] at h; cases h
  | some x =>
  obtain ⟨k, Z1⟩ := x
  rw [h1] at h
  simp only at h
  obtain ⟨e1, l1, o1, -⟩ := pNum_of hZ h1
  cases h2 : pNum 15 Z1 with
  | none => rw [h2] at h; cases h
  | some x =>
  obtain ⟨f, Z2⟩ := x
  rw [h2] at h
  simp only at h
  obtain ⟨e2, l2, o2, -⟩ := pNum_of o1 h2
  cases h3 : pNum 15 Z2 with
  | none => rw [h3] at h; cases h
  | some x =>
  obtain ⟨t, Z3⟩ := x
  rw [h3] at h
  simp only at h
  obtain ⟨e3, l3, o3, -⟩ := pNum_of o2 h3
  cases h4 : pNum 4611686018427387904 Z3 with
  | none => rw [h4] at h; cases h
  | some x =>
  obtain ⟨l, Z4⟩ := x
  rw [h4] at h
  simp only at h
  obtain ⟨e4, l4, o4, -⟩ := pNum_of o3 h4
  cases h5 : pNum 4611686018427387904 Z4 with
  | none => rw [h5] at h; cases h
  | some x =>
  obtain ⟨hi, Z5⟩ := x
  rw [h5] at h
  simp only at h
  obtain ⟨e5, l5, o5, -⟩ := pNum_of o4 h5
  cases h6 : pNum 64 Z5 with
  | none => rw [h6] at h; cases h
  | some x =>
  obtain ⟨n, Z6⟩ := x
  rw [h6] at h
  simp only at h
  obtain ⟨e6, l6, o6, -⟩ := pNum_of o5 h6
  cases h7 : pParts n Z6 with
  | none => rw [h7] at h; cases h
  | some x =>
  obtain ⟨P, R'⟩ := x
  rw [h7] at h
  simp only [Option.some.injEq, Prod.mk.injEq] at h
  obtain ⟨rfl, rfl⟩ := h
  obtain ⟨e7, l7, o7, hP⟩ := pParts_of n o6 h7
  refine ⟨?_, by simp only; omega, by simp only; omega, by simp only; omega, by simp only; omega, by simp only; omega, by simp only; omega, hP⟩
  unfold mailB
  simp only [List.append_assoc]
  rw [e1, e2, e3, e4, e5, e6, e7, l7]
end Go.Proofs.Ytpnlfljndkfplaa
