/- What the reference's Get reads, plain: the same mails. -/
import Derived.Test.YtpnlfljndkfplaaNTh
namespace Go.Proofs.Ytpnlfljndkfplaa
open Go.RowKit

/-- so many parts, read -/
def qParts : Nat → List Int → Option (List Prt × List Int)
  | 0, Z => some ([], Z)
  | n + 1, Z =>
    match pNum 9223372036854775807 Z with
    | none => none
    | some (c, Z1) =>
      match pFrm Z1 with
      | none => none
      | some (Y, Z2) =>
        match qParts n Z2 with
        | none => none
        | some (P, R) => some ((c, Y) :: P, R)
theorem qParts_to : ∀ (P : List Prt) (R : List Int), (∀ p ∈ P, p.1 ≤ 9223372036854775807 ∧ p.2.length ≤ 9223372036854775807) → qParts P.length (partsB P ++ R) = some (P, R)
  | [], R, _ => rfl
  | (c, Y) :: P, R, h => by
    have hp := h (c, Y) (List.mem_cons_self ..)
    have e : partsB ((c, Y) :: P) ++ R = numB c ++ (frm Y ++ (partsB P ++ R)) := by
      show (partB (c, Y) ++ partsB P) ++ R = _
      unfold partB
      simp only [List.append_assoc]
    show qParts (P.length + 1) _ = _
    rw [e]
    unfold qParts
    rw [pNum_to _ (by have := hp.1; omega) (by have := hp.1; omega)]
    simp only
    rw [pFrm_to _ _ hp.2]
    simp only
    rw [qParts_to P R (fun p hp => h p (List.mem_cons_of_mem _ hp))]
theorem qParts_of : ∀ (n : Nat) {Z : List Int} {P : List Prt} {R : List Int}, Oc Z → qParts n Z = some (P, R) → Z = partsB P ++ R ∧ P.length = n ∧ Oc R ∧ ∀ p ∈ P, p.1 ≤ 9223372036854775807 ∧ Oc p.2
  | 0, Z, P, R, hZ, h => by
    unfold qParts at h
    simp only [Option.some.injEq, Prod.mk.injEq] at h
    obtain ⟨rfl, rfl⟩ := h
    exact ⟨rfl, rfl, hZ, fun p hp => by cases hp⟩
  | n + 1, Z, P, R, hZ, h => by
    unfold qParts at h
    cases h1 : pNum 9223372036854775807 Z with
    | none => rw [h1] at h; cases h
    | some x =>
      obtain ⟨c, Z1⟩ := x
      rw [h1] at h
      simp only at h
      obtain ⟨e1, l1, o1, -⟩ := pNum_of hZ h1
      cases h2 : pFrm Z1 with
      | none => rw [h2] at h; cases h
      | some x =>
        obtain ⟨Y, Z2⟩ := x
        rw [h2] at h
        simp only at h
        obtain ⟨e2, o2, o3⟩ := pFrm_of o1 h2
        cases h3 : qParts n Z2 with
        | none => rw [h3] at h; cases h
        | some x =>
          obtain ⟨P', R'⟩ := x
          rw [h3] at h
          simp only [Option.some.injEq, Prod.mk.injEq] at h
          obtain ⟨rfl, rfl⟩ := h
          obtain ⟨e3, l3, o4, hP⟩ := qParts_of n o2 h3
          refine ⟨?_, by rw [List.length_cons, l3], o4, fun p hp => ?_⟩
          · rw [e1, e2, e3]
            show _ = (partB (c, Y) ++ partsB P') ++ R'
            unfold partB
            simp only [List.append_assoc]
          · rcases List.mem_cons.1 hp with rfl | hp
            · exact ⟨by simp only; omega, o3⟩
            · exact hP p hp
/-- a mail, read; what is left -/
def qMail (Z : List Int) : Option (Pm × List Int) :=
  match pNum 9223372036854775807 Z with
  | none => none
  | some (k, Z1) =>
    match pNum 9223372036854775807 Z1 with
    | none => none
    | some (f, Z2) =>
      match pNum 9223372036854775807 Z2 with
      | none => none
      | some (t, Z3) =>
        match pNum 9223372036854775807 Z3 with
        | none => none
        | some (l, Z4) =>
          match pNum 9223372036854775807 Z4 with
          | none => none
          | some (h, Z5) =>
            match pNum 9223372036854775807 Z5 with
            | none => none
            | some (n, Z6) =>
              match qParts n Z6 with
              | none => none
              | some (P, R) => some (⟨k, f, t, l, h, P⟩, R)
/-- the numbers of a mail that can be written -/
def Pm.okQ (m : Pm) : Prop := m.kind ≤ 9223372036854775807 ∧ m.fr ≤ 9223372036854775807 ∧ m.to_ ≤ 9223372036854775807 ∧ m.lo ≤ 9223372036854775807 ∧ m.hi ≤ 9223372036854775807 ∧ m.parts.length ≤ 9223372036854775807 ∧ ∀ p ∈ m.parts, p.1 ≤ 9223372036854775807 ∧ p.2.length ≤ 9223372036854775807
theorem qMail_to (m : Pm) (R : List Int) (h : m.okQ) : qMail (mailB m ++ R) = some (m, R) := by
  obtain ⟨h1, h2, h3, h4, h5, h6, h7⟩ := h
  unfold qMail mailB
  simp only [List.append_assoc]
  rw [pNum_to _ (by omega) (by omega)]
  simp only
  rw [pNum_to _ (by omega) (by omega)]
  simp only
  rw [pNum_to _ (by omega) (by omega)]
  simp only
  rw [pNum_to _ (by omega) (by omega)]
  simp only
  rw [pNum_to _ (by omega) (by omega)]
  simp only
  rw [pNum_to _ (by omega) (by omega)]
  simp only
  rw [qParts_to _ _ h7]
theorem qMail_of {Z R : List Int} {m : Pm} (hZ : Oc Z) (h : qMail Z = some (m, R)) : Z = mailB m ++ R ∧ m.kind ≤ 9223372036854775807 ∧ m.fr ≤ 9223372036854775807 ∧ m.to_ ≤ 9223372036854775807 ∧ m.lo ≤ 9223372036854775807 ∧ m.hi ≤ 9223372036854775807 ∧ m.parts.length ≤ 9223372036854775807 ∧ ∀ p ∈ m.parts, p.1 ≤ 9223372036854775807 ∧ Oc p.2 := by
  unfold qMail at h
  cases h1 : pNum 9223372036854775807 Z with
  | none => rw [h1] at h; cases h
  | some x =>
  obtain ⟨k, Z1⟩ := x
  rw [h1] at h
  simp only at h
  obtain ⟨e1, l1, o1, -⟩ := pNum_of hZ h1
  cases h2 : pNum 9223372036854775807 Z1 with
  | none => rw [h2] at h; cases h
  | some x =>
  obtain ⟨f, Z2⟩ := x
  rw [h2] at h
  simp only at h
  obtain ⟨e2, l2, o2, -⟩ := pNum_of o1 h2
  cases h3 : pNum 9223372036854775807 Z2 with
  | none => rw [h3] at h; cases h
  | some x =>
  obtain ⟨t, Z3⟩ := x
  rw [h3] at h
  simp only at h
  obtain ⟨e3, l3, o3, -⟩ := pNum_of o2 h3
  cases h4 : pNum 9223372036854775807 Z3 with
  | none => rw [h4] at h; cases h
  | some x =>
  obtain ⟨l, Z4⟩ := x
  rw [h4] at h
  simp only at h
  obtain ⟨e4, l4, o4, -⟩ := pNum_of o3 h4
  cases h5 : pNum 9223372036854775807 Z4 with
  | none => rw [h5] at h; cases h
  | some x =>
  obtain ⟨hi, Z5⟩ := x
  rw [h5] at h
  simp only at h
  obtain ⟨e5, l5, o5, -⟩ := pNum_of o4 h5
  cases h6 : pNum 9223372036854775807 Z5 with
  | none => rw [h6] at h; cases h
  | some x =>
  obtain ⟨n, Z6⟩ := x
  rw [h6] at h
  simp only at h
  obtain ⟨e6, l6, o6, -⟩ := pNum_of o5 h6
  cases h7 : qParts n Z6 with
  | none => rw [h7] at h; cases h
  | some x =>
  obtain ⟨P, R'⟩ := x
  rw [h7] at h
  simp only [Option.some.injEq, Prod.mk.injEq] at h
  obtain ⟨rfl, rfl⟩ := h
  obtain ⟨e7, l7, o7, hP⟩ := qParts_of n o6 h7
  refine ⟨?_, by simp only; omega, by simp only; omega, by simp only; omega, by simp only; omega, by simp only; omega, by simp only; omega, hP⟩
  unfold mailB
  simp only [List.append_assoc]
  rw [e1, e2, e3, e4, e5, e6, e7, l7]
theorem pMail_q {Z R : List Int} {p : Pm} (hO : Oc Z) (hl : Z.length ≤ 9223372036854775807) (h : pMail Z = some (p, R)) : qMail Z = some (p, R) := by
  have hk := okN_of hO hl h
  obtain ⟨h1, h2, h3, h4, h5, h6, h7⟩ := hk
  rw [(pMail_of hO h).1]
  exact qMail_to p R ⟨by omega, by omega, by omega, by omega, by omega, by omega, fun q hq => ⟨by have := (h7 q hq).1; omega, (h7 q hq).2⟩⟩
theorem ckP_okN {p : Pm} (h : ckP p = 0) (hl : ∀ q ∈ p.parts, q.2.length ≤ 9223372036854775807) : p.okN := by
  have hb := in_bounds h
  have hr := rise_len _ (-1) (by omega) (by omega) hb.2.2.2.2.2.2.2.2.2
  rw [List.length_map] at hr
  refine ⟨by omega, by omega, by omega, by omega, by omega, by omega, fun q hq => ⟨?_, hl q hq⟩⟩
  obtain ⟨i, hi, he⟩ := List.getElem_of_mem hq
  have := (rise_at _ (-1) i hb.2.2.2.2.2.2.2.2.2 (by rw [List.length_map]; exact hi)).2
  have e : (p.parts.map fun q => (⟨(q.1 : Int), none, 0, 0⟩ : Pt)).getD i pt0 = ⟨(q.1 : Int), none, 0, 0⟩ := by
    rw [List.getD_eq_getElem?_getD, List.getElem?_map, List.getElem?_eq_getElem hi, he]; rfl
  rw [e] at this
  simp only at this
  omega
theorem qMail_p {Z R : List Int} {p : Pm} (hO : Oc Z) (hl : Z.length ≤ 9223372036854775807) (h : qMail Z = some (p, R)) (hc : ckP p = 0) : pMail Z = some (p, R) := by
  have e := (qMail_of hO h).1
  have hk := ckP_okN hc (fun q hq => by
    have hb := body_len p.parts q hq
    have e2 := congrArg List.length e
    unfold mailB at e2
    simp only [List.length_append] at e2
    omega)
  rw [e]
  exact pMail_to p R hk
/-- what both Gets take -/
theorem takes_iff {Z : List Int} {p : Pm} (hO : Oc Z) (hl : Z.length ≤ 9223372036854775807) (hc : ckP p = 0) : qMail Z = some (p, []) ↔ pMail Z = some (p, []) := ⟨fun h => qMail_p hO hl h hc, pMail_q hO hl⟩
end Go.Proofs.Ytpnlfljndkfplaa
