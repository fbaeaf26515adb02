/- IPm -/
import Derived.Test.YtphohmoibnoeaaaGreatPb24
import Derived.Test.YtphohmoibnoeaaaGreatPb29
namespace Go.Proofs.YtphohmoibnoeaaaGreat
open Go.RowKit

abbrev Rp := ByteArray × Pst
def plR (L : List Rc) : List Rp := L.map fun r => (r.s, r.p.P)
def recB (X : List Rp) : List Int := X.flatMap fun x => txB x.1 ++ pastB x.2
def recsB (X : List Rp) : List Int := U.numB X.length ++ recB X
theorem plR_len (L : List Rc) : (plR L).length = L.length := by simp [plR]
theorem plR_snoc (L : List Rc) (r : Rc) : plR (L ++ [r]) = plR L ++ [(r.s, r.p.P)] := by simp [plR]
theorem recB_snoc (X : List Rp) (x : Rp) : recB (X ++ [x]) = recB X ++ (txB x.1 ++ pastB x.2) := by simp [recB]
def rdRec : Nat → List Int → Option (List Rp × List Int)
 | 0, Z => some ([], Z)
 | n + 1, Z =>
  match pTx 24 Z with
  | none => none
  | some (s, Z1) =>
   match rdPast Z1 with
   | none => none
   | some (P, Z2) =>
    match rdRec n Z2 with
    | none => none
    | some (L, R) => some ((s, P) :: L, R)
def rdRecs (Z : List Int) : Option (List Rp × List Int) :=
 match U.pCnt 4 Z with
 | none => none
 | some (n, Z1) => rdRec n Z1
theorem rdRec_to : ∀ (X : List Rp) (R : List Int), (∀ x ∈ X, x.1.size ≤ 24 ∧ InForm x.2) → rdRec X.length (recB X ++ R) = some (X, R)
 | [], R, _ => rfl
 | x :: t, R, h => by
  have hx := h x List.mem_cons_self
  have e : recB (x :: t) ++ R = txB x.1 ++ (pastB x.2 ++ (recB t ++ R)) := by simp [recB]
  show rdRec (t.length + 1) _ = _
  rw [e]
  unfold rdRec
  rw [pTx_to _ (by omega) (by omega)]
  simp only
  rw [rdPast_to hx.2]
  simp only
  rw [rdRec_to t R (fun y hy => h y (List.mem_cons_of_mem _ hy))]
theorem rdRec_of : ∀ (n : Nat) {Z R : List Int} {X : List Rp}, U.Oc Z → rdRec n Z = some (X, R) → Z = recB X ++ R ∧ X.length = n ∧ U.Oc R
 | 0, Z, R, X, hZ, h => by
  unfold rdRec at h
  simp only [Option.some.injEq, Prod.mk.injEq] at h
  obtain ⟨rfl, rfl⟩ := h
  exact ⟨rfl, rfl, hZ⟩
 | n + 1, Z, R, X, hZ, h => by
  unfold rdRec at h
  cases h1 : pTx 24 Z with
  | none => rw [h1] at h; cases h
  | some y =>
   obtain ⟨s, Z1⟩ := y
   rw [h1] at h
   simp only at h
   obtain ⟨e1, -, o1⟩ := pTx_of hZ h1
   cases h2 : rdPast Z1 with
   | none => rw [h2] at h; cases h
   | some y =>
    obtain ⟨P, Z2⟩ := y
    rw [h2] at h
    simp only at h
    obtain ⟨e2, o2, -⟩ := rdPast_of o1 h2
    cases h3 : rdRec n Z2 with
    | none => rw [h3] at h; cases h
    | some y =>
     obtain ⟨M, R'⟩ := y
     rw [h3] at h
     simp only [Option.some.injEq, Prod.mk.injEq] at h
     obtain ⟨rfl, rfl⟩ := h
     obtain ⟨f1, f2, f3⟩ := rdRec_of n o2 h3
     refine ⟨?_, by simp [f2], f3⟩
     show Z = (txB s ++ pastB P ++ recB M) ++ R'
     rw [List.append_assoc, List.append_assoc, ← f1, ← e2]
     exact e1
theorem form_three {P : Pst} (h : FormP P) : 3 ≤ (pastB P).length := by
 have h1 := numB_pos P.vec.length
 have h2 := numB_pos P.cloud.length
 obtain ⟨V, C⟩ := P
 cases V with
 | cons x t =>
  have h3 := numB_pos x.toNat
  simp only [pastB, vecB, nB, List.flatMap_cons, List.length_append]
  simp only at h1 h2
  omega
 | nil =>
  cases C with
  | cons s t =>
   have h3 := cloudB_len (s :: t) (trl []) 0
   simp only [pastB, List.length_append, List.length_cons] at h3 h1 h2 ⊢
   omega
  | nil =>
   refine absurd ?_ h.2
   intro r hr n hm
   rcases (mem_runs ⟨[], []⟩ r hr n).1 hm with ⟨h1, h2, h3 | ⟨c, hc, _⟩⟩
   ·have : ([] : List Int).getD r 0 = 0 := by simp
    simp only at h3
    omega
   ·cases hc
theorem recB_len : ∀ (X : List Rp), (∀ x ∈ X, FormP x.2) → 4 * X.length ≤ (recB X).length
 | [], _ => Nat.zero_le _
 | x :: t, h => by
  have ih := recB_len t (fun y hy => h y (List.mem_cons_of_mem _ hy))
  have h1 := form_three (h x List.mem_cons_self)
  have h2 := numB_pos x.1.size
  show _ ≤ (txB x.1 ++ pastB x.2 ++ recB t).length
  simp only [txB, List.length_append, List.length_cons]
  omega
theorem tdiv4 (n m : Nat) (h : 4 * m ≤ n) : (m : Int) ≤ ((n : Nat) : Int).tdiv (U.eachN 4) := by
 have e : U.eachN 4 = 4 := by decide
 rw [e, Int.tdiv_eq_ediv_of_nonneg (by omega)]
 omega
theorem tdiv5 (n m : Nat) (h : 5 * m ≤ n) : (m : Int) ≤ ((n : Nat) : Int).tdiv (U.eachN 5) := by
 have e : U.eachN 5 = 5 := by decide
 rw [e, Int.tdiv_eq_ediv_of_nonneg (by omega)]
 omega
theorem sku_len {s : ByteArray} (h : skuR s = true) : s.size ≤ 24 := by
 unfold skuR at h
 simp only [Bool.or_eq_true, decide_eq_true_eq] at h
 rcases h with h | h
 ·omega
 ·unfold K.good K.ckE at h
  have e : s.data.toList.length = s.size := rfl
  split at h
  ·omega
  ·split at h
   ·simp at h
   ·omega
theorem rdRecs_to {L : List Rc} (h : OkR L L.length) (hl : L.length ≤ 9223372036854775807) (R : List Int) : rdRecs (recsB (plR L) ++ R) = some (plR L, R) := by
 have hx : ∀ x ∈ plR L, skuR x.1 = true ∧ FormP x.2 := fun x hx => by
  unfold plR at hx
  obtain ⟨r, hr, rfl⟩ := List.mem_map.1 hx
  obtain ⟨k, hk, rfl⟩ := List.getElem_of_mem hr
  have := (h k hk).1
  rw [List.getD_eq_getElem?_getD, List.getElem?_eq_getElem hk] at this
  exact this
 unfold rdRecs recsB
 rw [List.append_assoc, U.pCnt_to _ (tdiv4 _ _ (by have := recB_len (plR L) (fun x h => (hx x h).2); rw [List.length_append]; omega)) (by rw [plR_len]; exact hl)]
 exact rdRec_to _ _ (fun x h => ⟨sku_len (hx x h).1, (hx x h).2.1⟩)
theorem rdRecs_of {Z R : List Int} {X : List Rp} (hZ : U.Oc Z) (h : rdRecs Z = some (X, R)) : Z = recsB X ++ R ∧ U.Oc R := by
 unfold rdRecs at h
 cases h1 : U.pCnt 4 Z with
 | none => rw [h1] at h; cases h
 | some y =>
  obtain ⟨n, Z1⟩ := y
  rw [h1] at h
  simp only at h
  obtain ⟨e1, o1, -⟩ := U.pCnt_of hZ h1
  obtain ⟨f1, f2, f3⟩ := rdRec_of n o1 h
  refine ⟨?_, f3⟩
  unfold recsB
  rw [List.append_assoc, ← f1, f2]
  exact e1
theorem rdEnts_to {L : List K.En} (h : EOk (fun _ => 0) 0 L) (hs : ∀ e ∈ L, 1 ≤ e.sku.size) (hl : L.length ≤ 9223372036854775807) (R : List Int) : rdEnts (entsB L ++ R) = some (L, R) := by
 unfold rdEnts entsB
 rw [List.append_assoc, U.pCnt_to _ (tdiv5 _ _ (by have := entB_len L (fun _ => 0) 0 h hs; rw [List.length_append]; omega)) hl]
 exact rdEnt_to L _ _ R (Int.le_refl 0) h (fun _ => Int.le_refl 0)
theorem rdEnts_of {Z R : List Int} {L : List K.En} (hZ : U.Oc Z) (h : rdEnts Z = some (L, R)) : Z = entsB L ++ R ∧ U.Oc R ∧ EOk (fun _ => 0) 0 L := by
 unfold rdEnts at h
 cases h1 : U.pCnt 5 Z with
 | none => rw [h1] at h; cases h
 | some y =>
  obtain ⟨n, Z1⟩ := y
  rw [h1] at h
  simp only at h
  obtain ⟨e1, o1, -⟩ := U.pCnt_of hZ h1
  obtain ⟨f1, f2, f3, f4⟩ := rdEnt_of n o1 (Int.le_refl 0) h
  refine ⟨?_, f3, f4⟩
  unfold entsB
  rw [List.append_assoc, ← f1, f2]
  exact e1
end Go.Proofs.YtphohmoibnoeaaaGreat
