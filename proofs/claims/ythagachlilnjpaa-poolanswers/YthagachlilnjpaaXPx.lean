/- A pool and its reference, side by side. -/
import Derived.Test.YthagachlilnjpaaXRt
namespace Go.Proofs.Ythagachlilnjpaa
open Go.RowKit Go.Maps
variable {w w' w2 : World} {g mb r made K c : Nat} {M : Int → Option Ltr} {C : Int → List Int} {ao bo : Option Addr} {Q : List Mde}

/-- both say the same -/
structure RQ (M : Int → Option Ltr) (C : Int → List Int) (Q : List Mde) (made : Nat) : Prop where
  len : Q.length = made
  dead : ∀ j, j < made → (Q.getD j d0).spent = true → M ((j : Int) + 1) = none
  live : ∀ j, j < made → (Q.getD j d0).spent = false → ∃ l, M ((j : Int) + 1) = some l ∧ Q.getD j d0 = ⟨l.frm, l.dst, strOfNums (C ((j : Int) + 1)), false⟩
structure PX (w : World) (g mb r made K : Nat) (M : Int → Option Ltr) (C : Int → List Int) (ao : Option Addr) (c : Nat) (Q : List Mde) : Prop where
  P : Pl w g mb made K M C
  R : Rp w r ao made c Q
  q : RQ M C Q made
  s1 : r ≠ g ∧ r ≠ mb
  s2 : ∀ k, blk ao = some k → k ≠ g ∧ k ≠ mb
  s3 : ∀ x l, M x = some l → ∀ k, blk l.bo = some k → k ≠ r ∧ blk ao ≠ some k
/-- what a play may write -/
structure Kx (w w' : World) (g mb r : Nat) (ao bo : Option Addr) : Prop where
  os : w'.os = w.os
  tape : w'.tape = w.tape
  output : w'.output = w.output
  size : w.heap.size ≤ w'.heap.size
  block : ∀ k, k < w.heap.size → k ≠ g → k ≠ mb → k ≠ r → some k ≠ blk ao → w'.heap[k]? = w.heap[k]?
  lies : blk bo = blk ao ∨ ∃ k, blk bo = some k ∧ w.heap.size ≤ k
theorem Kx.of_fw (h : Fw w w' g mb) : Kx w w' g mb r ao ao := ⟨h.os, h.tape, h.output, h.size, fun k hk h1 h2 _ _ => h.block k hk h1 h2, Or.inl rfl⟩
theorem Kx.of_below (h : Below w.heap.size w w') : Kx w w' g mb r ao ao := Kx.of_fw (Fw.of_below h)
theorem Kx.of_kr (h : Kr w w' r ao bo) : Kx w w' g mb r ao bo := ⟨h.os, h.tape, h.output, h.size, fun k hk _ _ h3 h4 => h.block k hk h3 h4, h.lies⟩
theorem Kx.trans {co : Option Addr} (h : Kx w w' g mb r ao bo) (k : Kx w' w2 g mb r bo co) : Kx w w2 g mb r ao co := by
  refine ⟨k.os.trans h.os, k.tape.trans h.tape, k.output.trans h.output, Nat.le_trans h.size k.size, fun i hi h1 h2 h3 h4 => ?_, ?_⟩
  · refine (k.block i (Nat.lt_of_lt_of_le hi h.size) h1 h2 h3 (fun e => ?_)).trans (h.block i hi h1 h2 h3 h4)
    rcases h.lies with x | ⟨j, x, hj⟩
    · exact h4 (e.trans x)
    · rw [x] at e
      have := Option.some.inj e
      omega
  · rcases k.lies with x | ⟨j, x, hj⟩
    · rw [x]; exact h.lies
    · exact Or.inr ⟨j, x, Nat.le_trans h.size hj⟩
theorem PX.below (X : PX w g mb r made K M C ao c Q) (hb : Below w.heap.size w w') : PX w' g mb r made K M C ao c Q := ⟨X.P.below hb, X.R.below hb, X.q, X.s1, X.s2, X.s3⟩
/-- the reference's calls leave the pool as it is -/
theorem Pl.kr {n : Nat} {Q' : List Mde} (P : Pl w g mb made K M C) (k : Kr w w' r ao bo) (s1 : r ≠ g ∧ r ≠ mb) (s2 : ∀ k, blk ao = some k → k ≠ g ∧ k ≠ mb) (s3 : ∀ x l, M x = some l → ∀ k, blk l.bo = some k → k ≠ r ∧ blk ao ≠ some k) (_ : n = Q'.length) : Pl w' g mb made K M C := by
  obtain ⟨D, h, hM⟩ := P.map
  refine ⟨(k.block g P.g_lt (Ne.symm s1.1) (fun e => (s2 g e.symm).1 rfl)).trans P.box, ⟨D, owns_below h (k.block mb P.mb_lt (Ne.symm s1.2) (fun e => (s2 mb e.symm).2 rfl)), hM⟩, fun x l e => ?_, P.dom, P.ne⟩
  have Rx := P.row x l e
  exact ⟨Rx.bs.blkKeep fun i ei => k.block i (Rx.ne i ei).2.2 (s3 x l e i ei).1 (fun y => (s3 x l e i ei).2 y.symm), fun i ei => ⟨(Rx.ne i ei).1, (Rx.ne i ei).2.1, Nat.lt_of_lt_of_le (Rx.ne i ei).2.2 k.size⟩, Rx.big, Rx.cap⟩
theorem PX.und_no (X : PX w g mb r made K M C ao c Q) {x : Int} (h : M x = none) : und Q x = false := by
  unfold und
  split
  · rename_i hx
    rw [X.q.len] at hx
    cases hs : (Q.getD (x - 1).toNat d0).spent with
    | true => rfl
    | false =>
      obtain ⟨l, hl, -⟩ := X.q.live (x - 1).toNat (by omega) hs
      rw [show (((x - 1).toNat : Nat) : Int) + 1 = x by omega, h] at hl
      cases hl
  · rfl
theorem PX.und_some (X : PX w g mb r made K M C ao c Q) {x : Int} {l : Ltr} (h : M x = some l) : ∃ j : Nat, x = (j : Int) + 1 ∧ j < made ∧ Q.getD j d0 = ⟨l.frm, l.dst, strOfNums (C x), false⟩ := by
  have hd := X.P.dom x l h
  refine ⟨(x - 1).toNat, by omega, by omega, ?_⟩
  have e : (((x - 1).toNat : Nat) : Int) + 1 = x := by omega
  cases hs : (Q.getD (x - 1).toNat d0).spent with
  | true =>
    have := X.q.dead (x - 1).toNat (by omega) hs
    rw [e, h] at this
    cases this
  | false =>
    obtain ⟨l2, hl, hQ⟩ := X.q.live (x - 1).toNat (by omega) hs
    rw [e] at hl hQ
    rw [h] at hl
    obtain rfl := Option.some.inj hl
    exact hQ
theorem RQ.add (R : RQ M C Q made) (f t : Int) (b : Option Addr) (n cc : Nat) (Z : List Int) : RQ (mput M ((made + 1 : Nat) : Int) ⟨f, t, b, n, cc⟩) (cput C ((made + 1 : Nat) : Int) Z) (Q ++ [⟨f, t, strOfNums Z, false⟩]) (made + 1) := by
  have gd : ∀ j, j < made + 1 → (Q ++ [(⟨f, t, strOfNums Z, false⟩ : Mde)]).getD j d0 = if j < made then Q.getD j d0 else ⟨f, t, strOfNums Z, false⟩ := fun j hj => by
    simp only [List.getD_eq_getElem?_getD]
    by_cases h : j < made
    · rw [if_pos h, List.getElem?_append_left (by rw [R.len]; exact h)]
    · rw [if_neg h, show j = Q.length by have := R.len; omega]; simp
  refine ⟨by rw [List.length_append, R.len]; rfl, fun j hj hs => ?_, fun j hj hs => ?_⟩
  · rw [gd j hj] at hs
    unfold mput
    by_cases h : j < made
    · rw [if_pos h] at hs
      rw [if_neg (by omega)]
      exact R.dead j h hs
    · rw [if_neg h] at hs; cases hs
  · rw [gd j hj] at hs ⊢
    unfold mput cput
    by_cases h : j < made
    · rw [if_pos h] at hs ⊢
      rw [if_neg (by omega), if_neg (by omega)]
      exact R.live j h hs
    · rw [if_neg h, if_pos (by omega), if_pos (by omega)]
      exact ⟨_, rfl, rfl⟩
theorem getD_set {α : Type} (L : List α) (i j : Nat) (x d : α) (hi : i < L.length) : (L.set i x).getD j d = if j = i then x else L.getD j d := by
  simp only [List.getD_eq_getElem?_getD, List.getElem?_set]
  by_cases h : j = i
  · subst h; simp [hi]
  · rw [if_neg (Ne.symm h), if_neg h]
theorem RQ.del (R : RQ M C Q made) (j : Nat) (hj : j < made) (f t : Int) (s : ByteArray) : RQ (mdel M ((j : Int) + 1)) C (Q.set j ⟨f, t, s, true⟩) made := by
  refine ⟨by rw [List.length_set]; exact R.len, fun i hi hs => ?_, fun i hi hs => ?_⟩
  · rw [getD_set _ _ _ _ _ (by rw [R.len]; exact hj)] at hs
    unfold mdel
    by_cases e : i = j
    · rw [if_pos (by omega)]
    · rw [if_neg e] at hs
      rw [if_neg (by omega)]
      exact R.dead i hi hs
  · rw [getD_set _ _ _ _ _ (by rw [R.len]; exact hj)] at hs ⊢
    unfold mdel
    by_cases e : i = j
    · rw [if_pos e] at hs; cases hs
    · rw [if_neg e] at hs ⊢
      rw [if_neg (by omega)]
      exact R.live i hi hs
theorem RQ.trim (R : RQ M C Q made) (j : Nat) (hj : j < made) (f t : Int) (b : Option Addr) (lf : Nat) : RQ (mput M ((j : Int) + 1) ⟨f, t, b, lf, lf⟩) (cput C ((j : Int) + 1) ((C ((j : Int) + 1)).take lf)) (Q.set j ⟨f, t, strOfNums ((C ((j : Int) + 1)).take lf), false⟩) made := by
  refine ⟨by rw [List.length_set]; exact R.len, fun i hi hs => ?_, fun i hi hs => ?_⟩
  · rw [getD_set _ _ _ _ _ (by rw [R.len]; exact hj)] at hs
    unfold mput
    by_cases e : i = j
    · rw [if_pos e] at hs; cases hs
    · rw [if_neg e] at hs
      rw [if_neg (by omega)]
      exact R.dead i hi hs
  · rw [getD_set _ _ _ _ _ (by rw [R.len]; exact hj)] at hs ⊢
    unfold mput cput
    by_cases e : i = j
    · subst e
      rw [if_pos rfl, if_pos rfl, if_pos rfl]
      exact ⟨_, rfl, rfl⟩
    · rw [if_neg e] at hs ⊢
      rw [if_neg (by omega), if_neg (by omega)]
      exact R.live i hi hs
theorem mdel_none {x : Int} (h : M x = none) : mdel M x = M := by
  funext y
  unfold mdel
  split
  · rename_i e; rw [e, h]
  · rfl
theorem wl_wf (X : PX w g mb r made K M C ao c Q) : wl M made = wf (live Q) made := by
  unfold wl wf
  rw [List.filter_map]
  congr 1
  refine List.filter_congr (fun j hj => ?_)
  rw [List.mem_range] at hj
  show (M ((j : Int) + 1)).isSome = live Q j
  unfold live
  cases hs : (Q.getD j d0).spent with
  | true => rw [X.q.dead j hj hs]; rfl
  | false => obtain ⟨l, hl, -⟩ := X.q.live j hj hs; rw [hl]; rfl
theorem str_take (Z : List Int) (n : Nat) : (strOfNums Z).extract 0 n = strOfNums (Z.take n) := by
  have h : ((strOfNums Z).extract 0 n).data.toList = (strOfNums (Z.take n)).data.toList := by
    rw [ByteArray.data_extract, Array.toList_extract, strOfNums_data, strOfNums_data]
    simp [List.extract, List.map_take]
  cases h1 : (strOfNums Z).extract 0 n with
  | mk a =>
    cases h2 : strOfNums (Z.take n) with
    | mk b =>
      rw [h1, h2] at h
      have : a = b := Array.toList_inj.1 h
      rw [this]
end Go.Proofs.Ythagachlilnjpaa
