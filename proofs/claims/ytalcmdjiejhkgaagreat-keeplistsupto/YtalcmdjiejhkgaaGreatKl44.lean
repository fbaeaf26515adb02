/- HFp -/
import Derived.Test.YtalcmdjiejhkgaaGreatKl25
import Derived.Test.YtalcmdjiejhkgaaGreatKl36
import Derived.Test.YtalcmdjiejhkgaaGreatKl41
namespace Go.Proofs.YtalcmdjiejhkgaaGreat
open Go.RowKit
theorem ck_fst {x y : Rp} (h : ck x y < 0) : cmpS x.1 y.1 < 0 ∨ x.1 = y.1 := by
 unfold ck at h
 by_cases e : cmpS x.1 y.1 = 0
 ·exact .inr ((cmpS_tot.eq _ _).1 e)
 ·rw [if_neg e] at h; exact .inl h
theorem srt_sku {L : List Rc} (hs : Srt ck (plR L)) {a b : Nat} (hab : a < b) (hb : b < L.length) : cmpS (L.getD a rc0).s (L.getD b rc0).s < 0 ∨ (L.getD a rc0).s = (L.getD b rc0).s := by
 unfold Srt at hs
 rw [plR_rck, List.pairwise_map, List.pairwise_iff_getElem] at hs
 have h := ck_fst (hs a b (by omega) hb hab)
 rw [rcD_at (by omega), rcD_at hb]
 exact h
theorem cmpS_nil (s : ByteArray) : ¬ cmpS s nilF < 0 := by
 unfold cmpS nilF
 cases s.data.toList with
 | nil => simp [Lib.compareBytes]
 | cons a t => simp [Lib.compareBytes]
def Bnd (L : List Rc) (i : Nat) : Prop := ∀ a b, a < i -> i <= b -> b < L.length -> cmpS (L.getD a rc0).s (L.getD b rc0).s < 0
theorem grp_next {L : List Rc} (hs : Srt ck (plR L)) {i j : Nat} (hb : Bnd L i) (hij : i < j) (hj : j <= L.length) (hg : ∀ k, i <= k -> k < j -> (L.getD k rc0).s = (L.getD i rc0).s) (he : j < L.length -> (L.getD j rc0).s ≠ (L.getD i rc0).s) :
  Bnd L j /\ ∀ k, k < L.length -> ((L.getD k rc0).s = (L.getD i rc0).s ↔ i <= k /\ k < j) := by
 have up : ∀ b, j <= b -> b < L.length -> cmpS (L.getD i rc0).s (L.getD b rc0).s < 0 := fun b h1 h2 => by
  have h3 : cmpS (L.getD i rc0).s (L.getD j rc0).s < 0 := (srt_sku hs hij (by omega)).resolve_right (fun e => he (by omega) e.symm)
  by_cases e : b = j
  ·rw [e]; exact h3
  ·rcases srt_sku hs (show j < b by omega) h2 with h4 | h4
   ·exact cmpS_tot.lt h3 (by omega)
   ·rw [<- h4]; exact h3
 refine ⟨fun a b h1 h2 h3 => ?_, fun k hk => ⟨fun e => ⟨?_, ?_⟩, fun ⟨h1, h2⟩ => hg k h1 h2⟩⟩
 ·by_cases h4 : a < i
  ·exact hb a b h4 (by omega) h3
  ·rw [hg a (by omega) h1]; exact up b h2 h3
 ·rcases Nat.lt_or_ge k i with h | h
  ·have := hb k i h (Nat.le_refl _) (by omega)
   rw [e] at this
   exact absurd this (cmpS_tot.irr _)
  ·exact h
 ·rcases Nat.lt_or_ge k j with h | h
  ·exact h
  ·have := up k h hk
   rw [e] at this
   exact absurd this (cmpS_tot.irr _)
def seg (L : List Rc) (i j : Nat) : List Rc := (L.drop i).take (j - i)
theorem seg_self (L : List Rc) (i : Nat) : seg L i i = [] := by unfold seg; rw [Nat.sub_self]; rfl
theorem seg_snoc {L : List Rc} {i j : Nat} (hij : i <= j) (hj : j < L.length) : seg L i (j + 1) = seg L i j ++ [L.getD j rc0] := by
 unfold seg
 rw [show j + 1 - i = (j - i) + 1 by omega, List.take_succ_eq_append_getElem (by rw [List.length_drop]; omega), List.getElem_drop, rcD_at hj]
 congr 3
 omega
theorem seg_mem {L : List Rc} {i j : Nat} (hij : i <= j) (hj : j <= L.length) {x : Rc} : x ∈ seg L i j ↔ ∃ k, i <= k /\ k < j /\ L.getD k rc0 = x := by
 unfold seg
 constructor
 ·intro h
  obtain ⟨t, ht, rfl⟩ := List.getElem_of_mem h
  have ht2 : t < j - i := by rw [List.length_take, List.length_drop] at ht; omega
  refine ⟨i + t, by omega, by omega, ?_⟩
  rw [rcD_at (by omega), List.getElem_take, List.getElem_drop]
 ·rintro ⟨k, h1, h2, rfl⟩
  rw [rcD_at (by omega)]
  have e : L[k]'(by omega) = ((L.drop i).take (j - i))[k - i]'(by rw [List.length_take, List.length_drop]; omega) := by
   rw [List.getElem_take, List.getElem_drop]; congr 1; omega
  rw [e]
  exact List.getElem_mem _
theorem wt_sub {X Y : List Pv} (h : X.Sublist Y) : wt X <= wt Y := by
 induction h with
 | slnil => exact Nat.le_refl _
 | cons a _ ih => simp only [wt]; omega
 | cons_cons a _ ih => simp only [wt]; omega
theorem wt_seg {L : List Rc} {i j : Nat} {s : ByteArray} (h : ∀ x ∈ seg L i j, x.s = s) : wt ((seg L i j).map (fun r => r.p)) <= wt (ofS L s) := by
 refine wt_sub ?_
 unfold ofS
 have hs : (seg L i j).Sublist L := (List.take_sublist _ _).trans (List.drop_sublist _ _)
 have e : (seg L i j).filter (fun r => decide (r.s = s)) = seg L i j := List.filter_eq_self.2 fun x hx => by simp [h x hx]
 have := (hs.filter (fun r => decide (r.s = s))).map (fun r => r.p)
 rwa [e] at this
def AllP (L : List Rc) (i : Nat) (Q : Pst) : Prop := ∀ r, r < 16 -> ∀ n, mem (runsAt Q r) n ↔ ∃ k, k < i /\ k < L.length /\ (L.getD k rc0).s = nilF /\ mem (runsAt (L.getD k rc0).p.P r) n
theorem AllP.start (L : List Rc) : AllP L 0 pv0.P := fun r hr n => by
 constructor
 ·intro h
  rw [mem_runs pv0.P r hr] at h
  obtain ⟨h1, -, h2 | ⟨c, hc, -⟩⟩ := h
  ·have : (pv0.P.vec.getD r 0 : Int) = 0 := by simp [pv0]
   omega
  ·cases hc
 ·rintro ⟨k, h, -⟩; omega
theorem AllP.whole {L : List Rc} {i : Nat} {Q : Pst} (h : AllP L i Q) (hn : ∀ k, i <= k -> k < L.length -> (L.getD k rc0).s ≠ nilF) {r : Nat} (hr : r < 16) {n : Int} : mem (runsAt Q r) n ↔ ∃ x ∈ L, x.s = nilF /\ mem (runsAt x.p.P r) n := by
 rw [h r hr n]
 constructor
 ·rintro ⟨k, h1, h2, h3, h4⟩
  exact ⟨L.getD k rc0, rcD_mem h2, h3, h4⟩
 ·rintro ⟨x, hx, h3, h4⟩
  obtain ⟨k, hk, rfl⟩ := List.getElem_of_mem hx
  rw [<- rcD_at hk] at h3 h4
  exact ⟨k, Nat.lt_of_not_le (fun q => hn k q hk h3), hk, h3, h4⟩
theorem grp_past {L : List Rc} {i j : Nat} {P : Pst} (hij : i < j) (hj : j <= L.length) (hk : ∀ k, k < L.length -> ((L.getD k rc0).s = (L.getD i rc0).s ↔ i <= k /\ k < j)) (hC : CanonOf (runsOf ((seg L i j).map (fun r => r.p))) P) {r : Nat} (hr : r < 16) {n : Int} :
  mem (runsAt P r) n ↔ ∃ x ∈ L, x.s = (L.getD i rc0).s /\ mem (runsAt x.p.P r) n := by
 rw [canon_mem hC r hr n, runsOf_mem]
 constructor
 ·rintro ⟨p, hp, h⟩
  obtain ⟨x, hx, rfl⟩ := List.mem_map.1 hp
  obtain ⟨k, h1, h2, rfl⟩ := (seg_mem (by omega) hj).1 hx
  exact ⟨_, rcD_mem (by omega), (hk k (by omega)).2 ⟨h1, h2⟩, h⟩
 ·rintro ⟨x, hx, h1, h2⟩
  obtain ⟨k, hkl, rfl⟩ := List.getElem_of_mem hx
  rw [<- rcD_at hkl] at h1 h2
  obtain ⟨h3, h4⟩ := (hk k hkl).1 h1
  exact ⟨_, List.mem_map.2 ⟨L.getD k rc0, (seg_mem (by omega) hj).2 ⟨k, h3, h4, rfl⟩, rfl⟩, h2⟩
theorem AllP.next {L : List Rc} {i j : Nat} {Q : Pst} (h : AllP L i Q) (hij : i <= j) (hn : ∀ k, i <= k -> k < j -> (L.getD k rc0).s ≠ nilF) : AllP L j Q := fun r hr n => by
 rw [h r hr n]
 constructor
 ·rintro ⟨k, h1, h2⟩; exact ⟨k, by omega, h2⟩
 ·rintro ⟨k, h1, h2, h3, h4⟩
  exact ⟨k, Nat.lt_of_not_le (fun q => hn k q h1 h3), h2, h3, h4⟩
theorem AllP.nil {L : List Rc} {i j : Nat} {P : Pst} (_ : j <= L.length) (_ : i < j) (hs : (L.getD i rc0).s = nilF) (hk : ∀ k, k < L.length -> ((L.getD k rc0).s = (L.getD i rc0).s ↔ i <= k /\ k < j)) (hP : ∀ r, r < 16 -> ∀ n, mem (runsAt P r) n ↔ ∃ x ∈ L, x.s = (L.getD i rc0).s /\ mem (runsAt x.p.P r) n) : AllP L j P := fun r hr n => by
 rw [hP r hr n, hs]
 constructor
 ·rintro ⟨x, hx, h1, h2⟩
  obtain ⟨k, hkl, rfl⟩ := List.getElem_of_mem hx
  rw [<- rcD_at hkl] at h1 h2
  exact ⟨k, ((hk k hkl).1 (by rw [hs]; exact h1)).2, hkl, h1, h2⟩
 ·rintro ⟨k, h1, h2, h3, h4⟩
  exact ⟨_, rcD_mem h2, h3, h4⟩
theorem foldM_nil {L : List Rc} {r : Nat} {n : Int} : FoldM L nilF r n ↔ ∃ x ∈ L, x.s = nilF /\ mem (runsAt x.p.P r) n := by
 unfold FoldM
 exact ⟨fun h => h.1, fun h => ⟨h, fun q => absurd rfl q⟩⟩
theorem foldM_no {L : List Rc} {s : ByteArray} (hs : s ≠ nilF) {r : Nat} {n : Int} : FoldM L s r n ↔ (∃ x ∈ L, x.s = s /\ mem (runsAt x.p.P r) n) /\ ¬ ∃ x ∈ L, x.s = nilF /\ mem (runsAt x.p.P r) n := by
 unfold FoldM
 exact ⟨fun h => ⟨h.1, h.2 hs⟩, fun h => ⟨h.1, fun _ => h.2⟩⟩
structure RfI (L : List Rc) (i : Nat) (T : List (List UInt8)) (F : List Rc) (Q : Pst) : Prop where
 pre : FPre L T F
 rise : T.Pairwise (fun a b => Lib.compareBytes a b < 0)
 keys : ∀ t, t ∈ T ↔ ∃ k, k < i /\ k < L.length /\ (L.getD k rc0).s = ⟨t.toArray⟩
 bnd : Bnd L i
 all : AllP L i Q
theorem RfI.start (L : List Rc) : RfI L 0 [] [] pv0.P := ⟨FPre.start L, List.Pairwise.nil, fun t => ⟨fun h => (by cases h), fun ⟨k, h, _⟩ => by omega⟩, fun a b h => by omega, AllP.start L⟩
theorem RfI.keysN {L : List Rc} {i j : Nat} {T : List (List UInt8)} {F : List Rc} {Q : Pst} (I : RfI L i T F Q) (hij : i < j) (hj : j <= L.length) (hg : ∀ k, i <= k -> k < j -> (L.getD k rc0).s = (L.getD i rc0).s) :
  (T ++ [(L.getD i rc0).s.data.toList]).Pairwise (fun a b => Lib.compareBytes a b < 0) /\ ∀ t, t ∈ T ++ [(L.getD i rc0).s.data.toList] ↔ ∃ k, k < j /\ k < L.length /\ (L.getD k rc0).s = ⟨t.toArray⟩ := by
 refine ⟨List.pairwise_append.2 ⟨I.rise, List.pairwise_singleton _ _, fun t ht u hu => ?_⟩, fun t => ?_⟩
 ·rw [List.mem_singleton] at hu
  subst hu
  obtain ⟨k, h1, h2, h3⟩ := (I.keys t).1 ht
  have := I.bnd k i h1 (Nat.le_refl _) (by omega)
  rw [h3] at this
  simpa [cmpS] using this
 ·rw [List.mem_append, I.keys, List.mem_singleton]
  constructor
  ·rintro (⟨k, h1, h2, h3⟩ | rfl)
   ·exact ⟨k, by omega, h2, h3⟩
   ·exact ⟨i, hij, by omega, by simp⟩
  ·rintro ⟨k, h1, h2, h3⟩
   by_cases h4 : k < i
   ·exact .inl ⟨k, h4, h2, h3⟩
   ·right
    rw [<- hg k (by omega) h1, h3]
theorem RfI.skip {L : List Rc} {i j : Nat} {T : List (List UInt8)} {F : List Rc} {Q Q' : Pst} (I : RfI L i T F Q) (hs : Srt ck (plR L)) (hij : i < j) (hj : j <= L.length) (hg : ∀ k, i <= k -> k < j -> (L.getD k rc0).s = (L.getD i rc0).s) (he : j < L.length -> (L.getD j rc0).s ≠ (L.getD i rc0).s)
  (hQ : AllP L j Q') (hE : ∀ r, r < 16 -> ∀ n, ¬ FoldM L (L.getD i rc0).s r n) : RfI L j (T ++ [(L.getD i rc0).s.data.toList]) F Q' :=
 ⟨I.pre.skip _ (by simpa using hE), (I.keysN hij hj hg).1, (I.keysN hij hj hg).2, (grp_next hs I.bnd hij hj hg he).1, hQ⟩
theorem RfI.add {L : List Rc} {i j : Nat} {T : List (List UInt8)} {F : List Rc} {Q Q' : Pst} {x : Rc} (I : RfI L i T F Q) (hs : Srt ck (plR L)) (hij : i < j) (hj : j <= L.length) (hg : ∀ k, i <= k -> k < j -> (L.getD k rc0).s = (L.getD i rc0).s) (he : j < L.length -> (L.getD j rc0).s ≠ (L.getD i rc0).s)
  (hQ : AllP L j Q') (hx : x.s = (L.getD i rc0).s) (hI : IsP (FoldM L x.s) x.p.P) (hE : ¬ EmptyP x.p.P) : RfI L j (T ++ [(L.getD i rc0).s.data.toList]) (F ++ [x]) Q' :=
 ⟨I.pre.add _ x (by rw [hx]) hI hE, (I.keysN hij hj hg).1, (I.keysN hij hj hg).2, (grp_next hs I.bnd hij hj hg he).1, hQ⟩
theorem RfI.done {L : List Rc} {T : List (List UInt8)} {F : List Rc} {Q : Pst} (I : RfI L L.length T F Q) : FoldOf L F :=
 I.pre.done I.rise (fun t => by
  rw [I.keys]
  constructor
  ·rintro ⟨k, h1, -, h3⟩
   exact ⟨_, rcD_mem h1, h3⟩
  ·rintro ⟨r, hr, h3⟩
   obtain ⟨k, hk, rfl⟩ := List.getElem_of_mem hr
   exact ⟨k, hk, hk, by rw [rcD_at hk]; exact h3⟩)
end Go.Proofs.YtalcmdjiejhkgaaGreat
