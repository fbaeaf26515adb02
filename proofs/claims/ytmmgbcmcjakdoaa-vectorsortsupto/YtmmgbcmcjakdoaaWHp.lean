/- plain: what is said of Heads' answer. -/
import Derived.Test.YtmmgbcmcjakdoaaWHd
namespace Go.Proofs.Ytmmgbcmcjakdoaa
open Go.RowKit Go.Sort V

theorem cmpC_zero {x y : Cn} (h : cmpC x y = 0) : x = y := by
  rw [cmpC_eq] at h
  have e := (cmpV_tot.eq _ _).1 h
  have e2 : lst x.1 = lst y.1 := congrArg Prod.snd e
  refine (eqC_iff x y).1 ?_
  unfold eqC
  rw [eqF_iff]
  intro r hr
  rw [← lst_at x.1 r hr, ← lst_at y.1 r hr, e2]
theorem cmpC_neg (x y : Cn) : cmpC y x = - cmpC x y := by
  rw [cmpC_eq, cmpC_eq]; exact cmpV_tot.neg _ _
theorem cmpC_anti {x y : Cn} (h : cmpC x y ≤ 0) (k : cmpC y x ≤ 0) : x = y := by
  rw [cmpC_neg] at k; exact cmpC_zero (by omega)
theorem comp_mem (d : Array Cn) : ∀ m, ∀ j, j < m → d[j]! ∈ Lib.compactUpTo d m
  | 0, j, h => by omega
  | m + 1, j, h => by
    rw [Lib.compactUpTo_succ, List.mem_append]
    by_cases hj : j < m
    · exact Or.inl (comp_mem d m j hj)
    · obtain rfl : j = m := by omega
      cases hk : Lib.keeps d j with
      | true => simp
      | false =>
        left
        have hh : ¬ (j = 0 ∨ d[j]! ≠ d[j - 1]!) := by unfold Lib.keeps at hk; exact of_decide_eq_false hk
        have h0 : ¬ j = 0 := fun e => hh (Or.inl e)
        have h1 : d[j]! = d[j - 1]! := Classical.byContradiction fun e => hh (Or.inr e)
        rw [h1]
        exact comp_mem d j (j - 1) (by omega)
theorem comp_of {d : Array Cn} {m : Nat} {x : Cn} (h : x ∈ Lib.compactUpTo d m) : ∃ j, j < m ∧ d[j]! = x := by
  unfold Lib.compactUpTo at h
  simp only [List.mem_map, List.mem_filter, List.mem_range] at h
  obtain ⟨j, ⟨h1, _⟩, h2⟩ := h
  exact ⟨j, h1, h2⟩
theorem sorted_at {d : Array Cn} (h : d.toList.Pairwise (fun x y => cmpC x y ≤ 0)) (i j : Nat) (hij : i < j) (hj : j < d.size) : cmpC d[i]! d[j]! ≤ 0 := by
  rw [getElem!_pos d i (by omega), getElem!_pos d j hj]
  exact List.pairwise_iff_getElem.1 h i j (by simpa using (by omega : i < d.size)) (by simpa using hj) hij
theorem comp_pair {d : Array Cn} (h : d.toList.Pairwise (fun x y => cmpC x y ≤ 0)) : ∀ m, m ≤ d.size → (Lib.compactUpTo d m).Pairwise (fun x y => cmpC x y ≤ 0 ∧ x ≠ y)
  | 0, _ => by simp [Lib.compactUpTo]
  | m + 1, hm => by
    rw [Lib.compactUpTo_succ]
    refine List.pairwise_append.2 ⟨comp_pair h m (by omega), ?_, ?_⟩
    · cases Lib.keeps d m <;> simp
    · intro x hx y hy
      cases hk : Lib.keeps d m with
      | false => rw [hk] at hy; simp at hy
      | true =>
        rw [hk] at hy
        obtain rfl : y = d[m]! := by simpa using hy
        obtain ⟨j, hj, rfl⟩ := comp_of hx
        have h1 := sorted_at h j m hj (by omega)
        refine ⟨h1, fun e => ?_⟩
        have hh : m = 0 ∨ d[m]! ≠ d[m - 1]! := by unfold Lib.keeps at hk; exact of_decide_eq_true hk
        rcases hh with hh | hh
        · omega
        · by_cases hj1 : j = m - 1
          · exact hh (by rw [← e, hj1])
          · have a1 := sorted_at h j (m - 1) (by omega) (by omega)
            have a2 := sorted_at h (m - 1) m (by omega) (by omega)
            rw [e] at a1
            exact hh (cmpC_anti a1 a2)
theorem sumN_le {f g : Nat → Int} : ∀ k, (∀ r, r < k → f r ≤ g r) → sumN f k ≤ sumN g k
  | 0, _ => Int.le_refl _
  | k + 1, h => by
    have := sumN_le k (fun r hr => h r (by omega))
    have := h k (by omega)
    unfold sumN
    omega
theorem sumN_eq {f g : Nat → Int} : ∀ k, (∀ r, r < k → f r ≤ g r) → sumN f k = sumN g k → ∀ r, r < k → f r = g r
  | 0, _, _, r, hr => by omega
  | k + 1, h, he, r, hr => by
    have h1 := sumN_le k (fun r hr => h r (by omega))
    have h2 := h k (by omega)
    unfold sumN at he
    by_cases e : r = k
    · subst e; omega
    · exact sumN_eq k (fun r hr => h r (by omega)) (by omega) r (by omega)
theorem le_cmp {x y : Cn} (h : leF y.1 x.1 = true) (k : cmpC x y ≤ 0) : x = y := by
  rw [leF_iff] at h
  have h1 := sumN_le 16 h
  by_cases e : sumN y.1 16 = sumN x.1 16
  · exact ((eqC_iff y x).1 (by unfold eqC; rw [eqF_iff]; exact sumN_eq 16 h e)).symm
  · unfold cmpC cmpV cmpI at k
    rw [if_neg (show ¬ sumN x.1 16 < sumN y.1 16 by omega), if_pos (show sumN y.1 16 < sumN x.1 16 by omega)] at k
    simp at k
theorem ord3 {x y : Cn} (h : cmpC x y ≤ 0 ∧ x ≠ y) (hb : bef x y = false) : ordF x.1 y.1 = 3 := by
  have h1 : ¬ eqF x.1 y.1 = true := fun e => h.2 ((eqC_iff x y).1 e)
  have h2 : ¬ leF y.1 x.1 = true := fun e => h.2 (le_cmp e h.1)
  have h3 : ¬ leF x.1 y.1 = true := fun e => by
    unfold bef ordF at hb
    rw [if_neg h1, if_pos e] at hb
    simp at hb
  unfold ordF
  rw [if_neg h1, if_neg h3, if_neg h2]
theorem ord3_symm {f g : Nat → Int} (h : ordF f g = 3) : ordF g f = 3 := by
  unfold ordF at h
  split at h
  · omega
  · rename_i h1
    split at h
    · omega
    · rename_i h2
      split at h
      · omega
      · rename_i h3
        unfold ordF
        rw [if_neg, if_neg h3, if_neg h2]
        intro e
        rw [eqF_iff] at e
        exact h1 ((eqF_iff f g).2 fun r hr => (e r hr).symm)
theorem hd_mem : ∀ (L : List Cn) (x : Cn), x ∈ hd L → x ∈ L
  | [], _, h => h
  | c :: t, x, h => by
    unfold hd at h
    split at h
    · exact List.mem_cons_of_mem _ (hd_mem t x h)
    · rcases List.mem_cons.1 h with e | e
      · rw [e]; exact List.mem_cons_self
      · exact List.mem_cons_of_mem _ (hd_mem t x e)
theorem hd_pair : ∀ (L : List Cn), L.Pairwise (fun x y => cmpC x y ≤ 0 ∧ x ≠ y) → (hd L).Pairwise (fun x y => ordF x.1 y.1 = 3)
  | [], _ => List.Pairwise.nil
  | c :: t, h => by
    obtain ⟨h1, h2⟩ := List.pairwise_cons.1 h
    unfold hd
    split
    · exact hd_pair t h2
    · rename_i hn
      refine List.pairwise_cons.2 ⟨fun y hy => ?_, hd_pair t h2⟩
      have hy' := hd_mem t y hy
      refine ord3 (h1 y hy') ?_
      cases hb : bef c y with
      | false => rfl
      | true => exact absurd (List.any_eq_true.2 ⟨y, hy', hb⟩) hn
theorem leF_trans {f g h : Nat → Int} (a : leF f g = true) (b : leF g h = true) : leF f h = true := by
  rw [leF_iff] at *
  intro r hr
  have := a r hr
  have := b r hr
  omega
theorem leF_refl (f : Nat → Int) : leF f f = true := by rw [leF_iff]; intro r _; exact Int.le_refl _
theorem bef_le {x y : Cn} (h : bef x y = true) : leF x.1 y.1 = true := by
  unfold bef ordF at h
  split at h
  · simp at h
  · split at h
    · assumption
    · split at h <;> simp at h
theorem hd_over : ∀ (L : List Cn) (x : Cn), x ∈ L → ∃ y, y ∈ hd L ∧ leF x.1 y.1 = true
  | [], _, h => by cases h
  | c :: t, x, h => by
    unfold hd
    rcases List.mem_cons.1 h with e | e
    · subst e
      split
      · rename_i ha
        obtain ⟨y, hy, hb⟩ := List.any_eq_true.1 ha
        obtain ⟨z, hz, hl⟩ := hd_over t y hy
        exact ⟨z, hz, leF_trans (bef_le hb) hl⟩
      · exact ⟨x, List.mem_cons_self, leF_refl _⟩
    · obtain ⟨z, hz, hl⟩ := hd_over t x e
      split
      · exact ⟨z, hz, hl⟩
      · exact ⟨z, List.mem_cons_of_mem _ hz, hl⟩
/-- most: the same or Before -/
def mostF (f g : Nat → Int) : Bool := ordF f g == 0 || ordF f g == 1
theorem mostF_le (f g : Nat → Int) : mostF f g = leF f g := by
  unfold mostF ordF
  by_cases h : eqF f g = true
  · rw [if_pos h]
    have : leF f g = true := by
      rw [leF_iff]; rw [eqF_iff] at h; intro r hr; rw [h r hr]; exact Int.le_refl _
    rw [this]; rfl
  · rw [if_neg h]
    by_cases k : leF f g = true
    · rw [if_pos k, k]; rfl
    · rw [if_neg k]
      have : leF f g = false := by simpa using k
      rw [this]
      split <;> rfl
theorem of_mapH {Y : List Sv} {d : List Cn} (h : Y.map Sv.Z = d.map (fun c : Cn => short c.1)) {k : Nat} {p : Sv} (hp : Y[k]? = some p) : ∃ c, d[k]? = some c ∧ p.Z = short c.1 := by
  have h1 : (Y.map Sv.Z)[k]? = some p.Z := by rw [List.getElem?_map, hp]; rfl
  rw [h, List.getElem?_map, Option.map_eq_some_iff] at h1
  obtain ⟨c, e1, e2⟩ := h1
  exact ⟨c, e1, e2.symm⟩
/-- what is said of the heads Y of X -/
structure HeadsOf (X Y : List Sv) : Prop where
  apart : ∀ (i j : Nat) (p q : Sv), i ≠ j → Y[i]? = some p → Y[j]? = some q → ordF (at' p.Z) (at' q.Z) = 3
  over : ∀ p, p ∈ X → ∃ q, q ∈ Y ∧ leF (at' p.Z) (at' q.Z) = true
  of : ∀ q, q ∈ Y → ∃ p, p ∈ X ∧ ∀ r, r < 16 → at' q.Z r = at' p.Z r
theorem ordF_congr {f g f' g' : Nat → Int} (h : ∀ r, r < 16 → f r = f' r) (k : ∀ r, r < 16 → g r = g' r) : ordF f g = ordF f' g' := by
  have a : eqF f g = eqF f' g' := by
    rw [Bool.eq_iff_iff, eqF_iff, eqF_iff]
    exact ⟨fun z r hr => by rw [← h r hr, ← k r hr]; exact z r hr, fun z r hr => by rw [h r hr, k r hr]; exact z r hr⟩
  have b : leF f g = leF f' g' := by
    rw [Bool.eq_iff_iff, leF_iff, leF_iff]
    exact ⟨fun z r hr => by rw [← h r hr, ← k r hr]; exact z r hr, fun z r hr => by rw [h r hr, k r hr]; exact z r hr⟩
  have c : leF g f = leF g' f' := by
    rw [Bool.eq_iff_iff, leF_iff, leF_iff]
    exact ⟨fun z r hr => by rw [← h r hr, ← k r hr]; exact z r hr, fun z r hr => by rw [h r hr, k r hr]; exact z r hr⟩
  unfold ordF
  rw [a, b, c]
theorem headsOf {X Y : List Sv} {d : Array Cn} (hy : Y.map Sv.Z = (hd (Lib.compactUpTo d d.size)).map (fun c : Cn => short c.1)) (hp : d.toList.Perm (X.map cnOf)) (ho : d.toList.Pairwise (fun x y => cmpC x y ≤ 0)) : HeadsOf X Y := by
  have hP := hd_pair _ (comp_pair ho d.size (Nat.le_refl _))
  have hin : ∀ c, c ∈ d.toList → c ∈ Lib.compactUpTo d d.size := fun c hc => by
    obtain ⟨j, hj, e⟩ := List.getElem_of_mem hc
    have hj' : j < d.size := by simpa using hj
    have := comp_mem d d.size j hj'
    rw [getElem!_pos d j hj'] at this
    rw [← e]; simpa using this
  have hout : ∀ c, c ∈ Lib.compactUpTo d d.size → c ∈ d.toList := fun c hc => by
    obtain ⟨j, hj, e⟩ := comp_of hc
    rw [← e, getElem!_pos d j hj]; simp
  refine ⟨fun i j p q hij hi hj => ?_, fun p hp' => ?_, fun q hq => ?_⟩
  · have hOc := of_mapH hy hi
    obtain ⟨c, hc, ec⟩ := hOc
    have hOc' := of_mapH hy hj
    obtain ⟨c', hc', ec'⟩ := hOc'
    have a1 : ∀ r, r < 16 → at' p.Z r = c.1 r := fun r hr => by rw [ec]; exact at_short c.2.1 r hr
    have a2 : ∀ r, r < 16 → at' q.Z r = c'.1 r := fun r hr => by rw [ec']; exact at_short c'.2.1 r hr
    rw [ordF_congr a1 a2]
    obtain ⟨li, ei⟩ := List.getElem?_eq_some_iff.1 hc
    obtain ⟨lj, ej⟩ := List.getElem?_eq_some_iff.1 hc'
    rcases Nat.lt_or_gt_of_ne hij with h | h
    · have := List.pairwise_iff_getElem.1 hP i j li lj h
      rwa [ei, ej] at this
    · have := List.pairwise_iff_getElem.1 hP j i lj li h
      rw [ei, ej] at this
      exact ord3_symm this
  · obtain ⟨y, hyy, hl⟩ := hd_over _ (cnOf p) (hin _ (hp.mem_iff.2 (List.mem_map_of_mem hp')))
    obtain ⟨k, hk, ek⟩ := List.getElem_of_mem hyy
    have hk2 : k < Y.length := by have := congrArg List.length hy; simp only [List.length_map] at this; omega
    have hOc := of_mapH hy (List.getElem?_eq_getElem hk2)
    obtain ⟨c, hc, ec⟩ := hOc
    obtain ⟨lc, e2⟩ := List.getElem?_eq_some_iff.1 hc
    have ecy : c = y := by rw [← e2, ← ek]
    refine ⟨Y[k], List.getElem_mem hk2, ?_⟩
    rw [leF_iff] at hl ⊢
    intro r hr
    rw [ec, at_short c.2.1 r hr, ecy]
    exact hl r hr
  · obtain ⟨k, hk, ek⟩ := List.getElem_of_mem hq
    have hOc := of_mapH hy (List.getElem?_eq_getElem hk)
    obtain ⟨c, hc, ec⟩ := hOc
    have hm := hout _ (hd_mem _ _ (List.mem_of_getElem? hc))
    obtain ⟨p, hpX, ep⟩ := List.mem_map.1 (hp.mem_iff.1 hm)
    refine ⟨p, hpX, fun r hr => ?_⟩
    rw [← ek, ec, at_short c.2.1 r hr, ← ep]
    rfl
/-- what the Merge of the first k has -/
theorem mergeF_le {Z : Nat → List Int} {b : Int} (hb : 0 ≤ b) {r : Nat} : ∀ k, (∀ t, t < k → at' (Z t) r ≤ b) → mergeF Z k r ≤ b
  | 0, _ => hb
  | k + 1, h => by
    have h1 := mergeF_le hb k (fun t ht => h t (by omega))
    have h2 := h k (by omega)
    show (if mergeF Z k r < at' (Z k) r then at' (Z k) r else mergeF Z k r) ≤ b
    split <;> assumption
theorem le_mergeF {Z : Nat → List Int} {r : Nat} : ∀ k t, t < k → at' (Z t) r ≤ mergeF Z k r
  | 0, t, h => by omega
  | k + 1, t, h => by
    show at' (Z t) r ≤ if mergeF Z k r < at' (Z k) r then at' (Z k) r else mergeF Z k r
    by_cases e : t = k
    · subst e; split <;> omega
    · have := le_mergeF (Z := Z) (r := r) k t (by omega)
      split <;> omega
theorem mergeF_nn {Z : Nat → List Int} {r : Nat} : ∀ k, 0 ≤ mergeF Z k r
  | 0 => Int.le_refl _
  | k + 1 => by
    have := mergeF_nn (Z := Z) (r := r) k
    show 0 ≤ if mergeF Z k r < at' (Z k) r then at' (Z k) r else mergeF Z k r
    split <;> omega
/-- the numbers of the k-th vector of a row -/
def rowZ (X : List Sv) (t : Nat) : List Int := (X.getD t ⟨none, 0, 0, []⟩).Z
theorem rowZ_mem {X : List Sv} {t : Nat} (h : t < X.length) : ∃ p, p ∈ X ∧ rowZ X t = p.Z := by
  refine ⟨X[t], List.getElem_mem h, ?_⟩
  unfold rowZ; rw [List.getD_eq_getElem?_getD, List.getElem?_eq_getElem h]; rfl
theorem rowZ_of {X : List Sv} {p : Sv} (h : p ∈ X) : ∃ t, t < X.length ∧ rowZ X t = p.Z := by
  obtain ⟨t, ht, e⟩ := List.getElem_of_mem h
  refine ⟨t, ht, ?_⟩
  unfold rowZ; rw [List.getD_eq_getElem?_getD, List.getElem?_eq_getElem ht, e]; rfl
theorem merge_heads {X Y : List Sv} (H : HeadsOf X Y) : short (mergeF (rowZ Y) Y.length) = short (mergeF (rowZ X) X.length) := by
  refine short_congr fun r hr => ?_
  have h1 : mergeF (rowZ Y) Y.length r ≤ mergeF (rowZ X) X.length r := mergeF_le (mergeF_nn _) _ fun t ht => by
    obtain ⟨q, hq, e⟩ := rowZ_mem ht
    obtain ⟨p, hp, ep⟩ := H.of q hq
    obtain ⟨s, hs, es⟩ := rowZ_of hp
    rw [e, ep r hr, ← es]
    exact le_mergeF _ s hs
  have h2 : mergeF (rowZ X) X.length r ≤ mergeF (rowZ Y) Y.length r := mergeF_le (mergeF_nn _) _ fun t ht => by
    obtain ⟨p, hp, e⟩ := rowZ_mem ht
    obtain ⟨q, hq, hl⟩ := H.over p hp
    obtain ⟨s, hs, es⟩ := rowZ_of hq
    rw [leF_iff] at hl
    have a := hl r hr
    have b := le_mergeF (Z := rowZ Y) (r := r) _ s hs
    rw [es] at b
    rw [e]
    omega
  omega
theorem VRow.rowsL {w : World} {ao : Option Addr} {n c : Nat} {X : List Sv} (h : VRow w ao n X) : RowsL w ao n c (fun t => (X.getD t ⟨none, 0, 0, []⟩).vo) (fun t => (X.getD t ⟨none, 0, 0, []⟩).vn) (fun t => (X.getD t ⟨none, 0, 0, []⟩).vc) (rowZ X) := by
  have e : ∀ t, t < n → ∃ p, X[t]? = some p ∧ X.getD t ⟨none, 0, 0, []⟩ = p := fun t ht => by
    have ht' : t < X.length := by rw [h.len]; exact ht
    exact ⟨X[t], List.getElem?_eq_getElem ht', by rw [List.getD_eq_getElem?_getD, List.getElem?_eq_getElem ht']; rfl⟩
  refine ⟨h.nil, fun ad ha t ht => ?_, fun t ht => ?_⟩
  · obtain ⟨p, hp, ep⟩ := e t ht
    rw [ep]; exact h.cell ad ha t p hp
  · obtain ⟨p, hp, ep⟩ := e t ht
    unfold rowZ
    rw [ep]; exact h.src p (List.mem_of_getElem? hp)
/-- the five of the law -/
def cL (Z : List Int) : Cn := ⟨at' Z, bnd_at Z, fun r hr => by unfold at'; rw [if_neg (by omega)]⟩
def five : List Cn := [cL [], cL [0, 1], cL [1], cL [2], cL [2]]
theorem five_two : (hd (Lib.compactUpTo five.toArray five.toArray.size)).length = 2 := by decide +kernel
theorem five_sorted : five.Pairwise (fun x y => cmpC x y ≤ 0) := by
  have h : ∀ i, i < 5 → ∀ j, j < 5 → i < j → cmpC (five.getD i c0) (five.getD j c0) ≤ 0 := by decide +kernel
  refine List.pairwise_iff_getElem.2 fun i j hi hj hij => ?_
  have := h i hi j hj hij
  rwa [List.getD_eq_getElem?_getD, List.getD_eq_getElem?_getD, List.getElem?_eq_getElem hi, List.getElem?_eq_getElem hj] at this
theorem five_heads {d : Array Cn} (hp : d.toList.Perm [cL [1], cL [2], cL [0, 1], cL [2], cL []]) (ho : d.toList.Pairwise (fun x y => cmpC x y ≤ 0)) : (hd (Lib.compactUpTo d d.size)).length = 2 := by
  have hq : d.toList.Perm five := hp.trans (by decide +kernel)
  have e : d.toList = five := hq.eq_of_pairwise (fun a b _ _ h k => cmpC_anti h k) ho five_sorted
  have e2 : d = five.toArray := by rw [← e]
  rw [e2]; exact five_two
end Go.Proofs.Ytmmgbcmcjakdoaa
