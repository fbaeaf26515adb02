/- Sorted rows of vectors; heads, plain. -/
import Derived.Test.YtmmgbcmcjakdoaaWHp
import Derived.Test.YtmmgbcmcjakdoaaWSo
namespace Go.Proofs.Ytmmgbcmcjakdoaa
open Go.RowKit V

theorem at_norm (Z : List Int) : at' (short (at' Z)) = at' Z := funext fun r => by
  by_cases h : r < 16
  · exact at_short (fun r hr => bnd_at Z r hr) r h
  · unfold at'; rw [if_neg h, if_neg h]
theorem cL_norm (Z : List Int) : cL (short (at' Z)) = cL Z := Subtype.ext (at_norm Z)
/-- what Sort's answer says -/
structure Srt (X Y : List Sv) : Prop where
  nf : ∀ p, p ∈ Y → p.Z = short (at' p.Z)
  p : (Y.map cnOf).Perm (X.map cnOf)
  s : (Y.map cnOf).Pairwise (fun x y => cmpC x y ≤ 0)
theorem Srt.z {X Y : List Sv} (h : Srt X Y) : Y.map Sv.Z = (Y.map cnOf).map (fun c : Cn => short c.1) := by
  rw [List.map_map]
  exact List.map_congr_left fun p hp => h.nf p hp
theorem sortR_d {w w' : World} {e : Ending} {n : Nat} {X : List Sv} (h : SortR w w' e n X) : ∃ lo lc Y, e = .returned (.slice lo n lc) ∧ VRow w' lo n Y ∧ Below w.heap.size w w' ∧ Srt X Y := by
  obtain ⟨lo, lc, Y, L0, he, hv, hb, hp, hs, hz⟩ := h
  refine ⟨lo, lc, Y, he, hv, hb, fun p hp' => ?_, ?_, ?_⟩
  · have h1 : p.Z ∈ L0.map Sv.Z := List.mem_map.2 ⟨p, hp.mem_iff.1 hp', rfl⟩
    rw [hz] at h1
    obtain ⟨x, _, hx⟩ := List.mem_map.1 h1
    rw [← hx, at_norm]
  · refine (hp.map cnOf).trans ?_
    have e1 : L0.map cnOf = (L0.map Sv.Z).map cL := by rw [List.map_map]; rfl
    have e2 : X.map cnOf = (X.map (fun p => short (at' p.Z))).map cL := by
      rw [List.map_map]
      exact List.map_congr_left fun x _ => (cL_norm x.Z).symm
    rw [e1, e2, hz]
  · rw [List.pairwise_map]
    exact hs.imp fun h => of_decide_eq_true h
/-- sorted answers are one -/
theorem srt_one {X : List Sv} {d e : List Cn} (hd : d.Perm (X.map cnOf)) (sd : d.Pairwise (fun x y => cmpC x y ≤ 0)) (he : e.Perm (X.map cnOf)) (se : e.Pairwise (fun x y => cmpC x y ≤ 0)) : d = e :=
  (hd.trans he.symm).eq_of_pairwise (fun _ _ _ _ h k => cmpC_anti h k) sd se
/-- the heads as the reference finds them -/
def hdR (d : Array Cn) (k : Nat) : List Cn := (Lib.compactUpTo d k).filter (fun c => !(d.toList.any (bef c)))
theorem hdR_succ (d : Array Cn) (k : Nat) : hdR d (k + 1) = hdR d k ++ (if (Lib.keeps d k && !(d.toList.any (bef d[k]!))) = true then [d[k]!] else []) := by
  unfold hdR
  rw [Lib.compactUpTo_succ, List.filter_append]
  congr 1
  cases hk : Lib.keeps d k with
  | false => simp
  | true =>
    show List.filter _ [d[k]!] = _
    rw [List.filter_cons, List.filter_nil, Bool.true_and]
theorem bef_self (c : Cn) : bef c c = false := by
  have : eqF c.1 c.1 = true := by rw [eqF_iff]; intro r _; rfl
  unfold bef ordF
  rw [if_pos this]
  rfl
theorem bef_back {x y : Cn} (h : cmpC x y ≤ 0 ∧ x ≠ y) : bef y x = false := by
  cases hb : bef y x with
  | false => rfl
  | true => exact absurd (le_cmp (bef_le hb) h.1) h.2
theorem hd_filter : ∀ L : List Cn, L.Pairwise (fun x y => cmpC x y ≤ 0 ∧ x ≠ y) → hd L = L.filter (fun c => !(L.any (bef c)))
  | [], _ => rfl
  | c :: t, h => by
    obtain ⟨h1, h2⟩ := List.pairwise_cons.1 h
    have ih := hd_filter t h2
    have e : t.filter (fun x => !((c :: t).any (bef x))) = t.filter (fun x => !(t.any (bef x))) := by
      refine List.filter_congr fun x hx => ?_
      rw [List.any_cons, bef_back (h1 x hx), Bool.false_or]
    rw [List.filter_cons, e, ← ih, List.any_cons, bef_self, Bool.false_or]
    show (if t.any (bef c) = true then hd t else c :: hd t) = _
    cases t.any (bef c)
    · rfl
    · rfl
theorem hd_ref {d : Array Cn} (h : d.toList.Pairwise (fun x y => cmpC x y ≤ 0)) : hd (Lib.compactUpTo d d.size) = hdR d d.size := by
  rw [hd_filter _ (comp_pair h d.size (Nat.le_refl _))]
  unfold hdR
  refine List.filter_congr fun c _ => ?_
  congr 1
  rw [Bool.eq_iff_iff, List.any_eq_true, List.any_eq_true]
  constructor
  · rintro ⟨x, hx, hb⟩
    obtain ⟨j, hj, rfl⟩ := comp_of hx
    exact ⟨_, by rw [getElem!_pos d j hj]; exact Array.getElem_mem_toList hj, hb⟩
  · rintro ⟨x, hx, hb⟩
    obtain ⟨j, hj, rfl⟩ := List.getElem_of_mem hx
    have hj' : j < d.size := by simpa using hj
    have := comp_mem d d.size j hj'
    rw [getElem!_pos d j hj'] at this
    exact ⟨_, by simpa using this, hb⟩
theorem any_next (d : Array Cn) (c : Cn) (j : Nat) (hj : j < d.size) : (!((d.toList.take (j + 1)).any (bef c))) = (!((d.toList.take j).any (bef c)) && !(bef c d[j]!)) := by
  rw [List.take_succ_eq_append_getElem (by simpa using hj), List.any_append, getElem!_pos d j hj]
  simp
def dOf (Y : List Sv) : Array Cn := (Y.map cnOf).toArray
theorem dOf_at (Y : List Sv) (k : Nat) (h : k < Y.length) : (dOf Y)[k]! = cnOf (Y.getD k sv0) := by
  rw [getElem!_pos _ k (by simpa [dOf] using h)]
  simp [dOf, List.getD, h]
theorem dOf_size (Y : List Sv) : (dOf Y).size = Y.length := by simp [dOf]
theorem cn_ext {x y : Cn} (h : short x.1 = short y.1) : x = y := by
  refine (eqC_iff x y).1 ?_
  unfold eqC
  rw [eqF_iff]
  exact short_inj h
theorem getD_mem {Y : List Sv} {k : Nat} (h : k < Y.length) : Y.getD k sv0 ∈ Y := by
  have e : Y.getD k sv0 = Y[k] := by simp [List.getD, h]
  rw [e]; exact List.getElem_mem h
theorem Srt.keeps {X Y : List Sv} (h : Srt X Y) (k : Nat) (hk : k + 1 < Y.length) : Lib.keeps (dOf Y) (k + 1) = !(decide ((Y.getD (k + 1) sv0).Z = (Y.getD k sv0).Z)) := by
  have e : ((dOf Y)[k + 1]! ≠ (dOf Y)[k]!) ↔ ¬ ((Y.getD (k + 1) sv0).Z = (Y.getD k sv0).Z) := by
    rw [dOf_at Y (k + 1) hk, dOf_at Y k (by omega)]
    refine not_congr ⟨fun h2 => ?_, fun h2 => cn_ext ?_⟩
    · rw [h.nf _ (getD_mem hk), h.nf _ (getD_mem (by omega : k < Y.length))]
      exact congrArg (fun c : Cn => short c.1) h2
    · have a := h.nf _ (getD_mem hk)
      have b := h.nf _ (getD_mem (by omega : k < Y.length))
      show short (at' _) = short (at' _)
      rw [← a, ← b]; exact h2
  unfold Lib.keeps
  rw [← decide_not]
  exact decide_eq_decide.2 (by simpa using e)
theorem keeps_zero (d : Array Cn) : Lib.keeps d 0 = true := by unfold Lib.keeps; simp
end Go.Proofs.Ytmmgbcmcjakdoaa
