/- Plain: a group of marks of one place; beyond the last mark nothing is kept. -/
import Derived.Test.YtpolleieajgheaaDoorSPl
namespace Go.Proofs.YtpolleieajgheaaDoor

theorem getD_of_lt {l : List Mk} {k : Nat} (h : k < l.length) : l.getD k mk0 = l[k] := by simp [List.getD, h]
theorem Ris.le {l : List Mk} (h : Ris l) {i j : Nat} (hij : i ≤ j) (hj : j < l.length) : (l.getD i mk0).pos ≤ (l.getD j mk0).pos := by
  rw [getD_of_lt (by omega), getD_of_lt hj]
  rcases Nat.eq_or_lt_of_le hij with e | e
  · subst e; exact Int.le_refl _
  · exact List.pairwise_iff_getElem.1 h i j (by omega) hj e
theorem mem_take_at {l : List Mk} {k : Nat} {a : Mk} (h : a ∈ l.take k) : ∃ i, i < k ∧ i < l.length ∧ l.getD i mk0 = a := by
  obtain ⟨i, hi, e⟩ := List.mem_iff_getElem.1 h
  rw [List.length_take] at hi
  refine ⟨i, by omega, by omega, ?_⟩
  rw [getD_of_lt (by omega), ← e, List.getElem_take]
theorem mem_drop_at {l : List Mk} {k : Nat} {a : Mk} (h : a ∈ l.drop k) : ∃ i, k ≤ i ∧ i < l.length ∧ l.getD i mk0 = a := by
  obtain ⟨i, hi, e⟩ := List.mem_iff_getElem.1 h
  rw [List.length_drop] at hi
  refine ⟨k + i, by omega, by omega, ?_⟩
  rw [getD_of_lt (by omega), ← e, List.getElem_drop]
theorem drop_mem_at {l : List Mk} {k i : Nat} (hk : k ≤ i) (hi : i < l.length) : l.getD i mk0 ∈ l.drop k := by
  rw [getD_of_lt hi]
  refine List.mem_iff_getElem.2 ⟨i - k, by rw [List.length_drop]; omega, ?_⟩
  rw [List.getElem_drop]
  congr 1
  omega
theorem take_mem_at {l : List Mk} {k i : Nat} (hk : i < k) (hi : i < l.length) : l.getD i mk0 ∈ l.take k := by
  rw [getD_of_lt hi]
  refine List.mem_iff_getElem.2 ⟨i, by rw [List.length_take]; omega, ?_⟩
  rw [List.getElem_take]
/-- the group of place x from k to k' -/
structure Grp (l : List Mk) (k k' : Nat) (x : Int) : Prop where
  h1 : ∀ a, a ∈ l.take k' → a.pos ≤ x
  h2 : ∀ b, b ∈ l.drop k' → x < b.pos
  h3 : ∀ b, b ∈ l.drop k → x ≤ b.pos
  h0 : ∃ b, b ∈ l.drop k ∧ b.pos = x
theorem grp {l : List Mk} {k k' : Nat} {x : Int} (hr : Ris l) (hk : k < l.length) (hx : (l.getD k mk0).pos = x) (hkk : k ≤ k') (hk' : k' ≤ l.length) (hg : ∀ i, k ≤ i → i < k' → (l.getD i mk0).pos = x) (hn : k' < l.length → (l.getD k' mk0).pos ≠ x) : Grp l k k' x := by
  refine ⟨fun a ha => ?_, fun b hb => ?_, fun b hb => ?_, ⟨_, drop_mem_at (Nat.le_refl _) hk, hx⟩⟩
  · obtain ⟨i, h1, h2, rfl⟩ := mem_take_at ha
    by_cases c : i < k
    · rw [← hx]; exact hr.le (by omega) hk
    · rw [hg i (by omega) h1]; exact Int.le_refl _
  · obtain ⟨i, h1, h2, rfl⟩ := mem_drop_at hb
    have a1 := hn (by omega)
    have a2 := hr.le (i := k) (j := k') hkk (by omega)
    have a3 := hr.le (i := k') (j := i) h1 h2
    rw [hx] at a2
    omega
  · obtain ⟨i, h1, h2, rfl⟩ := mem_drop_at hb
    rw [← hx]; exact hr.le h1 h2
theorem end_zero {how : Int} {Y : List (List Rn)} {l : List Mk} (hq : 0 < Y.length) (hp : l.Perm (mksTo Y Y.length)) : ¬ kp how Y.length (dp (l.take l.length)) := by
  rw [kp_congr (E := fun _ => 0) (fun s => by rw [List.take_length, dp_perm hp, dp_mks])]
  exact kp_zero hq
theorem SwInv.skip' {how : Int} {q : Nat} {l : List Mk} {k k' : Nat} {out : List Rn} {x : Int} (h : SwInv how q l k out) (hk : k ≤ k') (g : Grp l k k' x) (hn : ¬ kp how q (dp (l.take k'))) : SwInv how q l k' out := h.skip hk g.h1 g.h2 g.h3 g.h0 hn
theorem SwInv.keep' {how : Int} {q : Nat} {l : List Mk} {k k' : Nat} {out : List Rn} {x y : Int} (h : SwInv how q l k out) (hr : Ris l) (hk : k ≤ k') (hk' : k' < l.length) (g : Grp l k k' x) (hy : (l.getD k' mk0).pos = y) (hx1 : 1 ≤ x) (hy2 : y ≤ 1000000001) (hn : kp how q (dp (l.take k'))) : SwInv how q l k' (lay out x (y - 1)) := by
  refine h.keep hk g.h1 (fun b hb => ?_) g.h3 g.h0 ⟨_, drop_mem_at (Nat.le_refl _) hk', hy⟩ hx1 ?_ hy2 hn
  · obtain ⟨i, h1, h2, rfl⟩ := mem_drop_at hb
    rw [← hy]; exact hr.le h1 h2
  · rw [← hy]; exact g.h2 _ (drop_mem_at (Nat.le_refl _) hk')
theorem out_bound {how : Int} {q : Nat} {l : List Mk} {k : Nat} {i : List Rn} {r : Rn} (h : SwInv how q l k (i ++ [r])) : 1 ≤ r.lo ∧ r.lo ≤ r.hi ∧ r.hi ≤ 1000000000 := form_last h.frm
theorem take_getD {l : List Mk} {k : Nat} (h : k < l.length) : l.take (k + 1) = l.take k ++ [l.getD k mk0] := by
  rw [List.take_succ_eq_append_getElem h, getD_of_lt h]
end Go.Proofs.YtpolleieajgheaaDoor
