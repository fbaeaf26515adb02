/- The reference's Lines, plain; a row's last line written over. -/
import Derived.Test.YtmhdhedjeaaciaaLFp
import Derived.Test.YtmhdhedjeaaciaaLSrs
import Derived.Deep.OwnRows
namespace Go.Proofs.Ytmhdhedjeaaciaa
open Go.RowKit

/-- the lines of these entries, which rise by SKU -/
structure LineI (P : List En) (acc : List Ln) : Prop where
  pw : acc.Pairwise (fun a b => a.sku.data.toList < b.sku.data.toList)
  mem : ∀ l, l ∈ acc ↔ ∃ e ∈ P, l = lineOf P e.sku
theorem linei_start : LineI [] [] := ⟨List.Pairwise.nil, fun l => by simp⟩
theorem LineI.self {P : List En} {acc : List Ln} (h : LineI P acc) (l : Ln) (hl : l ∈ acc) : l = lineOf P l.sku ∧ ∃ e ∈ P, e.sku = l.sku := by
  obtain ⟨e, he, rfl⟩ := (h.mem l).1 hl
  rw [line_sku P e he]
  exact ⟨rfl, e, he, rfl⟩
/-- the next entry's SKU is a new one: all lines come ahead of it -/
theorem LineI.new {P : List En} {acc : List Ln} (h : LineI P acc) (e : En) (hlt : ∀ x ∈ P, x.sku.data.toList < e.sku.data.toList) : lineOf P e.sku = ln0 ∧ LineI (P ++ [e]) (acc ++ [lineOf (P ++ [e]) e.sku]) := by
  have hne : ∀ x ∈ P, e.sku ≠ x.sku := fun x hx he => by have := hlt x hx; rw [he] at this; exact List.lt_irrefl _ this
  have h0 : ofS P e.sku = [] := by
    refine List.eq_nil_iff_forall_not_mem.2 fun x hx => ?_
    obtain ⟨h1, h2⟩ := ofS_mem.1 hx
    exact hne x h1 h2.symm
  have hs : (lineOf (P ++ [e]) e.sku).sku = e.sku := line_sku _ e (by simp)
  refine ⟨by unfold lineOf; rw [h0]; rfl, ⟨?_, fun l => ?_⟩⟩
  · refine List.pairwise_append.2 ⟨h.pw, List.pairwise_singleton _ _, fun a ha b hb => ?_⟩
    simp at hb
    subst hb
    obtain ⟨_, x, hx, hxs⟩ := h.self a ha
    rw [hs, ← hxs]
    exact hlt x hx
  · constructor
    · intro hl
      rcases List.mem_append.1 hl with hl | hl
      · obtain ⟨x, hx, rfl⟩ := (h.mem l).1 hl
        exact ⟨x, by simp [hx], (lineOf_other P e x.sku (hne x hx)).symm⟩
      · simp at hl
        exact ⟨e, by simp, hl⟩
    · rintro ⟨x, hx, rfl⟩
      rcases List.mem_append.1 hx with hx | hx
      · rw [lineOf_other P e x.sku (hne x hx)]
        exact List.mem_append.2 (Or.inl ((h.mem _).2 ⟨x, hx, rfl⟩))
      · simp at hx; subst hx; simp
/-- the next entry's SKU is the last line's -/
theorem LineI.same {P : List En} {i : List Ln} {x : Ln} (h : LineI P (i ++ [x])) (e : En) (hx : x.sku = e.sku) : x = lineOf P e.sku ∧ LineI (P ++ [e]) (i ++ [lineOf (P ++ [e]) e.sku]) := by
  have hxl : x = lineOf P e.sku := by have := (h.self x (by simp)).1; rwa [hx] at this
  have hs : (lineOf (P ++ [e]) e.sku).sku = e.sku := line_sku _ e (by simp)
  have hpw := List.pairwise_append.1 h.pw
  have hlt : ∀ a ∈ i, a.sku.data.toList < e.sku.data.toList := fun a ha => by have := hpw.2.2 a ha x (by simp); rwa [hx] at this
  refine ⟨hxl, ⟨?_, fun l => ?_⟩⟩
  · refine List.pairwise_append.2 ⟨hpw.1, List.pairwise_singleton _ _, fun a ha b hb => ?_⟩
    simp at hb
    subst hb
    rw [hs]
    exact hlt a ha
  · constructor
    · intro hl
      rcases List.mem_append.1 hl with hl | hl
      · obtain ⟨y, hy, hyl⟩ := (h.mem l).1 (by simp [hl])
        have hne : e.sku ≠ y.sku := fun he => by
          have h1 := hlt l hl
          have h2 : l.sku = y.sku := by rw [hyl]; exact line_sku P y hy
          rw [h2, ← he] at h1
          exact List.lt_irrefl _ h1
        exact ⟨y, by simp [hy], by rw [lineOf_other P e y.sku hne]; exact hyl⟩
      · simp at hl
        exact ⟨e, by simp, hl⟩
    · rintro ⟨y, hy, rfl⟩
      by_cases hye : e.sku = y.sku
      · rw [← hye]; simp
      · rcases List.mem_append.1 hy with hy | hy
        · rw [lineOf_other P e y.sku hye]
          rcases List.mem_append.1 ((h.mem _).2 ⟨y, hy, rfl⟩) with h1 | h1
          · simp [h1]
          · simp at h1
            exfalso
            have h2 : (lineOf P y.sku).sku = y.sku := line_sku P y hy
            rw [h1, hx] at h2
            exact hye h2
        · simp at hy; subst hy; exact absurd rfl hye
theorem LineI.last {P : List En} {acc : List Ln} (h : LineI P acc) (y : En) (hy : y ∈ P) (hmax : ∀ x ∈ P, x.sku.data.toList ≤ y.sku.data.toList) : ∃ i x, acc = i ++ [x] ∧ x.sku = y.sku := by
  have hm := (h.mem _).2 ⟨y, hy, rfl⟩
  cases hacc : acc.getLast? with
  | none => rw [List.getLast?_eq_none_iff] at hacc; rw [hacc] at hm; cases hm
  | some x =>
    obtain ⟨i, hi⟩ := List.getLast?_eq_some_iff.1 hacc
    refine ⟨i, x, hi, ?_⟩
    have hx : x ∈ acc := by rw [hi]; simp
    obtain ⟨_, z, hz, hzs⟩ := h.self x hx
    have h1 := hmax z hz
    rw [hzs] at h1
    have hsy : (lineOf P y.sku).sku = y.sku := line_sku P y hy
    rw [hi] at hm
    rcases List.mem_append.1 hm with h2 | h2
    · have hpw := h.pw
      rw [hi] at hpw
      have := (List.pairwise_append.1 hpw).2.2 _ h2 x (by simp)
      rw [hsy] at this
      exact absurd h1 (List.not_le.2 this)
    · simp at h2
      rw [← hsy, h2]
theorem line_perm {A B : List En} (h : A.Perm B) (s : ByteArray) (hs : ∃ e ∈ A, e.sku = s) : lineOf A s = lineOf B s := by
  obtain ⟨e, he, rfl⟩ := hs
  have h1 := line_sku A e he
  have h2 := line_sku B e (h.mem_iff.1 he)
  have h3 := line_sums A e.sku
  have h4 := line_sums B e.sku
  have hp : (ofS A e.sku).Perm (ofS B e.sku) := h.filter _
  rw [sq_perm qOf hp, ← h4.1, sq_perm oneOf hp, ← h4.2] at h3
  cases ha : lineOf A e.sku with
  | mk a b c =>
    cases hb : lineOf B e.sku with
    | mk a' b' c' =>
      rw [ha, hb] at h3
      rw [ha] at h1
      rw [hb] at h2
      simp only at h1 h2 h3
      rw [h1, h2, h3.1, h3.2]
theorem LineI.done {L M : List En} {acc : List Ln} (hp : M.Perm L) (hc : chk L = 0) (h : LineI M acc) : LinesOf L acc 0 := by
  refine Or.inr ⟨hc, rfl, h.pw, fun l => ?_⟩
  rw [h.mem l]
  constructor
  · rintro ⟨e, he, rfl⟩
    exact ⟨e, hp.mem_iff.1 he, line_perm hp _ ⟨e, he, rfl⟩⟩
  · rintro ⟨e, he, rfl⟩
    exact ⟨e, hp.mem_iff.2 he, (line_perm hp _ ⟨e, hp.mem_iff.2 he, rfl⟩).symm⟩
/-- a cell of the last line is written over -/
theorem OwnL.setEnd {B0 B : Nat} {w w' : World} {g cap : Nat} {i : List Ln} {x y : Ln} (O : OwnL B0 B w w' (some ⟨g, 0, none⟩) cap (i ++ [x])) (j : Nat) (v : Value) (hj : j < 3) (hy : (LC x).toList.set j v = (LC y).toList) :
    OwnL B0 B w (w'.setCell ⟨g, i.length * 3 + j, none⟩ v) (some ⟨g, 0, none⟩) cap (i ++ [y]) ∧ w'.frozen? ⟨g, i.length * 3 + j, none⟩ = false := by
  have hln : (i ++ [y]).length = (i ++ [x]).length := by simp
  rcases O.own.2 with ⟨h0, _⟩ | ⟨g', c, cur, hv, hbg, hgg, hnc, hcm, hcsz, htake⟩
  · cases h0
  · simp only [Value.slice.injEq, Option.some.injEq, true_and, Addr.mk.injEq, and_true] at hv
    obtain ⟨rfl, rfl⟩ := hv
    have hB := O.hB
    refine ⟨⟨⟨by rw [lcs_length], Or.inr ⟨g, cap, cur.setIfInBounds (i.length * 3 + j) v, by rw [hln], hbg, heap_setCell_same w' g (i.length * 3 + j) cur 29 _ hgg, by rw [hln]; exact hnc, hcm, by simpa using hcsz, ?_⟩⟩, O.below.setCell (by have := O.hB0; show B0 ≤ g; omega) _, by simpa [World.setCell] using hB, O.hB0⟩, by simp [World.frozen?, hgg]⟩
    rw [Array.toList_setIfInBounds, List.take_set, hln, htake, lcs_append, lcs_append, lcs_one, lcs_one, List.set_append_right _ _ (by rw [lcs_length]; omega), lcs_length]
    rw [show i.length * 3 + j - i.length * 3 = j by omega, hy]
theorem OwnL.ends {B0 B : Nat} {w w' : World} {g cap : Nat} {i : List Ln} {x : Ln} (O : OwnL B0 B w w' (some ⟨g, 0, none⟩) cap (i ++ [x])) : w'.cell? ⟨g, i.length * 3 + 1, none⟩ = some (.int .i64 x.qty) ∧ w'.cell? ⟨g, i.length * 3 + 2, none⟩ = some (.int .i64 x.parts) := by
  have h1 := O.own.cellAt (i.length * 3 + 1) (by simp; omega)
  have h2 := O.own.cellAt (i.length * 3 + 2) (by simp; omega)
  rw [lcs_append, lcs_one, List.getElem?_append_right (by rw [lcs_length]; omega), lcs_length] at h1 h2
  rw [show i.length * 3 + 1 - i.length * 3 = 1 by omega] at h1
  rw [show i.length * 3 + 2 - i.length * 3 = 2 by omega] at h2
  exact ⟨h1, h2⟩
end Go.Proofs.Ytmhdhedjeaaciaa
