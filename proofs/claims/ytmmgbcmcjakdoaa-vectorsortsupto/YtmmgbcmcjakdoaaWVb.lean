/- An argument of type [][]int, of small bulk, opened: its lists are short too. -/
import Derived.Test.YtmmgbcmcjakdoaaWVw
namespace Go.Proofs.Ytmmgbcmcjakdoaa
open Go.ChangeShapes Go.WideShapes Go.ChangeAt Go.RowKit Go.Joins Go.Deep V

theorem bulk_in {H : Type} {d : DataW H} : ∀ {l : List (DataW H)}, d ∈ l → Rows.uptoBulk d ≤ Rows.uptoBulkAll l
  | [], h => by cases h
  | e :: l, h => by
    rcases List.mem_cons.1 h with rfl | h
    · simp only [Rows.uptoBulkAll]; omega
    · have := bulk_in h; simp only [Rows.uptoBulkAll]; omega
theorem viewVB {H : Type} {enc : TypeId × Value → H} {W : World} {a0 : Option Addr} {len cap : Nat} {d : DataW H} {p : List MemPlace}
    (h : DataW.Trod enc Try.prog W 0 (fun _ => true) true 22 (Value.slice a0 len cap) d p) (hw : Rows.uptoBulk d ≤ 1048576) :
    ∃ X, VRow W a0 len X ∧ len ≤ 1048576 ∧ ∀ p, p ∈ X → p.vn ≤ 1048576 := by
  obtain ⟨fuel, hf⟩ := h
  rcases open_int_rows Try.underlying22 Try.underlying24 Try.underlying3 cellsV cellsI hf with ⟨hcs, hx⟩ | ⟨a, len', cap', A, L, C, Z, hcs, _, hl, hm, hx, hr⟩
  · simp [Value.cells] at hcs
    obtain ⟨rfl, rfl, rfl⟩ := hcs
    exact ⟨[], ⟨rfl, fun _ => rfl, (fun ad h => by cases h), (fun p h => by cases h)⟩, Nat.zero_le _, (fun p h => by cases h)⟩
  · simp [Value.cells] at hcs
    obtain ⟨rfl, rfl, rfl⟩ := hcs
    simp only [Prod.mk.injEq] at hx
    obtain ⟨rfl, _⟩ := hx
    simp only [Rows.uptoBulk] at hw
    have hb : len ≤ 1048576 := by
      have h1 := bulk_len ((List.range len).map fun r => intRow (H := H) .i64 (A r) (L r) (Z r))
      simp only [List.length_map, List.length_range] at h1
      omega
    have inb : ∀ t, t < len → L t ≤ 1048576 := fun t ht => by
      obtain ⟨_, h1, h2, h3, _, h5, _⟩ := hr t (by omega)
      have m1 : intRow (H := H) .i64 (A t) (L t) (Z t) ∈ (List.range len).map fun r => intRow (H := H) .i64 (A r) (L r) (Z r) := List.mem_map.2 ⟨t, by simpa using ht, rfl⟩
      have m2 := Nat.le_trans (bulk_in m1) (show _ ≤ 1048576 by omega)
      clear m1
      cases hA : A t with
      | none => have := h5 hA; omega
      | some ad =>
        rw [hA] at m2
        simp only [intRow, Rows.uptoBulk] at m2
        have m3 := bulk_len (lits (H := H) .i64 ((Z t).take (L t)))
        have m4 : (lits (H := H) .i64 ((Z t).take (L t))).length = L t := by simp [lits]; omega
        omega
    have src : ∀ t, t < len → Src W (A t) (L t) (C t) ((Z t).take (L t)) := fun t ht => by
      obtain ⟨_, h1, h2, h3, _, h5, h6⟩ := hr t (by omega)
      refine ⟨by simp; omega, fun hn => ?_, fun ad hh j hj => ?_⟩
      · have := h5 hn; omega
      · rw [(h6 ad hh).2 j (by omega)]
        simp [List.getD, hj]
    refine ⟨(List.range len).map (fun t => ⟨A t, L t, C t, (Z t).take (L t)⟩), ⟨by simp, (fun h => by cases h), fun ad hh t q hq => ?_, fun q hq => ?_⟩, hb, fun q hq => ?_⟩
    · obtain rfl := Option.some.inj hh
      rw [List.getElem?_map, Option.map_eq_some_iff] at hq
      obtain ⟨t', ht', rfl⟩ := hq
      obtain ⟨h1, h2⟩ := List.getElem?_eq_some_iff.1 ht'
      have e : t = t' := by simpa using h2
      subst e
      exact (hr t (by simp at h1; omega)).1
    · obtain ⟨t, ht, rfl⟩ := List.mem_map.1 hq
      exact src t (by simpa using ht)
    · obtain ⟨t, ht, rfl⟩ := List.mem_map.1 hq
      have ht' : t < len := by simpa using ht
      exact inb t ht'
end Go.Proofs.Ytmmgbcmcjakdoaa
