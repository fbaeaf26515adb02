/- An argument of type [][]int, opened once. -/
import Derived.Test.YtdilejbdkhkifaaEqA
import Derived.Test.YtdilejbdkhkifaaView
import Derived.Deep.Matrix
import Derived.SizedLaws
namespace Go.Proofs.Ytdilejbdkhkifaa
open Go.ChangeShapes Go.WideShapes Go.ChangeAt Go.RowKit Go.Joins Go.Deep

theorem cells22 : Try.prog.cellsOf 22 = 1 := by kernel_rfl
theorem bytes22 : Try.prog.bytesOf 22 = 24 := by kernel_rfl
theorem bytes3 : Try.prog.bytesOf 3 = 8 := by kernel_rfl
theorem weightsAll_mem {H : Type} (P : Program) (e : TypeId) : ∀ (l : List (DataW H)) (d : DataW H), d ∈ l → ∀ n ∈ d.weights P e, n ∈ DataW.weightsAll P e l
  | d0 :: l, d, hd, n, hn => by
    simp only [DataW.weightsAll, List.mem_append]
    rcases List.mem_cons.1 hd with rfl | h
    · exact Or.inl hn
    · exact Or.inr (weightsAll_mem P e l d h n hn)
theorem viewR {H : Type} {enc : TypeId × Value → H} {W : World} {a0 : Option Addr} {len cap : Nat} {d : DataW H} {p : List MemPlace}
    (h : DataW.Trod enc Try.prog W 0 (fun _ => true) true 42 (Value.slice a0 len cap) d p) (hw : ∀ n ∈ d.weights Try.prog 42, n ≤ reachBytes) :
    ∃ A N C Z, Rows W a0 len cap A N C Z ∧ len ≤ cap ∧ cap ≤ maxLen ∧ len ≤ 5864062014800 ∧ ∀ t, t < len → N t ≤ 17592186044416 := by
  obtain ⟨fuel, hf⟩ := h
  rcases open_int_rows Try.underlying42 Try.underlying22 Try.underlying3 cells22 cells3 hf with ⟨hcs, hx⟩ | ⟨a, len', cap', A, L, C, Z, hcs, _, hl, hm, hx, hr⟩
  · simp [Value.cells] at hcs
    obtain ⟨rfl, rfl, rfl⟩ := hcs
    exact ⟨fun _ => Option.none, fun _ => 0, fun _ => 0, fun _ => [], ⟨fun _ => ⟨rfl, rfl⟩, fun ad h => (by cases h), fun t h => by omega⟩, Nat.le_refl _, Nat.zero_le _, Nat.zero_le _, fun t h => by omega⟩
  · simp [Value.cells] at hcs
    obtain ⟨rfl, rfl, rfl⟩ := hcs
    simp only [Prod.mk.injEq] at hx
    obtain ⟨rfl, _⟩ := hx
    simp only [DataW.weights, Try.underlying42, bytes22] at hw
    refine ⟨A, L, C, fun t => (Z t).take (L t), ⟨fun h => (by cases h), fun ad hh t ht => ?_, fun t ht => ?_⟩, hl, hm, ?_, fun t ht => ?_⟩
    · obtain rfl := Option.some.inj hh
      exact (hr t (by omega)).1
    · obtain ⟨_, h1, h2, h3, _, h5, h6⟩ := hr t (by omega)
      refine ⟨by simp; omega, fun hn => ?_, fun ad hh j hj => ?_⟩
      · have := h5 hn; omega
      · rw [(h6 ad hh).2 j (by omega)]
        simp [List.getD, hj]
    · have := hw _ (List.mem_cons_self ..)
      simp [reachBytes] at this
      omega
    · obtain ⟨_, h1, h2, h3, _, h5, h6⟩ := hr t (by omega)
      cases hA : A t with
      | none => have := h5 hA; omega
      | some ad =>
        have hmem : intRow (H := H) .i64 (A t) (L t) (Z t) ∈ (List.range len).map fun r => intRow (H := H) .i64 (A r) (L r) (Z r) := List.mem_map.2 ⟨t, by simpa using ht, rfl⟩
        have h7 : ((lits (H := H) .i64 ((Z t).take (L t))).length + (lits (H := H) .i64 ((Z t).drop (L t))).length) * 8 ≤ reachBytes := by
          refine hw _ (List.mem_cons_of_mem _ (List.mem_append_left _ (weightsAll_mem Try.prog 22 _ _ hmem _ ?_)))
          rw [hA]
          simp only [intRow, DataW.weights, Try.underlying22, bytes3]
          exact List.mem_cons_self ..
        simp [lits, reachBytes] at h7
        omega
end Go.Proofs.Ytdilejbdkhkifaa
