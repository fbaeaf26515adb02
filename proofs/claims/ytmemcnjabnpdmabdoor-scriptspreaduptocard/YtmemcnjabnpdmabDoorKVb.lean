/- A row of bytes as an argument of small bulk. -/
import Derived.Test.YtmemcnjabnpdmabDoorKSp
import Derived.Test.YtmemcnjabnpdmabDoorKVw
namespace Go.Proofs.YtmemcnjabnpdmabDoor
open T Y
open Go.ChangeShapes Go.WideShapes Go.ChangeAt Go.RowKit Go.Joins

theorem cellsU8 : Tryd.prog.cellsOf 5 = 1 := by kernel_rfl
theorem bulk_pos1 {H : Type} (d : DataW H) : 1 ≤ Rows.uptoBulk d := by
  cases d with
  | lit l => cases l <;> simp only [Rows.uptoBulk] <;> omega
  | _ => simp only [Rows.uptoBulk] <;> omega
theorem bulk_len1 {H : Type} : ∀ (l : List (DataW H)), l.length ≤ Rows.uptoBulkAll l
  | [] => by simp
  | d :: l => by have := bulk_len1 l; have := bulk_pos1 d; simp only [Rows.uptoBulkAll, List.length_cons]; omega
theorem oct_of_wf {n : Int} (h : (Lit.int .u8 n).wf = true) : 0 ≤ n ∧ n ≤ 255 := by
  have e1 : IntKind.u8.min = 0 := by decide
  have e2 : IntKind.u8.max = 255 := by decide
  simp only [Lit.wf, e1, e2, Bool.and_eq_true, decide_eq_true_eq] at h
  exact h
theorem viewB {H : Type} {enc : TypeId × Value → H} {W : World} {fuel : Nat} {cs : List Value} {x : DataW H × List MemPlace}
    (h : DataW.trod enc Tryd.prog W 0 (fun _ => true) true fuel 27 cs = some x) (hw : Rows.uptoBulk x.1 ≤ 1048576) : ∃ (ao : Option Addr) (n c : Nat) (Z : List Int), cs = [.slice ao n c] ∧ GSrc W ao n Z ∧ n ≤ 1048576 := by
  rcases DataW.trod_slice Tryd.underlying27 h with h0 | ⟨a, len, cap, elems, rest, n, _, hcs, hx, hb, hl, hm, hlen, hel, hsp, hns⟩
  · exact ⟨none, 0, 0, [], h0.1, ⟨rfl, fun _ => rfl, (fun ad h => by cases h), fun t => by simp⟩, Nat.zero_le _⟩
  · subst hx
    simp only [Rows.uptoBulk] at hw
    have h1 := bulk_len1 (elems.map (·.1))
    simp only [List.length_map] at h1
    have key : ∀ i, i < len → ∃ z : Int, W.cell? (a.add i) = some (.int .u8 z) ∧ 0 ≤ z ∧ z ≤ 255 := by
      intro i hi
      have he := hel i hi
      obtain ⟨y, hy⟩ : ∃ y, elems[i]? = some y := ⟨_, List.getElem?_eq_getElem (by omega)⟩
      rw [hy, cellsU8, Option.bind_eq_some_iff] at he
      obtain ⟨cs', hcs, hy'⟩ := he
      obtain ⟨hln, -, hce⟩ := World.cells?_some hcs
      obtain ⟨z, rfl, -, hz⟩ := DataW.trod_int Tryd.underlying5 hy'
      have g0 := hce 0 (by omega)
      rw [add_nought, Nat.mul_one] at g0
      exact ⟨z, g0, oct_of_wf hz⟩
    have at' : ∀ t (ht : t < len), ((List.range len).map fun i => if h : i < len then Classical.choose (key i h) else 0).getD t 0 = Classical.choose (key t ht) := fun t ht => by simp [List.getD, ht]
    refine ⟨some a, len, cap, (List.range len).map fun i => if h : i < len then Classical.choose (key i h) else 0, hcs, ⟨by simp, fun h => (by cases h), fun ad h t ht => ?_, fun t => ?_⟩, by omega⟩
    · obtain rfl := Option.some.inj h
      rw [at' t ht]
      exact (Classical.choose_spec (key t ht)).1
    · by_cases hk : t < len
      · rw [at' t hk]
        exact (Classical.choose_spec (key t hk)).2
      · rw [List.getD_eq_getElem?_getD, List.getElem?_eq_none (by simp; omega)]
        simp
theorem viewBT {H : Type} {enc : TypeId × Value → H} {W : World} {v : Value} {d : DataW H} {p : List MemPlace} {fuel : Nat}
    (h : DataW.trod enc Tryd.prog W 0 (fun _ => true) true fuel 27 v.cells.toList = some (d, p)) (hv : ∀ cs, v ≠ .agg cs) (hw : Rows.uptoBulk d ≤ 1048576) : ∃ (ao : Option Addr) (n c : Nat) (Z : List Int), v = .slice ao n c ∧ GSrc W ao n Z ∧ n ≤ 1048576 := by
  obtain ⟨ao, n, c, Z, e, b⟩ := viewB h hw
  have : v.cells.toList = [v] := by
    cases v <;> first | rfl | exact absurd rfl (hv _)
  rw [this] at e
  obtain rfl : v = .slice ao n c := by simpa using e
  exact ⟨ao, n, c, Z, rfl, b⟩
end Go.Proofs.YtmemcnjabnpdmabDoor
