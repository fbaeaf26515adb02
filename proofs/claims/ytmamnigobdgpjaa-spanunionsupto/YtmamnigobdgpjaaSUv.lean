/- An argument of type [][]Run of small bulk, opened once. -/
import Derived.Test.YtmamnigobdgpjaaSUn
import Derived.Test.YtmamnigobdgpjaaRVu
namespace Go.Proofs.Ytmamnigobdgpjaa
open Go.ChangeShapes Go.WideShapes Go.ChangeAt Go.RowKit Go.Joins

theorem cellsS : Try.prog.cellsOf 23 = 1 := by kernel_rfl
theorem viewS {H : Type} {enc : TypeId × Value → H} {W : World} {fuel : Nat} {cs : List Value} {x : DataW H × List MemPlace}
    (h : DataW.trod enc Try.prog W 0 (fun _ => true) true fuel 23 cs = some x) (hw : Rows.uptoBulk x.1 ≤ 1048576) : ∃ s : Sl, cs = [slv s] ∧ RSrc W s.ao s.n s.cap s.L ∧ s.n ≤ Rows.uptoBulk x.1 := by
  rcases DataW.trod_slice Try.underlying23 h with h0 | ⟨a, len, cap, elems, rest, n, _, hcs, hx, hb, hl, hm, hlen, hel, hsp, hns⟩
  · exact ⟨⟨none, 0, 0, []⟩, h0.1, RSrc.empty _, Nat.zero_le _⟩
  · subst hx
    simp only [Rows.uptoBulk] at hw ⊢
    have h1 := bulk_len (elems.map (·.1))
    have h2 := bulk_len (rest.map (·.1))
    simp only [List.length_map] at h1 h2
    have key : ∀ i, i < len → ∃ e : Rn, RnAt W (a.add (i * 2)) e := by
      intro i hi
      have he := hel i hi
      obtain ⟨y, hy⟩ : ∃ y, elems[i]? = some y := ⟨_, List.getElem?_eq_getElem (by omega)⟩
      rw [hy, cellsR, Option.bind_eq_some_iff] at he
      obtain ⟨cs', hcs, hy'⟩ := he
      obtain ⟨_, -, hce⟩ := World.cells?_some hcs
      obtain ⟨e, rfl⟩ := open_run hy'
      have g0 := hce 0 (by omega)
      rw [add_zero] at g0
      exact ⟨e, ⟨g0, hce 1 (by omega)⟩⟩
    refine ⟨⟨some a, len, cap, (List.range len).map fun i => if h : i < len then Classical.choose (key i h) else rn0⟩, hcs, ⟨by simp, fun h => (by cases h), fun ad h t ht => ?_, hl, hm, by simp only; omega⟩, by simp only; omega⟩
    obtain rfl := Option.some.inj h
    have : ((List.range len).map fun i => if h : i < len then Classical.choose (key i h) else rn0).getD t rn0 = Classical.choose (key t ht) := by simp [List.getD, ht]
    rw [this]
    exact Classical.choose_spec (key t ht)
theorem bulkAll_append {H : Type} : ∀ (a b : List (DataW H)), Rows.uptoBulkAll (a ++ b) = Rows.uptoBulkAll a + Rows.uptoBulkAll b
  | [], b => by simp [Rows.uptoBulkAll]
  | d :: a, b => by simp only [List.cons_append, Rows.uptoBulkAll, bulkAll_append a b]; omega
theorem viewC {H : Type} {enc : TypeId × Value → H} {W : World} {a0 : Option Addr} {len cap : Nat} {d : DataW H} {p : List MemPlace}
    (h : DataW.Trod enc Try.prog W 0 (fun _ => true) true 22 (Value.slice a0 len cap) d p) (hw : Rows.uptoBulk d ≤ 1048576) :
    ∃ X : List Sl, CSrc W a0 len X ∧ len ≤ 1048576 ∧ tot X ≤ 1048576 := by
  obtain ⟨fuel, hf⟩ := h
  rcases DataW.trod_slice Try.underlying22 hf with h0 | ⟨a, len', cap', elems, rest, n, _, hcs, hx, hb, hl, hm, hlen, hel, hsp, hns⟩
  · have hcs := h0.1
    simp [Value.cells] at hcs
    obtain ⟨rfl, rfl, rfl⟩ := hcs
    exact ⟨[], ⟨rfl, fun _ => rfl, (fun ad h => by cases h), (fun s h => by cases h), by omega⟩, Nat.zero_le _, by simp [tot]⟩
  · simp [Value.cells] at hcs
    obtain ⟨rfl, rfl, rfl⟩ := hcs
    simp only [Prod.mk.injEq] at hx
    obtain ⟨rfl, _⟩ := hx
    simp only [Rows.uptoBulk] at hw
    have h1 := bulk_len (elems.map (·.1))
    simp only [List.length_map] at h1
    have key : ∀ i (hi : i < elems.length), ∃ s : Sl, W.cell? (a.add i) = some (slv s) ∧ RSrc W s.ao s.n s.cap s.L ∧ s.n ≤ Rows.uptoBulk elems[i].1 := by
      intro i hi
      have he := hel i (by omega)
      rw [List.getElem?_eq_getElem hi, cellsS, Option.bind_eq_some_iff] at he
      obtain ⟨cs', hcs, hy'⟩ := he
      obtain ⟨_, -, hce⟩ := World.cells?_some hcs
      have hbd : Rows.uptoBulk elems[i].1 ≤ 1048576 := by
        have := bulk_at (elems.map (·.1)) elems[i].1 (List.mem_map.2 ⟨_, List.getElem_mem hi, rfl⟩)
        omega
      obtain ⟨s, rfl, h2, h3⟩ := viewS hy' hbd
      have g0 := hce 0 (by omega)
      rw [add_zero, Nat.mul_one] at g0
      exact ⟨s, by simpa using g0, h2, h3⟩
    have build : ∀ k, k ≤ elems.length → ∃ X : List Sl, X.length = k ∧ (∀ t s, X[t]? = some s → W.cell? (a.add t) = some (slv s)) ∧ (∀ s, s ∈ X → RSrc W s.ao s.n s.cap s.L) ∧ tot X ≤ Rows.uptoBulkAll ((elems.map (·.1)).take k) := by
      intro k
      induction k with
      | zero => exact fun _ => ⟨[], rfl, (fun t s h => by simp at h), (fun s h => by cases h), by simp [tot]⟩
      | succ k ih =>
        intro hk
        obtain ⟨X, x1, x2, x3, x4⟩ := ih (by omega)
        obtain ⟨s, s1, s2, s3⟩ := key k (by omega)
        refine ⟨X ++ [s], by simp [x1], fun t r ht => ?_, fun r hr => ?_, ?_⟩
        · by_cases c : t < X.length
          · rw [List.getElem?_append_left c] at ht; exact x2 t r ht
          · rw [List.getElem?_append_right (by omega)] at ht
            have e0 : t - X.length = 0 := by
              cases hh : t - X.length with
              | zero => rfl
              | succ m => rw [hh] at ht; simp at ht
            rw [e0] at ht
            have : r = s := by simpa using ht.symm
            subst this
            rw [show t = k by omega]; exact s1
        · rcases List.mem_append.1 hr with h | h
          · exact x3 r h
          · obtain rfl := List.mem_singleton.1 h; exact s2
        · rw [tot_append, List.take_succ_eq_append_getElem (by simp; omega), bulkAll_append]
          simp only [tot, Rows.uptoBulkAll, List.getElem_map]
          omega
    obtain ⟨X, x1, x2, x3, x4⟩ := build elems.length (Nat.le_refl _)
    rw [List.take_of_length_le (by simp)] at x4
    refine ⟨X, ⟨by omega, fun h => (by cases h), fun ad h t s ht => ?_, x3, by omega⟩, by omega, by omega⟩
    obtain rfl := Option.some.inj h
    exact x2 t s ht
end Go.Proofs.Ytmamnigobdgpjaa
