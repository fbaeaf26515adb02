/- Rows of bytes, and rows of such, as arguments of small bulk. -/
import Derived.Test.YteligjfkiifonaaUWf
import Derived.ProofKit
import Derived.OpenShut
import Derived.Lib.SmallJoins
import Derived.HandedShaped
import Derived.SizedLaws
import Derived.ChangeMaps5
namespace Go.Proofs.Yteligjfkiifonaa
open Go.ChangeShapes Go.WideShapes Go.ChangeAt Go.RowKit Go.Joins

theorem own : ownKnob Try.prog.godebug = none := by kernel_rfl
theorem laidOut : laidOutB Try.prog = true := by kernel_rfl
theorem cellsU : Try.prog.cellsOf 5 = 1 := by kernel_rfl
theorem cellsL : Try.prog.cellsOf 23 = 1 := by kernel_rfl
theorem add_nought (p : Addr) : p.add 0 = p := by unfold Addr.add; split <;> simp_all
theorem bulk_pos {H : Type} (d : DataW H) : 1 ≤ Rows.uptoBulk d := by
  cases d with
  | lit l => cases l <;> simp only [Rows.uptoBulk] <;> omega
  | _ => simp only [Rows.uptoBulk] <;> omega
theorem bulk_len {H : Type} : ∀ (l : List (DataW H)), l.length ≤ Rows.uptoBulkAll l
  | [] => by simp
  | d :: l => by have := bulk_len l; have := bulk_pos d; simp only [Rows.uptoBulkAll, List.length_cons]; omega
theorem bulk_at {H : Type} : ∀ (l : List (DataW H)) (d : DataW H), d ∈ l → Rows.uptoBulk d ≤ Rows.uptoBulkAll l
  | e :: l, d, h => by
    simp only [Rows.uptoBulkAll]
    rcases List.mem_cons.1 h with rfl | h
    · omega
    · have := bulk_at l d h; omega
theorem oct_of_wf {n : Int} (h : (Lit.int .u8 n).wf = true) : 0 ≤ n ∧ n ≤ 255 := by
  have e1 : IntKind.u8.min = 0 := by decide
  have e2 : IntKind.u8.max = 255 := by decide
  simp only [Lit.wf, e1, e2, Bool.and_eq_true, decide_eq_true_eq] at h
  exact h
/-- a row of bytes of small bulk -/
structure B1 (W : World) (ao : Option Addr) (n c : Nat) (Z : List Int) : Prop where
  s : Src W ao n c Z
  cap : n ≤ c
  big : n ≤ 1048576
theorem view1 {H : Type} {enc : TypeId × Value → H} {W : World} {fuel : Nat} {cs : List Value} {x : DataW H × List MemPlace}
    (h : DataW.trod enc Try.prog W 0 (fun _ => true) true fuel 23 cs = some x) (hw : Rows.uptoBulk x.1 ≤ 1048576) : ∃ (ao : Option Addr) (n c : Nat) (Z : List Int), cs = [.slice ao n c] ∧ B1 W ao n c Z := by
  rcases DataW.trod_slice Try.underlying23 h with h0 | ⟨a, len, cap, elems, rest, n, _, hcs, hx, hb, hl, hm, hlen, hel, hsp, hns⟩
  · exact ⟨none, 0, 0, [], h0.1, ⟨rfl, fun _ => ⟨rfl, rfl⟩, (fun ad h => by cases h), fun t => by simp⟩, Nat.le_refl _, Nat.zero_le _⟩
  · subst hx
    simp only [Rows.uptoBulk] at hw
    have h1 := bulk_len (elems.map (·.1))
    simp only [List.length_map] at h1
    have key : ∀ i, i < len → ∃ z : Int, W.cell? (a.add i) = some (.int .u8 z) ∧ 0 ≤ z ∧ z ≤ 255 := by
      intro i hi
      have he := hel i hi
      obtain ⟨y, hy⟩ : ∃ y, elems[i]? = some y := ⟨_, List.getElem?_eq_getElem (by omega)⟩
      rw [hy, cellsU, Option.bind_eq_some_iff] at he
      obtain ⟨cs', hcs, hy'⟩ := he
      obtain ⟨hln, -, hce⟩ := World.cells?_some hcs
      obtain ⟨z, rfl, -, hz⟩ := DataW.trod_int Try.underlying5 hy'
      have g0 := hce 0 (by omega)
      rw [add_nought, Nat.mul_one] at g0
      exact ⟨z, g0, oct_of_wf hz⟩
    have at' : ∀ t (ht : t < len), ((List.range len).map fun i => if h : i < len then Classical.choose (key i h) else 0).getD t 0 = Classical.choose (key t ht) := fun t ht => by simp [List.getD, ht]
    refine ⟨some a, len, cap, (List.range len).map fun i => if h : i < len then Classical.choose (key i h) else 0, hcs, ⟨by simp, fun h => (by cases h), fun ad h t ht => ?_, fun t => ?_⟩, hl, by omega⟩
    · obtain rfl := Option.some.inj h
      rw [at' t ht]
      exact (Classical.choose_spec (key t ht)).1
    · by_cases hk : t < len
      · rw [at' t hk]
        exact (Classical.choose_spec (key t hk)).2
      · rw [List.getD_eq_getElem?_getD, List.getElem?_eq_none (by simp; omega)]
        simp
theorem view1T {H : Type} {enc : TypeId × Value → H} {W : World} {a0 : Option Addr} {len cap : Nat} {d : DataW H} {p : List MemPlace}
    (h : DataW.Trod enc Try.prog W 0 (fun _ => true) true 23 (Value.slice a0 len cap) d p) (hw : Rows.uptoBulk d ≤ 1048576) : ∃ Z : List Int, B1 W a0 len cap Z := by
  obtain ⟨fuel, hf⟩ := h
  obtain ⟨ao, n, c, Z, e, b⟩ := view1 hf hw
  simp [Value.cells] at e
  obtain ⟨rfl, rfl, rfl⟩ := e
  exact ⟨Z, b⟩
/-- a row of rows of bytes of small bulk -/
structure B2 (W : World) (lo : Option Addr) (ln lc : Nat) (L : List (List Int)) : Prop where
  ls : LS W lo ln lc L
  big : ln ≤ 1048576
  each : ∀ i, (L.getD i []).length ≤ 1048576 ∧ ∀ t, 0 ≤ (L.getD i []).getD t 0 ∧ (L.getD i []).getD t 0 ≤ 255
theorem B2.join {W : World} {lo : Option Addr} {ln lc : Nat} {L : List (List Int)} (h : B2 W lo ln lc L) : (joinB L).length ≤ 140737488355000 := by
  have key : ∀ k, k ≤ L.length → (joinB (L.take k)).length ≤ k * 1048585 := by
    intro k
    induction k with
    | zero => intro _; simp [joinB]
    | succ k ih =>
      intro hk
      rw [joinB_succ L k (by omega), List.length_append, List.length_append]
      have h1 := (h.each k).1
      have h2 := numB_nine (n := (L.getD k []).length) (by omega)
      have h3 := ih (by omega)
      omega
  have := key L.length (Nat.le_refl _)
  rw [List.take_length] at this
  have h2 := h.ls.len
  have h3 := h.big
  omega
theorem view2T {H : Type} {enc : TypeId × Value → H} {W : World} {a0 : Option Addr} {len cap : Nat} {d : DataW H} {p : List MemPlace}
    (h : DataW.Trod enc Try.prog W 0 (fun _ => true) true 22 (Value.slice a0 len cap) d p) (hw : Rows.uptoBulk d ≤ 1048576) : ∃ L : List (List Int), B2 W a0 len cap L := by
  obtain ⟨fuel, hf⟩ := h
  rcases DataW.trod_slice Try.underlying22 hf with h0 | ⟨a, len', cap', elems, rest, n, _, hcs, hx, hb, hl, hm, hlen, hel, hsp, hns⟩
  · have hcs := h0.1
    simp [Value.cells] at hcs
    obtain ⟨rfl, rfl, rfl⟩ := hcs
    exact ⟨[], ⟨rfl, fun _ => ⟨rfl, rfl⟩, fun ad h => by cases h⟩, Nat.zero_le _, fun i => ⟨by simp, fun t => by simp⟩⟩
  · simp [Value.cells] at hcs
    obtain ⟨rfl, rfl, rfl⟩ := hcs
    simp only [Prod.mk.injEq] at hx
    obtain ⟨rfl, _⟩ := hx
    simp only [Rows.uptoBulk] at hw
    have h1 := bulk_len (elems.map (·.1))
    simp only [List.length_map] at h1
    have key : ∀ i, i < len → ∃ (bo : Option Addr) (n c : Nat) (Z : List Int), W.cell? (a.add i) = some (.slice bo n c) ∧ B1 W bo n c Z := by
      intro i hi
      have he := hel i hi
      obtain ⟨y, hy⟩ : ∃ y, elems[i]? = some y := ⟨_, List.getElem?_eq_getElem (by omega)⟩
      have hby := bulk_at (elems.map (·.1)) y.1 (List.mem_map.2 ⟨y, List.mem_of_getElem? hy, rfl⟩)
      rw [hy, cellsL, Option.bind_eq_some_iff] at he
      obtain ⟨cs', hcs, hy'⟩ := he
      obtain ⟨_, -, hce⟩ := World.cells?_some hcs
      obtain ⟨bo, n, c, Z, rfl, b⟩ := view1 hy' (by omega)
      have g0 := hce 0 (by omega)
      rw [add_nought, Nat.mul_one] at g0
      exact ⟨bo, n, c, Z, g0, b⟩
    have at' : ∀ t (ht : t < len), ((List.range len).map fun i => if h : i < len then (key i h).choose_spec.choose_spec.choose_spec.choose else []).getD t [] = (key t ht).choose_spec.choose_spec.choose_spec.choose := fun t ht => by simp [List.getD, ht]
    refine ⟨(List.range len).map fun i => if h : i < len then (key i h).choose_spec.choose_spec.choose_spec.choose else [], ⟨by simp, fun h => (by cases h), fun ad h t ht => ?_⟩, by omega, fun t => ?_⟩
    · obtain rfl := Option.some.inj h
      rw [at' t ht]
      have q := (key t ht).choose_spec.choose_spec.choose_spec.choose_spec
      exact ⟨_, _, _, q.1, q.2.s.1, q.2.s.2.1, q.2.s.2.2.1⟩
    · by_cases hk : t < len
      · rw [at' t hk]
        have q := (key t hk).choose_spec.choose_spec.choose_spec.choose_spec.2
        exact ⟨by rw [q.s.1]; exact q.big, q.s.2.2.2⟩
      · rw [List.getD_eq_getElem?_getD, List.getElem?_eq_none (by simp; omega)]
        simp
theorem wireFrames_at (lo : Option Addr) (ln lc : Nat) (L : List (List Int)) (bo : Option Addr) (n c : Nat) (Z : List Int) (w : World) (S : B2 w lo ln lc L) (B : B1 w bo n c Z) :
    Calls Try.prog 3 #[.slice lo ln lc, .slice bo n c] w fun r w' => r = .returned (.bool true) ∧ RowKit.Below w.heap.size w w' :=
  wireFrames_any lo ln lc L bo n c Z w S.ls (by have := S.big; omega) S.join B.s B.cap (by have := B.big; omega)
end Go.Proofs.Yteligjfkiifonaa
