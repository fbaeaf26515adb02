/- A row of bytes and a row of asks as arguments of small bulk. -/
import Derived.Test.YtflinfmhmokfhaaURt
import Derived.ProofKit
import Derived.OpenShut
import Derived.Lib.SmallJoins
import Derived.HandedShaped
import Derived.SizedLaws
import Derived.ChangeMaps5
namespace Go.Proofs.Ytflinfmhmokfhaa
open Go.ChangeShapes Go.WideShapes Go.ChangeAt Go.RowKit Go.Joins

theorem own : ownKnob Try.prog.godebug = none := by kernel_rfl
theorem laidOut : laidOutB Try.prog = true := by kernel_rfl
theorem cellsU : Try.prog.cellsOf 5 = 1 := by kernel_rfl
theorem cellsK : Try.prog.cellsOf 32 = 2 := by kernel_rfl
theorem cellsI : Try.prog.cellsOf 3 = 1 := by kernel_rfl
theorem bulk_pos {H : Type} (d : DataW H) : 1 ≤ Rows.uptoBulk d := by
  cases d with
  | lit l => cases l <;> simp only [Rows.uptoBulk] <;> omega
  | _ => simp only [Rows.uptoBulk] <;> omega
theorem bulk_len {H : Type} : ∀ (l : List (DataW H)), l.length ≤ Rows.uptoBulkAll l
  | [] => by simp
  | d :: l => by have := bulk_len l; have := bulk_pos d; simp only [Rows.uptoBulkAll, List.length_cons]; omega
theorem bulk_at {H : Type} : ∀ (l : List (DataW H)) (d : DataW H), d ∈ l → Rows.uptoBulk d ≤ Rows.uptoBulkAll l
  | e :: l, d, h => by
    simp only [Rows.uptoBulkAll]
    rcases List.mem_cons.1 h with rfl | h
    · omega
    · have := bulk_at l d h; omega
theorem oct_of_wf {n : Int} (h : (Lit.int .u8 n).wf = true) : 0 ≤ n ∧ n ≤ 255 := by
  have e1 : IntKind.u8.min = 0 := by decide
  have e2 : IntKind.u8.max = 255 := by decide
  simp only [Lit.wf, e1, e2, Bool.and_eq_true, decide_eq_true_eq] at h
  exact h
/-- a row of bytes of small bulk -/
structure B1 (W : World) (ao : Option Addr) (n c : Nat) (Z : List Int) : Prop where
  s : Src W ao n c Z
  cap : n ≤ c
  big : n ≤ 1048576
theorem view1 {H : Type} {enc : TypeId × Value → H} {W : World} {fuel : Nat} {cs : List Value} {x : DataW H × List MemPlace}
    (h : DataW.trod enc Try.prog W 0 (fun _ => true) true fuel 22 cs = some x) (hw : Rows.uptoBulk x.1 ≤ 1048576) : ∃ (ao : Option Addr) (n c : Nat) (Z : List Int), cs = [.slice ao n c] ∧ B1 W ao n c Z := by
  rcases DataW.trod_slice Try.underlying22 h with h0 | ⟨a, len, cap, elems, rest, n, _, hcs, hx, hb, hl, hm, hlen, hel, hsp, hns⟩
  · exact ⟨none, 0, 0, [], h0.1, ⟨rfl, fun _ => ⟨rfl, rfl⟩, (fun ad h => by cases h), fun t => by simp⟩, Nat.le_refl _, Nat.zero_le _⟩
  · subst hx
    simp only [Rows.uptoBulk] at hw
    have h1 := bulk_len (elems.map (·.1))
    simp only [List.length_map] at h1
    have key : ∀ i, i < len → ∃ z : Int, W.cell? (a.add i) = some (.int .u8 z) ∧ 0 ≤ z ∧ z ≤ 255 := by
      intro i hi
      have he := hel i hi
      obtain ⟨y, hy⟩ : ∃ y, elems[i]? = some y := ⟨_, List.getElem?_eq_getElem (by omega)⟩
      rw [hy, cellsU, Option.bind_eq_some_iff] at he
      obtain ⟨cs', hcs, hy'⟩ := he
      obtain ⟨hln, -, hce⟩ := World.cells?_some hcs
      obtain ⟨z, rfl, -, hz⟩ := DataW.trod_int Try.underlying5 hy'
      have g0 := hce 0 (by omega)
      rw [add_nought, Nat.mul_one] at g0
      exact ⟨z, g0, oct_of_wf hz⟩
    have at' : ∀ t (ht : t < len), ((List.range len).map fun i => if h : i < len then Classical.choose (key i h) else 0).getD t 0 = Classical.choose (key t ht) := fun t ht => by simp [List.getD, ht]
    refine ⟨some a, len, cap, (List.range len).map fun i => if h : i < len then Classical.choose (key i h) else 0, hcs, ⟨by simp, fun h => (by cases h), fun ad h t ht => ?_, fun t => ?_⟩, hl, by omega⟩
    · obtain rfl := Option.some.inj h
      rw [at' t ht]
      exact (Classical.choose_spec (key t ht)).1
    · by_cases hk : t < len
      · rw [at' t hk]
        exact (Classical.choose_spec (key t hk)).2
      · rw [List.getD_eq_getElem?_getD, List.getElem?_eq_none (by simp; omega)]
        simp
theorem view1T {H : Type} {enc : TypeId × Value → H} {W : World} {a0 : Option Addr} {len cap : Nat} {d : DataW H} {p : List MemPlace}
    (h : DataW.Trod enc Try.prog W 0 (fun _ => true) true 22 (Value.slice a0 len cap) d p) (hw : Rows.uptoBulk d ≤ 1048576) : ∃ Z : List Int, B1 W a0 len cap Z := by
  obtain ⟨fuel, hf⟩ := h
  obtain ⟨ao, n, c, Z, e, b⟩ := view1 hf hw
  simp [Value.cells] at e
  obtain ⟨rfl, rfl, rfl⟩ := e
  exact ⟨Z, b⟩
theorem list2 {α : Type} {l : List α} (h : l.length = 2) : ∃ a b, l = [a, b] := by
  match l, h with
  | [a, b], _ => exact ⟨a, b, rfl⟩
theorem open_ask {H : Type} {enc : TypeId × Value → H} {w : World} {base : Nat} {spare : Nat → Bool} {held : Bool} {fuel : Nat} {cs : List Value} {x : DataW H × List MemPlace}
    (h : DataW.trod enc Try.prog w base spare held fuel 32 cs = some x) : ∃ e : Ask, cs = (KC e).toList := by
  obtain ⟨xs, m, _, hx, hcl, hxl, hf⟩ := DataW.trod_struct Try.underlying32 h
  obtain ⟨v0, v1, rfl⟩ := list2 (hcl.trans cellsK)
  obtain ⟨y0, y1, rfl⟩ := list2 hxl
  have t0 := hf 0 _ rfl
  have t1 := hf 1 _ rfl
  simp [cellsI] at t0 t1
  obtain ⟨a, e0, -, _⟩ := DataW.trod_int Try.underlying3 t0
  obtain ⟨b, e1, -, _⟩ := DataW.trod_int Try.underlying3 t1
  simp only [List.cons.injEq, and_true] at e0 e1
  subst e0 e1
  exact ⟨⟨a, b⟩, rfl⟩
/-- asks of small bulk -/
structure K1 (W : World) (ao : Option Addr) (n c : Nat) (P : List Ask) : Prop where
  s : KSrc W ao n c P
  big : n ≤ 1048576
theorem viewK {H : Type} {enc : TypeId × Value → H} {W : World} {a0 : Option Addr} {len cap : Nat} {d : DataW H} {p : List MemPlace}
    (h : DataW.Trod enc Try.prog W 0 (fun _ => true) true 23 (Value.slice a0 len cap) d p) (hw : Rows.uptoBulk d ≤ 1048576) :
    ∃ L : List Ask, K1 W a0 len cap L := by
  obtain ⟨fuel, hf⟩ := h
  rcases DataW.trod_slice Try.underlying23 hf with h0 | ⟨a, len', cap', elems, rest, n, _, hcs, hx, hb, hl, hm, hlen, hel, hsp, hns⟩
  · have hcs := h0.1
    simp [Value.cells] at hcs
    obtain ⟨rfl, rfl, rfl⟩ := hcs
    exact ⟨[], KSrc.empty W, Nat.zero_le _⟩
  · simp [Value.cells] at hcs
    obtain ⟨rfl, rfl, rfl⟩ := hcs
    simp only [Prod.mk.injEq] at hx
    obtain ⟨rfl, _⟩ := hx
    simp only [Rows.uptoBulk] at hw
    have h1 := bulk_len (elems.map (·.1))
    simp only [List.length_map] at h1
    have key : ∀ i, i < len → ∃ e : Ask, KAt W (a.add (i * 2)) e := by
      intro i hi
      have he := hel i hi
      obtain ⟨y, hy⟩ : ∃ y, elems[i]? = some y := ⟨_, List.getElem?_eq_getElem (by omega)⟩
      rw [hy, cellsK, Option.bind_eq_some_iff] at he
      obtain ⟨cs', hcs, hy'⟩ := he
      obtain ⟨_, -, hce⟩ := World.cells?_some hcs
      obtain ⟨e, rfl⟩ := open_ask hy'
      have g0 := hce 0 (by omega)
      rw [add_nought] at g0
      exact ⟨e, ⟨g0, hce 1 (by omega)⟩⟩
    have at' : ∀ t (ht : t < len), ((List.range len).map fun i => if h : i < len then Classical.choose (key i h) else k0).getD t k0 = Classical.choose (key t ht) := fun t ht => by simp [List.getD, ht]
    refine ⟨(List.range len).map fun i => if h : i < len then Classical.choose (key i h) else k0, ⟨by simp, fun h => (by cases h), fun ad h t ht => ?_⟩, by omega⟩
    obtain rfl := Option.some.inj h
    rw [at' t ht]
    exact Classical.choose_spec (key t ht)
end Go.Proofs.Ytflinfmhmokfhaa
