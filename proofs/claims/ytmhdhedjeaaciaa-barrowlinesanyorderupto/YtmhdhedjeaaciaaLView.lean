/- Arguments of type []Entry and string, opened once. -/
import Derived.Test.YtmhdhedjeaaciaaLRow
import Derived.ProofKit
import Derived.OpenShut
import Derived.Lib.SmallJoins
import Derived.HandedShaped
import Derived.SizedLaws
import Derived.ChangeMaps5
namespace Go.Proofs.Ytmhdhedjeaaciaa
open Go.ChangeShapes Go.WideShapes Go.ChangeAt Go.RowKit Go.Joins

theorem own : ownKnob Try.prog.godebug = none := by kernel_rfl
theorem laidOut : laidOutB Try.prog = true := by kernel_rfl
theorem cells28 : Try.prog.cellsOf 40 = 4 := by kernel_rfl
theorem cells26 : Try.prog.cellsOf 38 = 2 := by kernel_rfl
theorem cells3 : Try.prog.cellsOf 3 = 1 := by kernel_rfl
theorem cells9 : Try.prog.cellsOf 9 = 1 := by kernel_rfl
theorem bytes28 : Try.prog.bytesOf 40 = 40 := by kernel_rfl
theorem list2 {α : Type} {l : List α} (h : l.length = 2) : ∃ a b, l = [a, b] := by
  match l, h with
  | [a, b], _ => exact ⟨a, b, rfl⟩
theorem list3 {α : Type} {l : List α} (h : l.length = 3) : ∃ a b c, l = [a, b, c] := by
  match l, h with
  | [a, b, c], _ => exact ⟨a, b, c, rfl⟩
theorem list4 {α : Type} {l : List α} (h : l.length = 4) : ∃ a b c d, l = [a, b, c, d] := by
  match l, h with
  | [a, b, c, d], _ => exact ⟨a, b, c, d, rfl⟩
theorem open_entry {H : Type} {enc : TypeId × Value → H} {w : World} {base : Nat} {spare : Nat → Bool} {held : Bool} {fuel : Nat} {cs : List Value} {x : DataW H × List MemPlace}
    (h : DataW.trod enc Try.prog w base spare held fuel 40 cs = some x) : ∃ e : En, cs = (EC e).toList ∧ e.sku.size ≤ maxLen := by
  obtain ⟨xs, m, _, hx, hcl, hxl, hf⟩ := DataW.trod_struct Try.underlying40 h
  obtain ⟨v0, v1, v2, v3, rfl⟩ := list4 (hcl.trans cells28)
  obtain ⟨y0, y1, y2, rfl⟩ := list3 hxl
  have t0 := hf 0 _ rfl
  have t1 := hf 1 _ rfl
  have t2 := hf 2 _ rfl
  simp [cells3, cells9, cells26] at t0 t1 t2
  obtain ⟨xs', m', _, hx', hcl', hxl', hf'⟩ := DataW.trod_struct Try.underlying38 t0
  obtain ⟨z0, z1, rfl⟩ := list2 hxl'
  have s0 := hf' 0 _ rfl
  have s1 := hf' 1 _ rfl
  simp [cells3] at s0 s1
  obtain ⟨r, e0, -, _⟩ := DataW.trod_int Try.underlying3 s0
  obtain ⟨n, e1, -, _⟩ := DataW.trod_int Try.underlying3 s1
  obtain ⟨s, e2, -, w2⟩ := DataW.trod_string Try.underlying9 t1
  obtain ⟨q, e3, -, _⟩ := DataW.trod_int Try.underlying3 t2
  simp only [List.cons.injEq, and_true] at e0 e1 e2 e3
  subst e0 e1 e2 e3
  exact ⟨⟨r, n, s, q⟩, rfl, w2⟩
theorem view {H : Type} {enc : TypeId × Value → H} {W : World} {a0 : Option Addr} {len cap : Nat} {d : DataW H} {p : List MemPlace}
    (h : DataW.Trod enc Try.prog W 0 (fun _ => true) true 22 (Value.slice a0 len cap) d p) (hw : ∀ n ∈ DataW.weights Try.prog 22 d, n ≤ reachBytes) :
    ∃ L : List En, ESrc W a0 len cap L := by
  obtain ⟨fuel, hf⟩ := h
  rcases DataW.trod_slice Try.underlying22 hf with h0 | ⟨a, len', cap', elems, rest, n, _, hcs, hx, hb, hl, hm, hlen, hel, hsp, hns⟩
  · have hcs := h0.1
    simp [Value.cells] at hcs
    obtain ⟨rfl, rfl, rfl⟩ := hcs
    exact ⟨[], rfl, fun _ => ⟨rfl, rfl⟩, fun ad h => (by cases h), fun e he => (by cases he), Nat.zero_le _⟩
  · simp [Value.cells] at hcs
    obtain ⟨rfl, rfl, rfl⟩ := hcs
    simp only [Prod.mk.injEq] at hx
    obtain ⟨rfl, _⟩ := hx
    have h1 := hw (((elems.map (·.1)).length + (rest.map (·.1)).length) * Try.prog.bytesOf 40) (by simp [DataW.weights, Try.underlying22])
    rw [bytes28] at h1
    simp at h1
    have h2 := reachBytes_lt
    have key : ∀ i, i < len → ∃ e : En, EnAt W (a.add (i * 4)) e ∧ e.sku.size ≤ maxLen := by
      intro i hi
      have he := hel i hi
      obtain ⟨y, hy⟩ : ∃ y, elems[i]? = some y := ⟨_, List.getElem?_eq_getElem (by omega)⟩
      rw [hy, cells28, Option.bind_eq_some_iff] at he
      obtain ⟨cs', hcs, hy'⟩ := he
      obtain ⟨_, -, hce⟩ := World.cells?_some hcs
      obtain ⟨e, rfl, hs⟩ := open_entry hy'
      have g0 := hce 0 (by omega)
      rw [add_zero] at g0
      exact ⟨e, ⟨g0, hce 1 (by omega), hce 2 (by omega), hce 3 (by omega)⟩, hs⟩
    refine ⟨(List.range len).map fun i => if h : i < len then Classical.choose (key i h) else en0, by simp, fun h => (by cases h), fun ad h t ht => ?_, fun e he => ?_, by omega⟩
    · obtain rfl := Option.some.inj h
      have : ((List.range len).map fun i => if h : i < len then Classical.choose (key i h) else en0).getD t en0 = Classical.choose (key t ht) := by simp [List.getD, ht]
      rw [this]
      exact (Classical.choose_spec (key t ht)).1
    · simp only [List.mem_map, List.mem_range] at he
      obtain ⟨i, hi, rfl⟩ := he
      rw [dif_pos hi]
      exact (Classical.choose_spec (key i hi)).2
set_option maxRecDepth 100000 in
theorem viewS {H : Type} {enc : TypeId × Value → H} {W : World} {base : Nat} {v : Value} {d : DataW H} {p : List MemPlace}
    (hv : Value.okWide Try.prog W .any base 9 v) (h : DataW.Trod enc Try.prog W 0 (fun _ => true) true 9 v d p) : ∃ s : ByteArray, v = .string s ∧ s.size ≤ maxLen := by
  obtain ⟨s, rfl, _, _, hw⟩ := Go.ChangeMaps.open_string Try.underlying9 hv h
  exact ⟨s, rfl, hw⟩
end Go.Proofs.Ytmhdhedjeaaciaa
