/- Arguments of type []Run and int, opened once. -/
import Derived.Test.YtpolleieajgheaaDoorRKit
import Derived.ProofKit
import Derived.OpenShut
import Derived.Lib.SmallJoins
import Derived.HandedShaped
import Derived.SizedLaws
import Derived.ChangeMaps5
namespace Go.Proofs.YtpolleieajgheaaDoor
open Go.ChangeShapes Go.WideShapes Go.ChangeAt Go.RowKit Go.Joins

theorem own : ownKnob Tryd.prog.godebug = none := by kernel_rfl
theorem laidOut : laidOutB Tryd.prog = true := by kernel_rfl
theorem cellsR : Tryd.prog.cellsOf 25 = 2 := by kernel_rfl
theorem cells3 : Tryd.prog.cellsOf 3 = 1 := by kernel_rfl
theorem bytesR : Tryd.prog.bytesOf 25 = 16 := by kernel_rfl
theorem list2 {α : Type} {l : List α} (h : l.length = 2) : ∃ a b, l = [a, b] := by
  match l, h with
  | [a, b], _ => exact ⟨a, b, rfl⟩
theorem open_run {H : Type} {enc : TypeId × Value → H} {w : World} {base : Nat} {spare : Nat → Bool} {held : Bool} {fuel : Nat} {cs : List Value} {x : DataW H × List MemPlace}
    (h : DataW.trod enc Tryd.prog w base spare held fuel 25 cs = some x) : ∃ e : Rn, cs = (RC e).toList := by
  obtain ⟨xs, m, _, hx, hcl, hxl, hf⟩ := DataW.trod_struct Tryd.underlying25 h
  obtain ⟨v0, v1, rfl⟩ := list2 (hcl.trans cellsR)
  obtain ⟨y0, y1, rfl⟩ := list2 hxl
  have t0 := hf 0 _ rfl
  have t1 := hf 1 _ rfl
  simp [cells3] at t0 t1
  obtain ⟨r, e0, -, _⟩ := DataW.trod_int Tryd.underlying3 t0
  obtain ⟨n, e1, -, _⟩ := DataW.trod_int Tryd.underlying3 t1
  simp only [List.cons.injEq, and_true] at e0 e1
  subst e0 e1
  exact ⟨⟨r, n⟩, rfl⟩
theorem view {H : Type} {enc : TypeId × Value → H} {W : World} {a0 : Option Addr} {len cap : Nat} {d : DataW H} {p : List MemPlace}
    (h : DataW.Trod enc Tryd.prog W 0 (fun _ => true) true 22 (Value.slice a0 len cap) d p) (hw : ∀ n ∈ DataW.weights Tryd.prog 22 d, n ≤ reachBytes) :
    ∃ L : List Rn, RSrc W a0 len cap L := by
  obtain ⟨fuel, hf⟩ := h
  rcases DataW.trod_slice Tryd.underlying22 hf with h0 | ⟨a, len', cap', elems, rest, n, _, hcs, hx, hb, hl, hm, hlen, hel, hsp, hns⟩
  · have hcs := h0.1
    simp [Value.cells] at hcs
    obtain ⟨rfl, rfl, rfl⟩ := hcs
    exact ⟨[], RSrc.empty _⟩
  · simp [Value.cells] at hcs
    obtain ⟨rfl, rfl, rfl⟩ := hcs
    simp only [Prod.mk.injEq] at hx
    obtain ⟨rfl, _⟩ := hx
    have h1 := hw (((elems.map (·.1)).length + (rest.map (·.1)).length) * Tryd.prog.bytesOf 25) (by simp [DataW.weights, Tryd.underlying22])
    rw [bytesR] at h1
    simp at h1
    have h2 := reachBytes_lt
    have key : ∀ i, i < len → ∃ e : Rn, RnAt W (a.add (i * 2)) e := by
      intro i hi
      have he := hel i hi
      obtain ⟨y, hy⟩ : ∃ y, elems[i]? = some y := ⟨_, List.getElem?_eq_getElem (by omega)⟩
      rw [hy, cellsR, Option.bind_eq_some_iff] at he
      obtain ⟨cs', hcs, hy'⟩ := he
      obtain ⟨_, -, hce⟩ := World.cells?_some hcs
      obtain ⟨e, rfl⟩ := open_run hy'
      have g0 := hce 0 (by omega)
      rw [add_zero] at g0
      exact ⟨e, ⟨g0, hce 1 (by omega)⟩⟩
    refine ⟨(List.range len).map fun i => if h : i < len then Classical.choose (key i h) else rn0, by simp, fun h => (by cases h), fun ad h t ht => ?_, hl, hm, by omega⟩
    obtain rfl := Option.some.inj h
    have : ((List.range len).map fun i => if h : i < len then Classical.choose (key i h) else rn0).getD t rn0 = Classical.choose (key t ht) := by simp [List.getD, ht]
    rw [this]
    exact Classical.choose_spec (key t ht)
end Go.Proofs.YtpolleieajgheaaDoor
