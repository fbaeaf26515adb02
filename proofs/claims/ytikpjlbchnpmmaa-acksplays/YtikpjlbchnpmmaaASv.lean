/- A script as an argument, opened once. -/
import Derived.Test.YtikpjlbchnpmmaaASc
import Derived.Test.YtikpjlbchnpmmaaAVw
namespace Go.Proofs.Ytikpjlbchnpmmaa
open Go.ChangeShapes Go.WideShapes Go.ChangeAt Go.RowKit Go.Joins

theorem cellsSp : Try.prog.cellsOf 34 = 5 := by kernel_rfl
theorem bytesSp : Try.prog.bytesOf 34 = 40 := by kernel_rfl
theorem list5 {α : Type} {l : List α} (h : l.length = 5) : ∃ a b c d e, l = [a, b, c, d, e] := by
  match l, h with
  | [a, b, c, d, e], _ => exact ⟨a, b, c, d, e, rfl⟩
theorem open_sp {H : Type} {enc : TypeId × Value → H} {w : World} {base : Nat} {spare : Nat → Bool} {held : Bool} {fuel : Nat} {cs : List Value} {x : DataW H × List MemPlace}
    (h : DataW.trod enc Try.prog w base spare held fuel 34 cs = some x) : ∃ e : Sp, cs = (SC e).toList := by
  obtain ⟨xs, m, _, hx, hcl, hxl, hf⟩ := DataW.trod_struct Try.underlying34 h
  obtain ⟨v0, v1, v2, v3, v4, rfl⟩ := list5 (hcl.trans cellsSp)
  obtain ⟨y0, y1, y2, y3, y4, rfl⟩ := list5 hxl
  have t0 := hf 0 _ rfl
  have t1 := hf 1 _ rfl
  have t2 := hf 2 _ rfl
  have t3 := hf 3 _ rfl
  have t4 := hf 4 _ rfl
  simp [cells3] at t0 t1 t2 t3 t4
  obtain ⟨a, e0, -, _⟩ := DataW.trod_int Try.underlying3 t0
  obtain ⟨b, e1, -, _⟩ := DataW.trod_int Try.underlying3 t1
  obtain ⟨c, e2, -, _⟩ := DataW.trod_int Try.underlying3 t2
  obtain ⟨d, e3, -, _⟩ := DataW.trod_int Try.underlying3 t3
  obtain ⟨e, e4, -, _⟩ := DataW.trod_int Try.underlying3 t4
  simp only [List.cons.injEq, and_true] at e0 e1 e2 e3 e4
  subst e0 e1 e2 e3 e4
  exact ⟨⟨a, b, c, d, e⟩, rfl⟩
theorem viewS {H : Type} {enc : TypeId × Value → H} {W : World} {a0 : Option Addr} {len cap : Nat} {d : DataW H} {p : List MemPlace}
    (h : DataW.Trod enc Try.prog W 0 (fun _ => true) true 22 (Value.slice a0 len cap) d p) (hw : ∀ n ∈ DataW.weights Try.prog 22 d, n ≤ reachBytes) :
    ∃ L : List Sp, SSrc W a0 len cap L := by
  obtain ⟨fuel, hf⟩ := h
  rcases DataW.trod_slice Try.underlying22 hf with h0 | ⟨a, len', cap', elems, rest, n, _, hcs, hx, hb, hl, hm, hlen, hel, hsp, hns⟩
  · have hcs := h0.1
    simp [Value.cells] at hcs
    obtain ⟨rfl, rfl, rfl⟩ := hcs
    exact ⟨[], ⟨rfl, fun _ => ⟨rfl, rfl⟩, (fun ad h => by cases h), Nat.zero_le _⟩⟩
  · simp [Value.cells] at hcs
    obtain ⟨rfl, rfl, rfl⟩ := hcs
    simp only [Prod.mk.injEq] at hx
    obtain ⟨rfl, _⟩ := hx
    have h1 := hw (((elems.map (·.1)).length + (rest.map (·.1)).length) * Try.prog.bytesOf 34) (by simp [DataW.weights, Try.underlying22])
    rw [bytesSp] at h1
    simp at h1
    have h2 := reachBytes_lt
    have key : ∀ i, i < len → ∃ e : Sp, SpAt W (a.add (i * 5)) e := by
      intro i hi
      have he := hel i hi
      obtain ⟨y, hy⟩ : ∃ y, elems[i]? = some y := ⟨_, List.getElem?_eq_getElem (by omega)⟩
      rw [hy, cellsSp, Option.bind_eq_some_iff] at he
      obtain ⟨cs', hcs, hy'⟩ := he
      obtain ⟨_, -, hce⟩ := World.cells?_some hcs
      obtain ⟨e, rfl⟩ := open_sp hy'
      have g0 := hce 0 (by omega)
      rw [add_zero] at g0
      exact ⟨e, ⟨g0, hce 1 (by omega), hce 2 (by omega), hce 3 (by omega), hce 4 (by omega)⟩⟩
    refine ⟨(List.range len).map fun i => if h : i < len then Classical.choose (key i h) else sp0, by simp, fun h => (by cases h), fun ad h t ht => ?_, by omega⟩
    obtain rfl := Option.some.inj h
    have : ((List.range len).map fun i => if h : i < len then Classical.choose (key i h) else sp0).getD t sp0 = Classical.choose (key t ht) := by simp [List.getD, ht]
    rw [this]
    exact Classical.choose_spec (key t ht)
end Go.Proofs.Ytikpjlbchnpmmaa
