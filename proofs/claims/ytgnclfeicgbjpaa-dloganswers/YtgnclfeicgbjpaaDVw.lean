/- A case opened: four numbers and a script. -/
import Derived.Test.YtgnclfeicgbjpaaDOp
import Derived.ProofKit
import Derived.OpenShut
import Derived.Lib.SmallJoins
import Derived.HandedShaped
import Derived.SizedLaws
import Derived.ChangeMaps5
namespace Go.Proofs.Ytgnclfeicgbjpaa
open Go.ChangeShapes Go.WideShapes Go.ChangeAt Go.RowKit Go.Joins

theorem own : ownKnob Try.prog.godebug = none := by kernel_rfl
theorem laidOut : laidOutB Try.prog = true := by kernel_rfl
theorem cellsI : Try.prog.cellsOf 3 = 1 := by kernel_rfl
theorem cellsB : Try.prog.cellsOf 4 = 1 := by kernel_rfl
theorem cellsO : Try.prog.cellsOf 31 = 4 := by kernel_rfl
theorem cellsR : Try.prog.cellsOf 22 = 1 := by kernel_rfl
theorem cellsX : Try.prog.cellsOf 24 = 5 := by kernel_rfl
theorem bytesO : Try.prog.bytesOf 31 = 32 := by kernel_rfl
theorem list4 {α : Type} {l : List α} (h : l.length = 4) : ∃ a b c d, l = [a, b, c, d] := by
  match l, h with
  | [a, b, c, d], _ => exact ⟨a, b, c, d, rfl⟩
theorem list5 {α : Type} {l : List α} (h : l.length = 5) : ∃ a b c d e, l = [a, b, c, d, e] := by
  match l, h with
  | [a, b, c, d, e], _ => exact ⟨a, b, c, d, e, rfl⟩
theorem open_op {H : Type} {enc : TypeId × Value → H} {w : World} {base : Nat} {spare : Nat → Bool} {held : Bool} {fuel : Nat} {cs : List Value} {x : DataW H × List MemPlace}
    (h : DataW.trod enc Try.prog w base spare held fuel 31 cs = some x) : ∃ e : Dp, cs = (DC e).toList := by
  obtain ⟨xs, m, _, hx, hcl, hxl, hf⟩ := DataW.trod_struct Try.underlying31 h
  obtain ⟨v0, v1, v2, v3, rfl⟩ := list4 (hcl.trans cellsO)
  obtain ⟨y0, y1, y2, y3, rfl⟩ := list4 hxl
  have t0 := hf 0 _ rfl
  have t1 := hf 1 _ rfl
  have t2 := hf 2 _ rfl
  have t3 := hf 3 _ rfl
  simp [cellsI, cellsB] at t0 t1 t2 t3
  obtain ⟨a, e0, -, _⟩ := DataW.trod_int Try.underlying3 t0
  obtain ⟨b, e1, -⟩ := DataW.trod_bool Try.underlying4 t1
  obtain ⟨c, e2, -, _⟩ := DataW.trod_int Try.underlying3 t2
  obtain ⟨d, e3, -, _⟩ := DataW.trod_int Try.underlying3 t3
  simp only [List.cons.injEq, and_true] at e0 e1 e2 e3
  subst e0 e1 e2 e3
  exact ⟨⟨a, b, c, d⟩, rfl⟩
theorem viewO {H : Type} {enc : TypeId × Value → H} {W : World} {fuel : Nat} {v : Value} {x : DataW H × List MemPlace}
    (h : DataW.trod enc Try.prog W 0 (fun _ => true) true fuel 22 [v] = some x) (hw : ∀ n ∈ x.1.weights Try.prog 22, n ≤ reachBytes) : ∃ (ao : Option Addr) (n cap : Nat) (L : List Dp), v = .slice ao n cap ∧ DSrc W ao n cap L := by
  have h2 := reachBytes_lt
  rcases DataW.trod_slice Try.underlying22 h with h0 | ⟨a, len, cap, elems, rest, n, _, hcs, hx, hb, hl, hm, hlen, hel, hsp, hns⟩
  · have e : v = .slice none 0 0 := by simpa using h0.1
    exact ⟨none, 0, 0, [], e, ⟨rfl, fun _ => ⟨rfl, rfl⟩, fun ad h => (by cases h), Nat.zero_le _⟩⟩
  · subst hx
    have e : v = .slice (some a) len cap := by simpa using hcs
    have h1 := hw (((elems.map (·.1)).length + (rest.map (·.1)).length) * Try.prog.bytesOf 31) (by simp [DataW.weights, Try.underlying22])
    rw [bytesO] at h1
    simp at h1
    have key : ∀ i, i < len → ∃ e : Dp, DpAt W (a.add (i * 4)) e := by
      intro i hi
      have he := hel i hi
      obtain ⟨y, hy⟩ : ∃ y, elems[i]? = some y := ⟨_, List.getElem?_eq_getElem (by omega)⟩
      rw [hy, cellsO, Option.bind_eq_some_iff] at he
      obtain ⟨cs', hcs, hy'⟩ := he
      obtain ⟨_, -, hce⟩ := World.cells?_some hcs
      obtain ⟨e, rfl⟩ := open_op hy'
      have g0 := hce 0 (by omega)
      rw [add_zero] at g0
      exact ⟨e, ⟨g0, hce 1 (by omega), hce 2 (by omega), hce 3 (by omega)⟩⟩
    refine ⟨some a, len, cap, (List.range len).map fun i => if h : i < len then Classical.choose (key i h) else dp0, e, ⟨by simp, fun h => (by cases h), fun ad h t ht => ?_, by omega⟩⟩
    obtain rfl := Option.some.inj h
    have : ((List.range len).map fun i => if h : i < len then Classical.choose (key i h) else dp0).getD t dp0 = Classical.choose (key t ht) := by simp [List.getD, ht]
    rw [this]
    exact Classical.choose_spec (key t ht)
theorem open_case {H : Type} {enc : TypeId × Value → H} {W : World} {fuel : Nat} {cs : List Value} {x : DataW H × List MemPlace}
    (h : DataW.trod enc Try.prog W 0 (fun _ => true) true fuel 24 cs = some x) (hw : ∀ n ∈ x.1.weights Try.prog 24, n ≤ reachBytes) :
    ∃ (a b c d : Int) (so : Option Addr) (n sc : Nat) (L : List Dp), cs = [.int .i64 a, .int .i64 b, .int .i64 c, .int .i64 d, .slice so n sc] ∧ DSrc W so n sc L := by
  obtain ⟨xs, m, _, hx, hcl, hxl, hf⟩ := DataW.trod_struct Try.underlying24 h
  obtain ⟨v0, v1, v2, v3, v4, rfl⟩ := list5 (hcl.trans cellsX)
  obtain ⟨y0, y1, y2, y3, y4, rfl⟩ := list5 hxl
  have t0 := hf 0 _ rfl
  have t1 := hf 1 _ rfl
  have t2 := hf 2 _ rfl
  have t3 := hf 3 _ rfl
  have t4 := hf 4 _ rfl
  simp [cellsI, cellsR] at t0 t1 t2 t3 t4
  subst hx
  simp only [DataW.weights, Try.underlying24] at hw
  obtain ⟨a, e0, -, _⟩ := DataW.trod_int Try.underlying3 t0
  obtain ⟨b, e1, -, _⟩ := DataW.trod_int Try.underlying3 t1
  obtain ⟨c, e2, -, _⟩ := DataW.trod_int Try.underlying3 t2
  obtain ⟨d, e3, -, _⟩ := DataW.trod_int Try.underlying3 t3
  obtain ⟨so, n, sc, L, rfl, S4⟩ := viewO t4 (fun n hn => hw n (DataW.weights_mem_each (j := 4) (t := 22) rfl rfl n hn))
  simp only [List.cons.injEq, and_true] at e0 e1 e2 e3
  subst e0 e1 e2 e3
  exact ⟨a, b, c, d, so, n, sc, L, rfl, S4⟩
end Go.Proofs.Ytgnclfeicgbjpaa
