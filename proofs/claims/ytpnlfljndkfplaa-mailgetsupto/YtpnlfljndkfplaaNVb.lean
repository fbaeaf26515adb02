/- A row of bytes as an argument, whatever its size. -/
import Derived.Test.YtpnlfljndkfplaaNAw
import Derived.ProofKit
import Derived.OpenShut
import Derived.Lib.SmallJoins
import Derived.HandedShaped
import Derived.SizedLaws
import Derived.ChangeMaps5
namespace Go.Proofs.Ytpnlfljndkfplaa
open Go.ChangeShapes Go.WideShapes Go.ChangeAt Go.RowKit Go.Joins

theorem own : ownKnob Try.prog.godebug = none := by kernel_rfl
theorem laidOut : laidOutB Try.prog = true := by kernel_rfl
theorem cellsU : Try.prog.cellsOf 5 = 1 := by kernel_rfl
theorem bytesU : Try.prog.bytesOf 5 = 1 := by kernel_rfl
theorem add_nought (p : Addr) : p.add 0 = p := by unfold Addr.add; split <;> simp_all
theorem oct_of_wf {n : Int} (h : (Lit.int .u8 n).wf = true) : 0 ≤ n ∧ n ≤ 255 := by
  have e1 : IntKind.u8.min = 0 := by decide
  have e2 : IntKind.u8.max = 255 := by decide
  simp only [Lit.wf, e1, e2, Bool.and_eq_true, decide_eq_true_eq] at h
  exact h
/-- bytes handed in -/
structure BSO (W : World) (ao : Option Addr) (n c : Nat) (Z : List Int) : Prop where
  src : Src W ao n c Z
  cap : n ≤ c
  big : n ≤ 140737488351232
theorem viewBO {H : Type} {enc : TypeId × Value → H} {W : World} {a0 : Option Addr} {len cap : Nat} {d : DataW H} {p : List MemPlace}
    (h : DataW.Trod enc Try.prog W 0 (fun _ => true) true 26 (Value.slice a0 len cap) d p) (hw : ∀ n ∈ DataW.weights Try.prog 26 d, n ≤ reachBytes) :
    ∃ Z : List Int, BSO W a0 len cap Z := by
  obtain ⟨fuel, hf⟩ := h
  have h2 := reachBytes_lt
  rcases DataW.trod_slice Try.underlying26 hf with h0 | ⟨a, len', cap', elems, rest, n, _, hcs, hx, hb, hl, hm, hlen, hel, hsp, hns⟩
  · have hcs := h0.1
    simp [Value.cells] at hcs
    obtain ⟨rfl, rfl, rfl⟩ := hcs
    exact ⟨[], ⟨rfl, fun _ => ⟨rfl, rfl⟩, fun ad h => (by cases h), fun k => by simp⟩, Nat.le_refl _, by omega⟩
  · simp [Value.cells] at hcs
    obtain ⟨rfl, rfl, rfl⟩ := hcs
    simp only [Prod.mk.injEq] at hx
    obtain ⟨rfl, _⟩ := hx
    have h1 := hw (((elems.map (·.1)).length + (rest.map (·.1)).length) * Try.prog.bytesOf 5) (by simp [DataW.weights, Try.underlying26])
    rw [bytesU] at h1
    simp at h1
    have key : ∀ i, i < len → ∃ z : Int, W.cell? (a.add i) = some (.int .u8 z) ∧ 0 ≤ z ∧ z ≤ 255 := by
      intro i hi
      have he := hel i hi
      obtain ⟨y, hy⟩ : ∃ y, elems[i]? = some y := ⟨_, List.getElem?_eq_getElem (by omega)⟩
      rw [hy, cellsU, Option.bind_eq_some_iff] at he
      obtain ⟨cs', hcs, hy'⟩ := he
      obtain ⟨hln, -, hce⟩ := World.cells?_some hcs
      obtain ⟨z, rfl, -, hz⟩ := DataW.trod_int Try.underlying5 hy'
      have g0 := hce 0 (by omega)
      rw [add_nought, Nat.mul_one] at g0
      exact ⟨z, g0, oct_of_wf hz⟩
    have at' : ∀ t (ht : t < len), ((List.range len).map fun i => if h : i < len then Classical.choose (key i h) else 0).getD t 0 = Classical.choose (key t ht) := fun t ht => by simp [List.getD, ht]
    refine ⟨(List.range len).map fun i => if h : i < len then Classical.choose (key i h) else 0, ⟨by simp, fun h => (by cases h), fun ad h t ht => ?_, fun k => ?_⟩, by omega, by have : reachBytes = 140737488351232 := rfl; omega⟩
    · obtain rfl := Option.some.inj h
      rw [at' t ht]
      exact (Classical.choose_spec (key t ht)).1
    · by_cases hk : k < len
      · rw [at' k hk]
        exact (Classical.choose_spec (key k hk)).2
      · rw [List.getD_eq_getElem?_getD, List.getElem?_eq_none (by simp; omega)]
        simp
end Go.Proofs.Ytpnlfljndkfplaa
