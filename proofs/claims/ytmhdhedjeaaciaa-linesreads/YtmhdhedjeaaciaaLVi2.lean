/- Arguments of type []Entry: how long they may be. -/
import Derived.Test.YtmhdhedjeaaciaaLView
namespace Go.Proofs.Ytmhdhedjeaaciaa
open Go.ChangeShapes Go.WideShapes Go.ChangeAt Go.RowKit Go.Joins

theorem view_len {H : Type} {enc : TypeId × Value → H} {W : World} {a0 : Option Addr} {len cap : Nat} {d : DataW H} {p : List MemPlace}
    (h : DataW.Trod enc Try.prog W 0 (fun _ => true) true 22 (Value.slice a0 len cap) d p) (hw : ∀ n ∈ DataW.weights Try.prog 22 d, n ≤ reachBytes) :
    len ≤ cap ∧ len ≤ 3518437208780 := by
  obtain ⟨fuel, hf⟩ := h
  rcases DataW.trod_slice Try.underlying22 hf with h0 | ⟨a, len', cap', elems, rest, n, _, hcs, hx, hb, hl, hm, hlen, hel, hsp, hns⟩
  · have hcs := h0.1
    simp [Value.cells] at hcs
    obtain ⟨_, rfl, rfl⟩ := hcs
    omega
  · simp [Value.cells] at hcs
    obtain ⟨_, rfl, rfl⟩ := hcs
    simp only [Prod.mk.injEq] at hx
    obtain ⟨rfl, _⟩ := hx
    have h1 := hw (((elems.map (·.1)).length + (rest.map (·.1)).length) * Try.prog.bytesOf 40) (by simp [DataW.weights, Try.underlying22])
    rw [bytes28] at h1
    simp only [List.length_map] at h1
    unfold reachBytes at h1
    omega
end Go.Proofs.Ytmhdhedjeaaciaa
