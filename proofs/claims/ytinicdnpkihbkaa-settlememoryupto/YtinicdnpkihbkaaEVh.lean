/- An argument of type Held, opened. -/
import Derived.Test.YtinicdnpkihbkaaEVp
import Derived.Test.YtinicdnpkihbkaaEAs
namespace Go.Proofs.Ytinicdnpkihbkaa
open Go.ChangeShapes Go.WideShapes Go.ChangeAt Go.RowKit Go.Joins

theorem cellsH : Try.prog.cellsOf 46 = 4 := by kernel_rfl
theorem cellsL : Try.prog.cellsOf 22 = 1 := by kernel_rfl
theorem cellsB : Try.prog.cellsOf 4 = 1 := by kernel_rfl
theorem list4 {α : Type} {l : List α} (h : l.length = 4) : ∃ a b c d, l = [a, b, c, d] := by
  match l, h with
  | [a, b, c, d], _ => exact ⟨a, b, c, d, rfl⟩
theorem viewPt {H : Type} {enc : TypeId × Value → H} {W : World} {fuel : Nat} {cs : List Value} {x : DataW H × List MemPlace}
    (h : DataW.trod enc Try.prog W 0 (fun _ => true) true fuel 22 cs = some x) (hw : Rows.uptoBulk x.1 ≤ 1048576) :
    ∃ (ao : Option Addr) (n c : Nat) (L : List Pr), cs = [.slice ao n c] ∧ P1 W ao n c L := by
  rcases DataW.trod_slice Try.underlying22 h with h0 | ⟨a, len, cap, elems, rest, n, _, hcs, hx, hb, hl, hm, hlen, hel, hsp, hns⟩
  · exact ⟨none, 0, 0, [], h0.1, PSrc.empty W, Nat.zero_le _⟩
  · subst hx
    simp only [Rows.uptoBulk] at hw
    have h1 := bulk_len (elems.map (·.1))
    simp only [List.length_map] at h1
    obtain ⟨L, hL, hA⟩ := pairs_key hlen hel
    refine ⟨some a, len, cap, L, hcs, ⟨hL, fun h => (by cases h), fun ad h t ht => ?_⟩, by omega⟩
    obtain rfl := Option.some.inj h
    exact hA t ht
theorem open_held {H : Type} {enc : TypeId × Value → H} {W : World} {fuel : Nat} {cs : List Value} {x : DataW H × List MemPlace}
    (h : DataW.trod enc Try.prog W 0 (fun _ => true) true fuel 46 cs = some x) (hw : Rows.uptoBulk x.1 ≤ 1048576) :
    ∃ (r : Int) (a1 : Option Addr) (n1 d1 : Nat) (L : List Pr) (a2 : Option Addr) (n2 d2 : Nat) (B : List Pr) (b : Bool), cs = (HV r a1 n1 d1 a2 n2 d2 b).toList ∧ P1 W a1 n1 d1 L ∧ P1 W a2 n2 d2 B := by
  obtain ⟨xs, m, _, hx, hcl, hxl, hf⟩ := DataW.trod_struct Try.underlying46 h
  obtain ⟨v0, v1, v2, v3, rfl⟩ := list4 (hcl.trans cellsH)
  obtain ⟨y0, y1, y2, y3, rfl⟩ := list4 hxl
  have t0 := hf 0 _ rfl
  have t1 := hf 1 _ rfl
  have t2 := hf 2 _ rfl
  have t3 := hf 3 _ rfl
  simp [cellsI, cellsL, cellsB] at t0 t1 t2 t3
  subst hx
  simp only [Rows.uptoBulk, Rows.uptoBulkAll, List.map_cons, List.map_nil] at hw
  obtain ⟨r, e0, -, _⟩ := DataW.trod_int Try.underlying3 t0
  obtain ⟨a1, n1, d1, L, e1, P1'⟩ := viewPt t1 (by omega)
  obtain ⟨a2, n2, d2, B, e2, P2'⟩ := viewPt t2 (by omega)
  obtain ⟨b, e3, _⟩ := DataW.trod_bool Try.underlying4 t3
  simp only [List.cons.injEq, and_true] at e0 e1 e2 e3
  subst e0 e1 e2 e3
  exact ⟨r, a1, n1, d1, L, a2, n2, d2, B, b, rfl, P1', P2'⟩
end Go.Proofs.Ytinicdnpkihbkaa
