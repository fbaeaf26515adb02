/- A nest as an argument of small bulk. -/
import Derived.Test.YtflinfmhmokfhaaUNl
import Derived.ProofKit
import Derived.OpenShut
import Derived.Lib.SmallJoins
import Derived.HandedShaped
import Derived.SizedLaws
import Derived.ChangeMaps5
namespace Go.Proofs.Ytflinfmhmokfhaa
open Go.ChangeShapes Go.WideShapes Go.ChangeAt Go.RowKit Go.Joins

theorem own : ownKnob Try.prog.godebug = none := by kernel_rfl
theorem laidOut : laidOutB Try.prog = true := by kernel_rfl
theorem cellsU : Try.prog.cellsOf 5 = 1 := by kernel_rfl
theorem cellsK : Try.prog.cellsOf 32 = 2 := by kernel_rfl
theorem cellsI : Try.prog.cellsOf 3 = 1 := by kernel_rfl
theorem cellsBs : Try.prog.cellsOf 22 = 1 := by kernel_rfl
theorem cellsKs : Try.prog.cellsOf 23 = 1 := by kernel_rfl
theorem cellsN : Try.prog.cellsOf 54 = 5 := by kernel_rfl
theorem bulk_pos {H : Type} (d : DataW H) : 1 ≤ Rows.uptoBulk d := by
  cases d with
  | lit l => cases l <;> simp only [Rows.uptoBulk] <;> omega
  | _ => simp only [Rows.uptoBulk] <;> omega
theorem bulk_len {H : Type} : ∀ (l : List (DataW H)), l.length ≤ Rows.uptoBulkAll l
  | [] => by simp
  | d :: l => by have := bulk_len l; have := bulk_pos d; simp only [Rows.uptoBulkAll, List.length_cons]; omega
theorem bulk_at {H : Type} : ∀ (l : List (DataW H)) (d : DataW H), d ∈ l → Rows.uptoBulk d ≤ Rows.uptoBulkAll l
  | e :: l, d, h => by
    simp only [Rows.uptoBulkAll]
    rcases List.mem_cons.1 h with rfl | h
    · omega
    · have := bulk_at l d h; omega
theorem oct_of_wf {n : Int} (h : (Lit.int .u8 n).wf = true) : 0 ≤ n ∧ n ≤ 255 := by
  have e1 : IntKind.u8.min = 0 := by decide
  have e2 : IntKind.u8.max = 255 := by decide
  simp only [Lit.wf, e1, e2, Bool.and_eq_true, decide_eq_true_eq] at h
  exact h
theorem viewB {H : Type} {enc : TypeId × Value → H} {W : World} {fuel : Nat} {cs : List Value} {x : DataW H × List MemPlace}
    (h : DataW.trod enc Try.prog W 0 (fun _ => true) true fuel 22 cs = some x) : ∃ (ao : Option Addr) (n c : Nat) (Z : List Int), cs = [.slice ao n c] ∧ Src W ao n c Z ∧ n ≤ c ∧ n ≤ Rows.uptoBulk x.1 := by
  rcases DataW.trod_slice Try.underlying22 h with h0 | ⟨a, len, cap, elems, rest, n, _, hcs, hx, hb, hl, hm, hlen, hel, hsp, hns⟩
  · exact ⟨none, 0, 0, [], h0.1, ⟨rfl, fun _ => ⟨rfl, rfl⟩, (fun ad h => by cases h), fun t => by simp⟩, Nat.le_refl _, Nat.zero_le _⟩
  · subst hx
    simp only [Rows.uptoBulk]
    have h1 := bulk_len (elems.map (·.1))
    simp only [List.length_map] at h1
    have key : ∀ i, i < len → ∃ z : Int, W.cell? (a.add i) = some (.int .u8 z) ∧ 0 ≤ z ∧ z ≤ 255 := by
      intro i hi
      have he := hel i hi
      obtain ⟨y, hy⟩ : ∃ y, elems[i]? = some y := ⟨_, List.getElem?_eq_getElem (by omega)⟩
      rw [hy, cellsU, Option.bind_eq_some_iff] at he
      obtain ⟨cs', hcs, hy'⟩ := he
      obtain ⟨hln, -, hce⟩ := World.cells?_some hcs
      obtain ⟨z, rfl, -, hz⟩ := DataW.trod_int Try.underlying5 hy'
      have g0 := hce 0 (by omega)
      rw [add_nought, Nat.mul_one] at g0
      exact ⟨z, g0, oct_of_wf hz⟩
    have at' : ∀ t (ht : t < len), ((List.range len).map fun i => if h : i < len then Classical.choose (key i h) else 0).getD t 0 = Classical.choose (key t ht) := fun t ht => by simp [List.getD, ht]
    refine ⟨some a, len, cap, (List.range len).map fun i => if h : i < len then Classical.choose (key i h) else 0, hcs, ⟨by simp, fun h => (by cases h), fun ad h t ht => ?_, fun t => ?_⟩, hl, by omega⟩
    · obtain rfl := Option.some.inj h
      rw [at' t ht]
      exact (Classical.choose_spec (key t ht)).1
    · by_cases hk : t < len
      · rw [at' t hk]
        exact (Classical.choose_spec (key t hk)).2
      · rw [List.getD_eq_getElem?_getD, List.getElem?_eq_none (by simp; omega)]
        simp
theorem list2 {α : Type} {l : List α} (h : l.length = 2) : ∃ a b, l = [a, b] := by
  match l, h with
  | [a, b], _ => exact ⟨a, b, rfl⟩
theorem list5 {α : Type} {l : List α} (h : l.length = 5) : ∃ a b c d e, l = [a, b, c, d, e] := by
  match l, h with
  | [a, b, c, d, e], _ => exact ⟨a, b, c, d, e, rfl⟩
theorem open_ask {H : Type} {enc : TypeId × Value → H} {w : World} {base : Nat} {spare : Nat → Bool} {held : Bool} {fuel : Nat} {cs : List Value} {x : DataW H × List MemPlace}
    (h : DataW.trod enc Try.prog w base spare held fuel 32 cs = some x) : ∃ e : Ask, cs = (KC e).toList := by
  obtain ⟨xs, m, _, hx, hcl, hxl, hf⟩ := DataW.trod_struct Try.underlying32 h
  obtain ⟨v0, v1, rfl⟩ := list2 (hcl.trans cellsK)
  obtain ⟨y0, y1, rfl⟩ := list2 hxl
  have t0 := hf 0 _ rfl
  have t1 := hf 1 _ rfl
  simp [cellsI] at t0 t1
  obtain ⟨a, e0, -, _⟩ := DataW.trod_int Try.underlying3 t0
  obtain ⟨b, e1, -, _⟩ := DataW.trod_int Try.underlying3 t1
  simp only [List.cons.injEq, and_true] at e0 e1
  subst e0 e1
  exact ⟨⟨a, b⟩, rfl⟩
theorem viewA {H : Type} {enc : TypeId × Value → H} {W : World} {fuel : Nat} {cs : List Value} {x : DataW H × List MemPlace}
    (h : DataW.trod enc Try.prog W 0 (fun _ => true) true fuel 23 cs = some x) : ∃ (ao : Option Addr) (n c : Nat) (P : List Ask), cs = [.slice ao n c] ∧ KSrc W ao n c P ∧ n ≤ c ∧ n ≤ Rows.uptoBulk x.1 := by
  rcases DataW.trod_slice Try.underlying23 h with h0 | ⟨a, len, cap, elems, rest, n, _, hcs, hx, hb, hl, hm, hlen, hel, hsp, hns⟩
  · exact ⟨none, 0, 0, [], h0.1, KSrc.empty W, Nat.le_refl _, Nat.zero_le _⟩
  · subst hx
    simp only [Rows.uptoBulk]
    have h1 := bulk_len (elems.map (·.1))
    simp only [List.length_map] at h1
    have key : ∀ i, i < len → ∃ e : Ask, KAt W (a.add (i * 2)) e := by
      intro i hi
      have he := hel i hi
      obtain ⟨y, hy⟩ : ∃ y, elems[i]? = some y := ⟨_, List.getElem?_eq_getElem (by omega)⟩
      rw [hy, cellsK, Option.bind_eq_some_iff] at he
      obtain ⟨cs', hcs, hy'⟩ := he
      obtain ⟨_, -, hce⟩ := World.cells?_some hcs
      obtain ⟨e, rfl⟩ := open_ask hy'
      have g0 := hce 0 (by omega)
      rw [add_nought] at g0
      exact ⟨e, ⟨g0, hce 1 (by omega)⟩⟩
    have at' : ∀ t (ht : t < len), ((List.range len).map fun i => if h : i < len then Classical.choose (key i h) else k0).getD t k0 = Classical.choose (key t ht) := fun t ht => by simp [List.getD, ht]
    refine ⟨some a, len, cap, (List.range len).map fun i => if h : i < len then Classical.choose (key i h) else k0, hcs, ⟨by simp, fun h => (by cases h), fun ad h t ht => ?_⟩, hl, by omega⟩
    obtain rfl := Option.some.inj h
    rw [at' t ht]
    exact Classical.choose_spec (key t ht)
theorem open_nest {H : Type} {enc : TypeId × Value → H} {W : World} {fuel : Nat} {cs : List Value} {x : DataW H × List MemPlace}
    (h : DataW.trod enc Try.prog W 0 (fun _ => true) true fuel 54 cs = some x) (hw : Rows.uptoBulk x.1 ≤ 1048576) :
    ∃ bo bn bc ZB co cn cc ZC o0 n0 c0 P0 o1 n1 c1 P1 o2 n2 c2 P2, cs = (nestC bo bn bc co cn cc o0 n0 c0 o1 n1 c1 o2 n2 c2).toList ∧ BIn W bo bn bc ZB ∧ BIn W co cn cc ZC ∧ KIn W o0 n0 c0 P0 ∧ KIn W o1 n1 c1 P1 ∧ KIn W o2 n2 c2 P2 ∧ n0 + n2 ≤ 1048576 := by
  obtain ⟨xs, m, _, hx, hcl, hxl, hf⟩ := DataW.trod_struct Try.underlying54 h
  obtain ⟨v0, v1, v2, v3, v4, rfl⟩ := list5 (hcl.trans cellsN)
  obtain ⟨y0, y1, y2, y3, y4, rfl⟩ := list5 hxl
  have t0 := hf 0 _ rfl
  have t1 := hf 1 _ rfl
  have t2 := hf 2 _ rfl
  have t3 := hf 3 _ rfl
  have t4 := hf 4 _ rfl
  simp [cellsBs, cellsKs] at t0 t1 t2 t3 t4
  obtain ⟨bo, bn, bc, ZB, e0, s0, d0, f0⟩ := viewB t0
  obtain ⟨co, cn, cc, ZC, e1, s1, d1, f1⟩ := viewB t1
  obtain ⟨o0, n0, c0, P0, e2, s2, d2, f2⟩ := viewA t2
  obtain ⟨o1, n1, c1, P1, e3, s3, d3, f3⟩ := viewA t3
  obtain ⟨o2, n2, c2, P2, e4, s4, d4, f4⟩ := viewA t4
  simp only [List.cons.injEq, and_true] at e0 e1 e2 e3 e4
  subst e0 e1 e2 e3 e4
  subst hx
  simp only [Rows.uptoBulk, List.map_cons, List.map_nil, Rows.uptoBulkAll] at hw
  exact ⟨bo, bn, bc, ZB, co, cn, cc, ZC, o0, n0, c0, P0, o1, n1, c1, P1, o2, n2, c2, P2, rfl, ⟨s0, d0, by omega⟩, ⟨s1, d1, by omega⟩, ⟨s2, d2, by omega⟩, ⟨s3, d3, by omega⟩, ⟨s4, d4, by omega⟩, by omega⟩
end Go.Proofs.Ytflinfmhmokfhaa
