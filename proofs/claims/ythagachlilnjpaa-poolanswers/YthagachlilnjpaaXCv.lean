/- A script of the pool's laws as an argument, opened once, whatever its size. -/
import Derived.Test.YthagachlilnjpaaXSt
import Derived.ProofKit
import Derived.OpenShut
import Derived.Lib.SmallJoins
import Derived.HandedShaped
import Derived.SizedLaws
import Derived.ChangeMaps5
namespace Go.Proofs.Ythagachlilnjpaa
open Go.ChangeShapes Go.WideShapes Go.ChangeAt Go.RowKit Go.Joins

theorem own : ownKnob Try.prog.godebug = none := by kernel_rfl
theorem laidOut : laidOutB Try.prog = true := by kernel_rfl
theorem cellsO : Try.prog.cellsOf 31 = 6 := by kernel_rfl
theorem cellsI : Try.prog.cellsOf 3 = 1 := by kernel_rfl
theorem cellsB : Try.prog.cellsOf 4 = 1 := by kernel_rfl
theorem cellsU : Try.prog.cellsOf 5 = 1 := by kernel_rfl
theorem cellsL : Try.prog.cellsOf 29 = 1 := by kernel_rfl
theorem bytesO : Try.prog.bytesOf 31 = 64 := by kernel_rfl
theorem bytesU : Try.prog.bytesOf 5 = 1 := by kernel_rfl
theorem list6 {α : Type} {l : List α} (h : l.length = 6) : ∃ a b c d e f, l = [a, b, c, d, e, f] := by
  match l, h with
  | [a, b, c, d, e, f], _ => exact ⟨a, b, c, d, e, f, rfl⟩
theorem i64_of_wf {n : Int} (h : (Lit.int .i64 n).wf = true) : i64ok n := by
  have e1 : IntKind.i64.min = -9223372036854775808 := by decide
  have e2 : IntKind.i64.max = 9223372036854775807 := by decide
  simp only [Lit.wf, e1, e2, Bool.and_eq_true, decide_eq_true_eq] at h
  exact h
theorem weights_mem_all {H : Type} {P : Program} {t : TypeId} {d : DataW H} : ∀ {ds : List (DataW H)} {j : Nat}, ds[j]? = some d → ∀ n ∈ d.weights P t, n ∈ DataW.weightsAll P t ds
  | d0 :: ds, 0, hd, n, hn => by
    simp only [List.getElem?_cons_zero, Option.some.injEq] at hd
    subst hd
    simp only [DataW.weightsAll, List.mem_append]
    exact Or.inl hn
  | d0 :: ds, j + 1, hd, n, hn => by
    simp only [List.getElem?_cons_succ] at hd
    simp only [DataW.weightsAll, List.mem_append]
    exact Or.inr (weights_mem_all hd n hn)
  | [], _, hd, _, _ => by simp at hd
theorem viewB {H : Type} {enc : TypeId × Value → H} {W : World} {fuel : Nat} {v : Value} {x : DataW H × List MemPlace}
    (h : DataW.trod enc Try.prog W 0 (fun _ => true) true fuel 29 [v] = some x) (hw : ∀ n ∈ x.1.weights Try.prog 29, n ≤ reachBytes) : ∃ (ao : Option Addr) (n cap : Nat) (Z : List Int), v = .slice ao n cap ∧ BS W ao n cap Z ∧ n ≤ 140737488355328 := by
  have h2 := reachBytes_lt
  rcases DataW.trod_slice Try.underlying29 h with h0 | ⟨a, len, cap, elems, rest, n, _, hcs, hx, hb, hl, hm, hlen, hel, hsp, hns⟩
  · have e : v = .slice none 0 0 := by simpa using h0.1
    exact ⟨none, 0, 0, [], e, BS.nil_ _, by omega⟩
  · subst hx
    have e : v = .slice (some a) len cap := by simpa using hcs
    have h1 := hw (((elems.map (·.1)).length + (rest.map (·.1)).length) * Try.prog.bytesOf 5) (by simp [DataW.weights, Try.underlying29])
    rw [bytesU] at h1
    simp at h1
    have key : ∀ i, i < len → ∃ z : Int, W.cell? (a.add i) = some (.int .u8 z) := by
      intro i hi
      have he := hel i hi
      obtain ⟨y, hy⟩ : ∃ y, elems[i]? = some y := ⟨_, List.getElem?_eq_getElem (by omega)⟩
      rw [hy, cellsU, Option.bind_eq_some_iff] at he
      obtain ⟨cs', hcs, hy'⟩ := he
      obtain ⟨hln, -, hce⟩ := World.cells?_some hcs
      obtain ⟨z, rfl, -, _⟩ := DataW.trod_int Try.underlying5 hy'
      have g0 := hce 0 (by omega)
      rw [add_nought, Nat.mul_one] at g0
      exact ⟨z, g0⟩
    refine ⟨some a, len, cap, (List.range len).map fun i => if h : i < len then Classical.choose (key i h) else 0, e, ⟨by simp, fun h => (by cases h), fun ad h t ht => ?_⟩, by omega⟩
    obtain rfl := Option.some.inj h
    have : ((List.range len).map fun i => if h : i < len then Classical.choose (key i h) else 0).getD t 0 = Classical.choose (key t ht) := by simp [List.getD, ht]
    rw [this]
    exact Classical.choose_spec (key t ht)
theorem open_op {H : Type} {enc : TypeId × Value → H} {W : World} {fuel : Nat} {cs : List Value} {x : DataW H × List MemPlace}
    (h : DataW.trod enc Try.prog W 0 (fun _ => true) true fuel 31 cs = some x) (hw : ∀ n ∈ x.1.weights Try.prog 31, n ≤ reachBytes) : ∃ (e : Opr) (Z : List Int), cs = (OC e).toList ∧ i64ok e.nn ∧ i64ok e.xx ∧ BS W e.bo e.bn e.bc Z ∧ e.bn ≤ 140737488355328 := by
  obtain ⟨xs, m, _, hx, hcl, hxl, hf⟩ := DataW.trod_struct Try.underlying31 h
  obtain ⟨v0, v1, v2, v3, v4, v5, rfl⟩ := list6 (hcl.trans cellsO)
  obtain ⟨y0, y1, y2, y3, y4, y5, rfl⟩ := list6 hxl
  have t0 := hf 0 _ rfl
  have t1 := hf 1 _ rfl
  have t2 := hf 2 _ rfl
  have t3 := hf 3 _ rfl
  have t4 := hf 4 _ rfl
  have t5 := hf 5 _ rfl
  simp [cellsI, cellsB, cellsL] at t0 t1 t2 t3 t4 t5
  subst hx
  simp only [DataW.weights, Try.underlying31] at hw
  obtain ⟨a, e0, -, _⟩ := DataW.trod_int Try.underlying3 t0
  obtain ⟨b, e1, -⟩ := DataW.trod_bool Try.underlying4 t1
  obtain ⟨c, e2, -, hc⟩ := DataW.trod_int Try.underlying3 t2
  obtain ⟨d, e3, -, hd⟩ := DataW.trod_int Try.underlying3 t3
  obtain ⟨e, e4, -, _⟩ := DataW.trod_int Try.underlying3 t4
  simp only [List.cons.injEq, and_true] at e0 e1 e2 e3 e4
  subst e0 e1 e2 e3 e4
  obtain ⟨bo, n, bc, Z, rfl, B, hn⟩ := viewB t5 (fun n hn => hw n (DataW.weights_mem_each (j := 5) (t := 29) rfl rfl n hn))
  exact ⟨⟨a, b, c, d, e, bo, n, bc⟩, Z, rfl, i64_of_wf hc, i64_of_wf hd, B, hn⟩
theorem viewO {H : Type} {enc : TypeId × Value → H} {W : World} {a0 : Option Addr} {len cap : Nat} {d : DataW H} {p : List MemPlace}
    (h : DataW.Trod enc Try.prog W 0 (fun _ => true) true 22 (Value.slice a0 len cap) d p) (hw : ∀ n ∈ DataW.weights Try.prog 22 d, n ≤ reachBytes) :
    ∃ x : List Opr × (Nat → List Int), OSrc W a0 len cap x.1 x.2 := by
  obtain ⟨fuel, hf⟩ := h
  have h2 := reachBytes_lt
  rcases DataW.trod_slice Try.underlying22 hf with h0 | ⟨a, len', cap', elems, rest, n, _, hcs, hx, hb, hl, hm, hlen, hel, hsp, hns⟩
  · have hcs := h0.1
    simp [Value.cells] at hcs
    obtain ⟨rfl, rfl, rfl⟩ := hcs
    exact ⟨([], fun _ => []), ⟨rfl, fun _ => ⟨rfl, rfl⟩, (fun ad h => by cases h), Nat.zero_le _, fun t ht => absurd ht (Nat.not_lt_zero t)⟩⟩
  · simp [Value.cells] at hcs
    obtain ⟨rfl, rfl, rfl⟩ := hcs
    simp only [Prod.mk.injEq] at hx
    obtain ⟨rfl, _⟩ := hx
    have h1 := hw (((elems.map (·.1)).length + (rest.map (·.1)).length) * Try.prog.bytesOf 31) (by simp [DataW.weights, Try.underlying22])
    rw [bytesO] at h1
    simp at h1
    have key : ∀ i, i < len → ∃ p : Opr × List Int, OAt W (a.add (i * 6)) p.1 ∧ i64ok p.1.nn ∧ i64ok p.1.xx ∧ BS W p.1.bo p.1.bn p.1.bc p.2 ∧ p.1.bn ≤ 140737488355328 := by
      intro i hi
      have he := hel i hi
      obtain ⟨y, hy⟩ : ∃ y, elems[i]? = some y := ⟨_, List.getElem?_eq_getElem (by omega)⟩
      rw [hy, cellsO, Option.bind_eq_some_iff] at he
      obtain ⟨cs', hcs, hy'⟩ := he
      obtain ⟨_, -, hce⟩ := World.cells?_some hcs
      obtain ⟨e, Z, rfl, r⟩ := open_op hy' (fun k hk => hw k (by
        simp only [DataW.weights, Try.underlying22]
        exact List.mem_cons_of_mem _ (List.mem_append_left _ (weights_mem_all (j := i) (by rw [List.getElem?_map, hy]; rfl) k hk))))
      have g0 := hce 0 (by omega)
      rw [add_nought] at g0
      exact ⟨(e, Z), ⟨g0, hce 1 (by omega), hce 2 (by omega), hce 3 (by omega), hce 4 (by omega), hce 5 (by omega)⟩, r⟩
    have at' : ∀ t (ht : t < len), ((List.range len).map fun i => if h : i < len then (Classical.choose (key i h)).1 else o0).getD t o0 = (Classical.choose (key t ht)).1 := fun t ht => by simp [List.getD, ht]
    refine ⟨((List.range len).map fun i => if h : i < len then (Classical.choose (key i h)).1 else o0, fun i => if h : i < len then (Classical.choose (key i h)).2 else []), ⟨by simp, fun h => (by cases h), fun ad h t ht => ?_, by omega, fun t ht => ?_⟩⟩
    · obtain rfl := Option.some.inj h
      rw [at' t ht]
      exact (Classical.choose_spec (key t ht)).1
    · show i64ok _ ∧ _
      rw [at' t ht]
      have q := (Classical.choose_spec (key t ht)).2
      refine ⟨q.1, q.2.1, ?_, q.2.2.2⟩
      show BS W _ _ _ (if h : t < len then (Classical.choose (key t h)).2 else [])
      rw [dif_pos ht]
      exact q.2.2.1
end Go.Proofs.Ythagachlilnjpaa
