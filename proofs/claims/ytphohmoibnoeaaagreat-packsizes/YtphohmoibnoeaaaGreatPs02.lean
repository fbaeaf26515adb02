/- The case that is an argument, whatever its size: its pasts and entries opened. -/
import Derived.Test.YtphohmoibnoeaaaGreatPs01
import Derived.Test.YtphohmoibnoeaaaGreatPs00
import Derived.Test.YtphohmoibnoeaaaGreatPb42
namespace Go.Proofs.YtphohmoibnoeaaaGreat
open Go.ChangeShapes Go.WideShapes Go.ChangeAt Go.RowKit Go.Joins

theorem cellsEq : Tryz.prog.cellsOf 26 = 1 := by kernel_rfl
theorem cellsRq : Tryz.prog.cellsOf 27 = 1 := by kernel_rfl
theorem cellsBq : Tryz.prog.cellsOf 28 = 1 := by kernel_rfl
theorem cellsCq : Tryz.prog.cellsOf 30 = 11 := by kernel_rfl
theorem mem_wAll {H : Type} {P : Program} {e : TypeId} {d : DataW H} : ∀ {l : List (DataW H)}, d ∈ l → ∀ n ∈ d.weights P e, n ∈ DataW.weightsAll P e l
 | c :: t, h, n, hn => by
  rw [DataW.weightsAll]
  rcases List.mem_cons.1 h with rfl | h
  ·exact List.mem_append_left _ hn
  ·exact List.mem_append_right _ (mem_wAll h n hn)
theorem open_entryW {H : Type} {enc : TypeId × Value → H} {w : World} {base : Nat} {spare : Nat → Bool} {held : Bool} {fuel : Nat} {cs : List Value} {x : DataW H × List MemPlace}
  (h : DataW.trod enc Tryz.prog w base spare held fuel 57 cs = some x) (hw : ∀ n ∈ x.1.weights Tryz.prog 57, n ≤ reachBytes) : ∃ e : K.En, cs = (K.EC e).toList ∧ e.sku.size ≤ 140737488355328 := by
 have h2 := reachBytes_lt
 obtain ⟨xs, m, _, hx, hcl, hxl, hf⟩ := DataW.trod_struct Tryz.underlying57 h
 obtain ⟨v0, v1, v2, v3, rfl⟩ := K.list4 (hcl.trans K.cells28)
 obtain ⟨y0, y1, y2, rfl⟩ := K.list3 hxl
 have t0 := hf 0 _ rfl
 have t1 := hf 1 _ rfl
 have t2 := hf 2 _ rfl
 simp [K.cells3, K.cells9, K.cells26] at t0 t1 t2
 obtain ⟨xs', m', _, hx', hcl', hxl', hf'⟩ := DataW.trod_struct Tryz.underlying55 t0
 obtain ⟨z0, z1, rfl⟩ := K.list2 hxl'
 have s0 := hf' 0 _ rfl
 have s1 := hf' 1 _ rfl
 simp [K.cells3] at s0 s1
 obtain ⟨r, e0, -, _⟩ := DataW.trod_int Tryz.underlying3 s0
 obtain ⟨n, e1, -, _⟩ := DataW.trod_int Tryz.underlying3 s1
 obtain ⟨s, e2, hd, w2⟩ := DataW.trod_string Tryz.underlying9 t1
 obtain ⟨q, e3, -, _⟩ := DataW.trod_int Tryz.underlying3 t2
 subst hx
 simp only [DataW.weights, Tryz.underlying57] at hw
 have h1 := hw s.data.toList.length (DataW.weights_mem_each (j := 1) (t := 9) rfl rfl _ (by rw [hd]; simp [DataW.weights]))
 simp only [List.cons.injEq, and_true] at e0 e1 e2 e3
 subst e0 e1 e2 e3
 refine ⟨⟨r, n, s, q⟩, rfl, ?_⟩
 have h3 : s.data.toList.length = s.size := Array.length_toList
 show s.size ≤ _
 have h4 : reachBytes = 140737488351232 := rfl
 omega
theorem viewEw {H : Type} {enc : TypeId × Value → H} {W : World} {fuel : Nat} {v : Value} {x : DataW H × List MemPlace}
  (h : DataW.trod enc Tryz.prog W 0 (fun _ => true) true fuel 26 [v] = some x) (hw : ∀ n ∈ x.1.weights Tryz.prog 26, n ≤ reachBytes) : ∃ (ao : Option Addr) (n cap : Nat) (L : List K.En), v = .slice ao n cap ∧ K.ESrc W ao n cap L ∧ n ≤ cap ∧ ∀ e ∈ L, e.sku.size ≤ 140737488355328 := by
 have h2 := reachBytes_lt
 rcases DataW.trod_slice Tryz.underlying26 h with h0 | ⟨a, len, cap, elems, rest, n, _, hcs, hx, hb, hl, hm, hlen, hel, hsp, hns⟩
 ·have e : v = .slice none 0 0 := by simpa using h0.1
  exact ⟨none, 0, 0, [], e, ⟨rfl, fun _ => ⟨rfl, rfl⟩, fun ad h => (by cases h), fun e he => (by cases he), Nat.zero_le _⟩, Nat.le_refl _, fun e he => (by cases he)⟩
 ·subst hx
  have e : v = .slice (some a) len cap := by simpa using hcs
  have h1 := hw (((elems.map (·.1)).length + (rest.map (·.1)).length) * Tryz.prog.bytesOf 57) (by simp [DataW.weights, Tryz.underlying26])
  rw [K.bytes28] at h1
  simp at h1
  have key : ∀ i, i < len → ∃ e : K.En, K.EnAt W (a.add (i * 4)) e ∧ e.sku.size ≤ 140737488355328 := by
   intro i hi
   have he := hel i hi
   obtain ⟨y, hy⟩ : ∃ y, elems[i]? = some y := ⟨_, List.getElem?_eq_getElem (by omega)⟩
   rw [hy, K.cells28, Option.bind_eq_some_iff] at he
   obtain ⟨cs', hcs, hy'⟩ := he
   obtain ⟨_, -, hce⟩ := World.cells?_some hcs
   obtain ⟨e, rfl, hs⟩ := open_entryW hy' (fun n hn => hw n (by
    simp only [DataW.weights, Tryz.underlying26]
    exact List.mem_cons_of_mem _ (List.mem_append_left _ (mem_wAll (List.mem_map_of_mem (f := (·.1)) (List.mem_of_getElem? hy)) n hn))))
   have g0 := hce 0 (by omega)
   rw [add_zero] at g0
   exact ⟨e, ⟨g0, hce 1 (by omega), hce 2 (by omega), hce 3 (by omega)⟩, hs⟩
  have km : ∀ e ∈ ((List.range len).map fun i => if h : i < len then Classical.choose (key i h) else K.en0), e.sku.size ≤ 140737488355328 := fun e he => by
   simp only [List.mem_map, List.mem_range] at he
   obtain ⟨i, hi, rfl⟩ := he
   rw [dif_pos hi]
   exact (Classical.choose_spec (key i hi)).2
  refine ⟨some a, len, cap, (List.range len).map fun i => if h : i < len then Classical.choose (key i h) else K.en0, e, ⟨by simp, fun h => (by cases h), fun ad h t ht => ?_, fun e he => ?_, by omega⟩, hl, km⟩
  ·obtain rfl := Option.some.inj h
   have : ((List.range len).map fun i => if h : i < len then Classical.choose (key i h) else K.en0).getD t K.en0 = Classical.choose (key t ht) := by simp [List.getD, ht]
   rw [this]
   exact (Classical.choose_spec (key t ht)).1
  ·have := km e he
   unfold maxLen
   omega
theorem sliceOf {H : Type} {enc : TypeId × Value → H} {W : World} {fuel : Nat} {v : Value} {x : DataW H × List MemPlace} {t e : TypeId} (ht : Tryz.prog.underlying t = some (.slice e))
  (h : DataW.trod enc Tryz.prog W 0 (fun _ => true) true fuel t [v] = some x) : ∃ ao n cap, v = .slice ao n cap := by
 rcases DataW.trod_slice ht h with h0 | ⟨a, len, cap, _, _, _, _, hcs, _⟩
 ·exact ⟨none, 0, 0, by simpa using h0.1⟩
 ·exact ⟨some a, len, cap, by simpa using hcs⟩
theorem listN9 {α : Type} {l : List α} (h : l.length = 9) : ∃ a b c d e f g i j, l = [a, b, c, d, e, f, g, i, j] := by
 match l, h with
 | [a, b, c, d, e, f, g, i, j], _ => exact ⟨a, b, c, d, e, f, g, i, j, rfl⟩
theorem listN11 {α : Type} {l : List α} (h : l.length = 11) : ∃ a b c d e f g i j k m, l = [a, b, c, d, e, f, g, i, j, k, m] := by
 match l, h with
 | [a, b, c, d, e, f, g, i, j, k, m], _ => exact ⟨a, b, c, d, e, f, g, i, j, k, m, rfl⟩
theorem open_caseP {H : Type} {enc : TypeId × Value → H} {W : World} {fuel : Nat} {cs : List Value} {x : DataW H × List MemPlace}
  (h : DataW.trod enc Tryz.prog W 0 (fun _ => true) true fuel 30 cs = some x) (hw : ∀ n ∈ x.1.weights Tryz.prog 30, n ≤ reachBytes) : ∃ (m : Cs) (E F : List K.En), cs = (CsC m).toList ∧ CsP W m E F ∧ m.en ≤ m.ec ∧ ∀ e ∈ E, e.sku.size ≤ 140737488355328 := by
 obtain ⟨xs, m, _, hx, hcl, hxl, hf⟩ := DataW.trod_struct Tryz.underlying30 h
 obtain ⟨v0, v1, v2, v3, v4, v5, v6, v7, v8, v9, v10, rfl⟩ := listN11 (hcl.trans cellsCq)
 obtain ⟨y0, y1, y2, y3, y4, y5, y6, y7, y8, rfl⟩ := listN9 hxl
 have t0 := hf 0 _ rfl
 have t1 := hf 1 _ rfl
 have t2 := hf 2 _ rfl
 have t3 := hf 3 _ rfl
 have t4 := hf 4 _ rfl
 have t5 := hf 5 _ rfl
 have t6 := hf 6 _ rfl
 have t7 := hf 7 _ rfl
 have t8 := hf 8 _ rfl
 simp [cellsP, cellsEq, cellsRq, cellsBq] at t0 t1 t2 t3 t4 t5 t6 t7 t8
 subst hx
 simp only [DataW.weights, Tryz.underlying30] at hw
 obtain ⟨p, ep, Sp⟩ := viewPw t0 (fun n hn => hw n (DataW.weights_mem_each (j := 0) (t := 25) rfl rfl n hn))
 obtain ⟨q, eq, Sq⟩ := viewPw t1 (fun n hn => hw n (DataW.weights_mem_each (j := 1) (t := 25) rfl rfl n hn))
 obtain ⟨eo, en, ec, E, rfl, Se, he1, he2⟩ := viewEw t2 (fun n hn => hw n (DataW.weights_mem_each (j := 2) (t := 26) rfl rfl n hn))
 obtain ⟨fo, fn, fc, F, rfl, Sf, -, -⟩ := viewEw t3 (fun n hn => hw n (DataW.weights_mem_each (j := 3) (t := 26) rfl rfl n hn))
 obtain ⟨ro, rn, rc, rfl⟩ := sliceOf Tryz.underlying27 t4
 obtain ⟨uo, un, uc, rfl⟩ := sliceOf Tryz.underlying27 t5
 obtain ⟨ao, an, ac, rfl⟩ := sliceOf Tryz.underlying28 t6
 obtain ⟨bo, bn, bc, rfl⟩ := sliceOf Tryz.underlying28 t7
 obtain ⟨co, cn, cc, rfl⟩ := sliceOf Tryz.underlying28 t8
 simp only [List.cons.injEq, and_true] at ep eq
 obtain ⟨rfl, rfl⟩ := ep
 obtain ⟨rfl, rfl⟩ := eq
 exact ⟨⟨p, q, eo, en, ec, fo, fn, fc, ro, rn, rc, uo, un, uc, ao, an, ac, bo, bn, bc, co, cn, cc⟩, E, F, rfl, ⟨Sp, Sq, Se, Sf⟩, he1, he2⟩
end Go.Proofs.YtphohmoibnoeaaaGreat
