/- GVp OVc -/
import Derived.Test.YtooinnhjeloocaaGreatLs44
import Derived.Test.YtooinnhjeloocaaGreatLs40
namespace Go.Proofs.YtooinnhjeloocaaGreat
open Go.ChangeShapes Go.WideShapes Go.ChangeAt Go.RowKit Go.Joins

theorem bytesI : Tryz.prog.bytesOf 3 = 8 := by kernel_rfl
theorem bytesS : Tryz.prog.bytesOf 55 = 24 := by kernel_rfl
theorem viewIw {H : Type} {enc : TypeId × Value → H} {W : World} {fuel : Nat} {v : Value} {x : DataW H × List MemPlace}
    (h : DataW.trod enc Tryz.prog W 0 (fun _ => true) true fuel 23 [v] = some x) (hw : ∀ n ∈ x.1.weights Tryz.prog 23, n ≤ reachBytes) : ∃ (ao : Option Addr) (n cap : Nat) (Z : List Int), v = .slice ao n cap ∧ V.Src W ao n cap Z ∧ n ≤ 17592186044415 := by
  have h2 := reachBytes_lt
  rcases DataW.trod_slice Tryz.underlying23 h with h0 | ⟨a, len, cap, elems, rest, n, _, hcs, hx, hb, hl, hm, hlen, hel, hsp, hns⟩
  · have e : v = .slice none 0 0 := by simpa using h0.1
    exact ⟨none, 0, 0, [], e, ⟨rfl, fun _ => ⟨rfl, rfl⟩, fun ad h => (by cases h)⟩, Nat.zero_le _⟩
  · subst hx
    have e : v = .slice (some a) len cap := by simpa using hcs
    have h1 := hw (((elems.map (·.1)).length + (rest.map (·.1)).length) * Tryz.prog.bytesOf 3) (by simp [DataW.weights, Tryz.underlying23])
    rw [bytesI] at h1
    simp at h1
    have key : ∀ i, i < len → ∃ z : Int, W.cell? (a.add i) = some (.int .i64 z) := by
      intro i hi
      have he := hel i hi
      obtain ⟨y, hy⟩ : ∃ y, elems[i]? = some y := ⟨_, List.getElem?_eq_getElem (by omega)⟩
      rw [hy, cellsI, Option.bind_eq_some_iff] at he
      obtain ⟨cs', hcs, hy'⟩ := he
      obtain ⟨hl', -, hce⟩ := World.cells?_some hcs
      obtain ⟨z, rfl, -, _⟩ := DataW.trod_int Tryz.underlying3 hy'
      have g0 := hce 0 (by omega)
      rw [add_zero, Nat.mul_one] at g0
      exact ⟨z, g0⟩
    refine ⟨some a, len, cap, (List.range len).map fun i => if h : i < len then Classical.choose (key i h) else 0, e, ⟨by simp, fun h => (by cases h), fun ad h t ht => ?_⟩, by omega⟩
    obtain rfl := Option.some.inj h
    have : ((List.range len).map fun i => if h : i < len then Classical.choose (key i h) else 0).getD t 0 = Classical.choose (key t ht) := by simp [List.getD, ht]
    rw [this]
    exact Classical.choose_spec (key t ht)
theorem viewCw {H : Type} {enc : TypeId × Value → H} {W : World} {fuel : Nat} {v : Value} {x : DataW H × List MemPlace}
    (h : DataW.trod enc Tryz.prog W 0 (fun _ => true) true fuel 24 [v] = some x) (hw : ∀ n ∈ x.1.weights Tryz.prog 24, n ≤ reachBytes) : ∃ (ao : Option Addr) (n cap : Nat) (L : List Sn), v = .slice ao n cap ∧ SSrc W ao n cap L := by
  have h2 := reachBytes_lt
  rcases DataW.trod_slice Tryz.underlying24 h with h0 | ⟨a, len, cap, elems, rest, n, _, hcs, hx, hb, hl, hm, hlen, hel, hsp, hns⟩
  · have e : v = .slice none 0 0 := by simpa using h0.1
    exact ⟨none, 0, 0, [], e, SSrc.empty _⟩
  · subst hx
    have e : v = .slice (some a) len cap := by simpa using hcs
    have h1 := hw (((elems.map (·.1)).length + (rest.map (·.1)).length) * Tryz.prog.bytesOf 55) (by simp [DataW.weights, Tryz.underlying24])
    rw [bytesS] at h1
    simp at h1
    have key : ∀ i, i < len → ∃ e : Sn, SnAt W (a.add (i * 3)) e := by
      intro i hi
      have he := hel i hi
      obtain ⟨y, hy⟩ : ∃ y, elems[i]? = some y := ⟨_, List.getElem?_eq_getElem (by omega)⟩
      rw [hy, cellsS, Option.bind_eq_some_iff] at he
      obtain ⟨cs', hcs, hy'⟩ := he
      obtain ⟨_, -, hce⟩ := World.cells?_some hcs
      obtain ⟨e, rfl⟩ := open_span hy'
      have g0 := hce 0 (by omega)
      rw [add_zero] at g0
      exact ⟨e, ⟨g0, hce 1 (by omega), hce 2 (by omega)⟩⟩
    refine ⟨some a, len, cap, (List.range len).map fun i => if h : i < len then Classical.choose (key i h) else sn0, e, ⟨by simp, fun h => (by cases h), fun ad h t ht => ?_, by omega, hl⟩⟩
    obtain rfl := Option.some.inj h
    have : ((List.range len).map fun i => if h : i < len then Classical.choose (key i h) else sn0).getD t sn0 = Classical.choose (key t ht) := by simp [List.getD, ht]
    rw [this]
    exact Classical.choose_spec (key t ht)
theorem viewPw {H : Type} {enc : TypeId × Value → H} {W : World} {fuel : Nat} {cs : List Value} {x : DataW H × List MemPlace}
    (h : DataW.trod enc Tryz.prog W 0 (fun _ => true) true fuel 26 cs = some x) (hw : ∀ n ∈ x.1.weights Tryz.prog 26, n ≤ reachBytes) : ∃ p : Pv, cs = [.slice p.vo p.vn p.vc, .slice p.co p.cn p.cc] ∧ PSrc W p := by
  obtain ⟨xs, m, _, hx, hcl, hxl, hf⟩ := DataW.trod_struct Tryz.underlying26 h
  obtain ⟨v0, v1, rfl⟩ := list2 (hcl.trans cellsP)
  obtain ⟨y0, y1, rfl⟩ := list2 hxl
  have t0 := hf 0 _ rfl
  have t1 := hf 1 _ rfl
  simp [cellsV, cellsC] at t0 t1
  subst hx
  simp only [DataW.weights, Tryz.underlying26] at hw
  obtain ⟨a0, l0, c0, Z, rfl, S0, g0⟩ := viewIw t0 (fun n hn => hw n (DataW.weights_mem_each (j := 0) (t := 23) rfl rfl n hn))
  obtain ⟨a1, l1, c1, L, rfl, S1⟩ := viewCw t1 (fun n hn => hw n (DataW.weights_mem_each (j := 1) (t := 24) rfl rfl n hn))
  exact ⟨⟨a0, l0, c0, a1, l1, c1, ⟨Z, L⟩⟩, rfl, ⟨S0, S1, g0⟩⟩
end Go.Proofs.YtooinnhjeloocaaGreat
namespace Go.Proofs.YtooinnhjeloocaaGreat
open Go.ChangeShapes Go.WideShapes Go.ChangeAt Go.RowKit Go.Joins

theorem cellsCa : Tryz.prog.cellsOf 30 = 8 := by kernel_rfl
theorem cellsEs : Tryz.prog.cellsOf 22 = 1 := by kernel_rfl
theorem cellsDt : Tryz.prog.cellsOf 28 = 2 := by kernel_rfl
theorem cellsI3 : Tryz.prog.cellsOf 3 = 1 := by kernel_rfl
theorem cellsS9 : Tryz.prog.cellsOf 9 = 1 := by kernel_rfl
theorem eight {α : Type} {l : List α} (h : l.length = 8) : ∃ a b c d e f g i, l = [a, b, c, d, e, f, g, i] := by
  match l, h with
  | [a, b, c, d, e, f, g, i], _ => exact ⟨a, b, c, d, e, f, g, i, rfl⟩
theorem six_ {α : Type} {l : List α} (h : l.length = 6) : ∃ a b c d e f, l = [a, b, c, d, e, f] := by
  match l, h with
  | [a, b, c, d, e, f], _ => exact ⟨a, b, c, d, e, f, rfl⟩
theorem viewEs {H : Type} {enc : TypeId × Value → H} {W : World} {fuel : Nat} {v : Value} {x : DataW H × List MemPlace}
    (h : DataW.trod enc Tryz.prog W 0 (fun _ => true) true fuel 22 [v] = some x) (hw : ∀ n ∈ x.1.weights Tryz.prog 22, n ≤ reachBytes) : ∃ (ao : Option Addr) (n cap : Nat) (L : List K.En), v = .slice ao n cap ∧ K.ESrc W ao n cap L := by
  obtain ⟨ao, an, ac, rfl⟩ : ∃ ao an ac, v = .slice ao an ac := by
    rcases DataW.trod_slice Tryz.underlying22 h with h0 | ⟨a, len, cap, _, _, _, _, hcs, _⟩
    · exact ⟨none, 0, 0, by simpa using h0.1⟩
    · exact ⟨some a, len, cap, by simpa using hcs⟩
  obtain ⟨E, Se⟩ := K.view (d := x.1) (p := x.2) ⟨_, by simpa [Value.cells] using h⟩ hw
  exact ⟨ao, an, ac, E, rfl, Se⟩
theorem open_case6 {H : Type} {enc : TypeId × Value → H} {W : World} {fuel : Nat} {cs : List Value} {x : DataW H × List MemPlace}
    (h : DataW.trod enc Tryz.prog W 0 (fun _ => true) true fuel 30 cs = some x) (hw : ∀ n ∈ x.1.weights Tryz.prog 30, n ≤ reachBytes) : ∃ (m : Ca) (A B : List K.En), cs = (CaC m).toList ∧ CaS W m A B := by
  obtain ⟨xs, m, _, hx, hcl, hxl, hf⟩ := DataW.trod_struct Tryz.underlying30 h
  obtain ⟨v0, v1, v2, v3, v4, v5, v6, v7, rfl⟩ := eight (hcl.trans cellsCa)
  obtain ⟨y0, y1, y2, y3, y4, y5, rfl⟩ := six_ hxl
  have t0 := hf 0 _ rfl
  have t1 := hf 1 _ rfl
  have t2 := hf 2 _ rfl
  have t3 := hf 3 _ rfl
  have t4 := hf 4 _ rfl
  have t5 := hf 5 _ rfl
  simp [cellsP, cellsEs, cellsDt, cellsI3, cellsS9] at t0 t1 t2 t3 t4 t5
  subst hx
  simp only [DataW.weights, Tryz.underlying30] at hw
  obtain ⟨ao, an, ac, A, rfl, SA⟩ := viewEs t0 (fun n hn => hw n (DataW.weights_mem_each (j := 0) (t := 22) rfl rfl n hn))
  obtain ⟨bo, bn, bc, B, rfl, SB⟩ := viewEs t1 (fun n hn => hw n (DataW.weights_mem_each (j := 1) (t := 22) rfl rfl n hn))
  obtain ⟨p, ep, Sp⟩ := viewPw t2 (fun n hn => hw n (DataW.weights_mem_each (j := 2) (t := 26) rfl rfl n hn))
  obtain ⟨xd, md, _, hxd, hcd, hxld, hfd⟩ := DataW.trod_struct Tryz.underlying28 t3
  obtain ⟨z0, z1, rfl⟩ := K.list2 hxld
  have u0 := hfd 0 _ rfl
  have u1 := hfd 1 _ rfl
  simp [cellsI3] at u0 u1
  obtain ⟨dr, e4, -, _⟩ := DataW.trod_int Tryz.underlying3 u0
  obtain ⟨dn, e5, -, _⟩ := DataW.trod_int Tryz.underlying3 u1
  obtain ⟨rp, e6, -, _⟩ := DataW.trod_int Tryz.underlying3 t4
  obtain ⟨sk, e7, _⟩ := DataW.trod_string Tryz.underlying9 t5
  simp only [List.cons.injEq, and_true] at ep e4 e5 e6 e7
  obtain ⟨rfl, rfl⟩ := ep
  subst e4 e5 e6 e7
  exact ⟨⟨ao, an, ac, bo, bn, bc, p, dr, dn, rp, sk⟩, A, B, rfl, SA, SB, Sp⟩
end Go.Proofs.YtooinnhjeloocaaGreat
