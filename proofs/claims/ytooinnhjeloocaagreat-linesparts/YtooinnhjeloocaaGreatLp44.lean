/- OVc -/
import Derived.Test.YtooinnhjeloocaaGreatLp41
import Derived.Test.YtooinnhjeloocaaGreatLp43
namespace Go.Proofs.YtooinnhjeloocaaGreat
open Go.ChangeShapes Go.WideShapes Go.ChangeAt Go.RowKit Go.Joins

theorem cellsCa : Tryz.prog.cellsOf 30 = 8 := by kernel_rfl
theorem cellsEs : Tryz.prog.cellsOf 22 = 1 := by kernel_rfl
theorem cellsDt : Tryz.prog.cellsOf 28 = 2 := by kernel_rfl
theorem cellsI3 : Tryz.prog.cellsOf 3 = 1 := by kernel_rfl
theorem cellsS9 : Tryz.prog.cellsOf 9 = 1 := by kernel_rfl
theorem eight {α : Type} {l : List α} (h : l.length = 8) : ∃ a b c d e f g i, l = [a, b, c, d, e, f, g, i] := by
  match l, h with
  | [a, b, c, d, e, f, g, i], _ => exact ⟨a, b, c, d, e, f, g, i, rfl⟩
theorem six_ {α : Type} {l : List α} (h : l.length = 6) : ∃ a b c d e f, l = [a, b, c, d, e, f] := by
  match l, h with
  | [a, b, c, d, e, f], _ => exact ⟨a, b, c, d, e, f, rfl⟩
theorem viewEs {H : Type} {enc : TypeId × Value → H} {W : World} {fuel : Nat} {v : Value} {x : DataW H × List MemPlace}
    (h : DataW.trod enc Tryz.prog W 0 (fun _ => true) true fuel 22 [v] = some x) (hw : ∀ n ∈ x.1.weights Tryz.prog 22, n ≤ reachBytes) : ∃ (ao : Option Addr) (n cap : Nat) (L : List K.En), v = .slice ao n cap ∧ K.ESrc W ao n cap L := by
  obtain ⟨ao, an, ac, rfl⟩ : ∃ ao an ac, v = .slice ao an ac := by
    rcases DataW.trod_slice Tryz.underlying22 h with h0 | ⟨a, len, cap, _, _, _, _, hcs, _⟩
    · exact ⟨none, 0, 0, by simpa using h0.1⟩
    · exact ⟨some a, len, cap, by simpa using hcs⟩
  obtain ⟨E, Se⟩ := K.view (d := x.1) (p := x.2) ⟨_, by simpa [Value.cells] using h⟩ hw
  exact ⟨ao, an, ac, E, rfl, Se⟩
theorem open_case6 {H : Type} {enc : TypeId × Value → H} {W : World} {fuel : Nat} {cs : List Value} {x : DataW H × List MemPlace}
    (h : DataW.trod enc Tryz.prog W 0 (fun _ => true) true fuel 30 cs = some x) (hw : ∀ n ∈ x.1.weights Tryz.prog 30, n ≤ reachBytes) : ∃ (m : Ca) (A B : List K.En), cs = (CaC m).toList ∧ CaS W m A B := by
  obtain ⟨xs, m, _, hx, hcl, hxl, hf⟩ := DataW.trod_struct Tryz.underlying30 h
  obtain ⟨v0, v1, v2, v3, v4, v5, v6, v7, rfl⟩ := eight (hcl.trans cellsCa)
  obtain ⟨y0, y1, y2, y3, y4, y5, rfl⟩ := six_ hxl
  have t0 := hf 0 _ rfl
  have t1 := hf 1 _ rfl
  have t2 := hf 2 _ rfl
  have t3 := hf 3 _ rfl
  have t4 := hf 4 _ rfl
  have t5 := hf 5 _ rfl
  simp [cellsP, cellsEs, cellsDt, cellsI3, cellsS9] at t0 t1 t2 t3 t4 t5
  subst hx
  simp only [DataW.weights, Tryz.underlying30] at hw
  obtain ⟨ao, an, ac, A, rfl, SA⟩ := viewEs t0 (fun n hn => hw n (DataW.weights_mem_each (j := 0) (t := 22) rfl rfl n hn))
  obtain ⟨bo, bn, bc, B, rfl, SB⟩ := viewEs t1 (fun n hn => hw n (DataW.weights_mem_each (j := 1) (t := 22) rfl rfl n hn))
  obtain ⟨p, ep, Sp⟩ := viewPw t2 (fun n hn => hw n (DataW.weights_mem_each (j := 2) (t := 26) rfl rfl n hn))
  obtain ⟨xd, md, _, hxd, hcd, hxld, hfd⟩ := DataW.trod_struct Tryz.underlying28 t3
  obtain ⟨z0, z1, rfl⟩ := K.list2 hxld
  have u0 := hfd 0 _ rfl
  have u1 := hfd 1 _ rfl
  simp [cellsI3] at u0 u1
  obtain ⟨dr, e4, -, _⟩ := DataW.trod_int Tryz.underlying3 u0
  obtain ⟨dn, e5, -, _⟩ := DataW.trod_int Tryz.underlying3 u1
  obtain ⟨rp, e6, -, _⟩ := DataW.trod_int Tryz.underlying3 t4
  obtain ⟨sk, e7, _⟩ := DataW.trod_string Tryz.underlying9 t5
  simp only [List.cons.injEq, and_true] at ep e4 e5 e6 e7
  obtain ⟨rfl, rfl⟩ := ep
  subst e4 e5 e6 e7
  exact ⟨⟨ao, an, ac, bo, bn, bc, p, dr, dn, rp, sk⟩, A, B, rfl, SA, SB, Sp⟩
end Go.Proofs.YtooinnhjeloocaaGreat
