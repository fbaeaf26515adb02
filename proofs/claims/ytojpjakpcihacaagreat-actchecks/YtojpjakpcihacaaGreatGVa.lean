/- An act that is an argument. -/
import Derived.Test.YtojpjakpcihacaaGreatGVp
import Derived.Test.YtojpjakpcihacaaGreatGCd
namespace Go.Proofs.YtojpjakpcihacaaGreat
open Go.ChangeShapes Go.WideShapes Go.ChangeAt Go.RowKit Go.Joins

theorem cellsAc : Tryz.prog.cellsOf 27 = 5 := by kernel_rfl
theorem cellsSt : Tryz.prog.cellsOf 9 = 1 := by kernel_rfl
theorem list4 {α : Type} {l : List α} (h : l.length = 4) : ∃ a b c d, l = [a, b, c, d] := by
  match l, h with
  | [a, b, c, d], _ => exact ⟨a, b, c, d, rfl⟩
theorem list5 {α : Type} {l : List α} (h : l.length = 5) : ∃ a b c d e, l = [a, b, c, d, e] := by
  match l, h with
  | [a, b, c, d, e], _ => exact ⟨a, b, c, d, e, rfl⟩
theorem i64_of_wf' {n : Int} (h : (Lit.int .i64 n).wf = true) : i64ok n := by
  have e1 : IntKind.i64.min = -9223372036854775808 := by decide
  have e2 : IntKind.i64.max = 9223372036854775807 := by decide
  simp only [Lit.wf, e1, e2, Bool.and_eq_true, decide_eq_true_eq] at h
  exact h
theorem open_act {H : Type} {enc : TypeId × Value → H} {W : World} {fuel : Nat} {cs : List Value} {x : DataW H × List MemPlace}
    (h : DataW.trod enc Tryz.prog W 0 (fun _ => true) true fuel 27 cs = some x) (hw : ∀ n ∈ x.1.weights Tryz.prog 27, n ≤ reachBytes) : ∃ (k : Int) (s : ByteArray) (q : Int) (p : Pv), cs = (AcC (mkA k s q p)).toList ∧ PSrc W p ∧ s.size ≤ maxLen ∧ i64ok k := by
  obtain ⟨xs, m, _, hx, hcl, hxl, hf⟩ := DataW.trod_struct Tryz.underlying27 h
  obtain ⟨v0, v1, v2, v3, v4, rfl⟩ := list5 (hcl.trans cellsAc)
  obtain ⟨y0, y1, y2, y3, rfl⟩ := list4 hxl
  have t0 := hf 0 _ rfl
  have t1 := hf 1 _ rfl
  have t2 := hf 2 _ rfl
  have t3 := hf 3 _ rfl
  simp [cellsP, cellsI, cellsSt] at t0 t1 t2 t3
  subst hx
  simp only [DataW.weights, Tryz.underlying27] at hw
  obtain ⟨k, e0, -, wf0⟩ := DataW.trod_int Tryz.underlying3 t0
  obtain ⟨s, e1, -, hs⟩ := DataW.trod_string Tryz.underlying9 t1
  obtain ⟨q, e2, -, _⟩ := DataW.trod_int Tryz.underlying3 t2
  obtain ⟨p, ep, Sp⟩ := viewPw t3 (fun n hn => hw n (DataW.weights_mem_each (j := 3) (t := 25) rfl rfl n hn))
  simp only [List.cons.injEq, and_true] at e0 e1 e2 ep
  obtain ⟨rfl, rfl⟩ := ep
  subst e0 e1 e2
  exact ⟨k, s, q, p, rfl, Sp, hs, i64_of_wf' wf0⟩
end Go.Proofs.YtojpjakpcihacaaGreat
