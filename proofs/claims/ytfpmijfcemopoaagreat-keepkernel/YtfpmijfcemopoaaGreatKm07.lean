/- A case of the laws of keep that is an argument, opened: entries and pasts. -/
import Derived.Test.YtfpmijfcemopoaaGreatKb39
import Derived.Test.YtfpmijfcemopoaaGreatKb40
import Derived.Test.YtfpmijfcemopoaaGreatKm06
namespace Go.Proofs.YtfpmijfcemopoaaGreat
open Go.ChangeShapes Go.WideShapes Go.ChangeAt Go.RowKit Go.Joins
structure KsE (w : World) (m : Ks) (A B : List K.En) : Prop where
 a : K.ESrc w m.ao m.an m.ac A
 b : K.ESrc w m.bo m.bn m.bc B
 p : PSrc w m.p
 o : PSrc w m.o
theorem KsE.below {w w' : World} {m : Ks} {A B : List K.En} (h : KsE w m A B) (b : Below w.heap.size w w') : KsE w' m A B :=
 ⟨h.a.below b, h.b.below b, h.p.below b, h.o.below b⟩
theorem cellsKf : Tryz.prog.cellsOf 29 = 8 := by kernel_rfl
theorem cellsEf : Tryz.prog.cellsOf 23 = 1 := by kernel_rfl
theorem cellsRf : Tryz.prog.cellsOf 22 = 1 := by kernel_rfl
theorem eight {α : Type} {l : List α} (h : l.length = 8) : ∃ a b c d e f g i, l = [a, b, c, d, e, f, g, i] := by
 match l, h with
 | [a, b, c, d, e, f, g, i], _ => exact ⟨a, b, c, d, e, f, g, i, rfl⟩
theorem six_ {α : Type} {l : List α} (h : l.length = 6) : ∃ a b c d e f, l = [a, b, c, d, e, f] := by
 match l, h with
 | [a, b, c, d, e, f], _ => exact ⟨a, b, c, d, e, f, rfl⟩
theorem viewEs {H : Type} {enc : TypeId × Value → H} {W : World} {fuel : Nat} {v : Value} {x : DataW H × List MemPlace}
  (h : DataW.trod enc Tryz.prog W 0 (fun _ => true) true fuel 23 [v] = some x) (hw : ∀ n ∈ x.1.weights Tryz.prog 23, n ≤ reachBytes) : ∃ (ao : Option Addr) (n cap : Nat) (L : List K.En), v = .slice ao n cap ∧ K.ESrc W ao n cap L := by
 obtain ⟨ao, an, ac, rfl⟩ : ∃ ao an ac, v = .slice ao an ac := by
  rcases DataW.trod_slice Tryz.underlying23 h with h0 | ⟨a, len, cap, _, _, _, _, hcs, _⟩
  ·exact ⟨none, 0, 0, by simpa using h0.1⟩
  ·exact ⟨some a, len, cap, by simpa using hcs⟩
 obtain ⟨E, Se⟩ := K.view (d := x.1) (p := x.2) ⟨_, by simpa [Value.cells] using h⟩ hw
 exact ⟨ao, an, ac, E, rfl, Se⟩
theorem viewRv {H : Type} {enc : TypeId × Value → H} {W : World} {fuel : Nat} {v : Value} {x : DataW H × List MemPlace}
  (h : DataW.trod enc Tryz.prog W 0 (fun _ => true) true fuel 22 [v] = some x) : ∃ (ao : Option Addr) (n cap : Nat), v = .slice ao n cap := by
 rcases DataW.trod_slice Tryz.underlying22 h with h0 | ⟨a, len, cap, _, _, _, _, hcs, _⟩
 ·exact ⟨none, 0, 0, by simpa using h0.1⟩
 ·exact ⟨some a, len, cap, by simpa using hcs⟩
theorem open_case7f {H : Type} {enc : TypeId × Value → H} {W : World} {fuel : Nat} {cs : List Value} {x : DataW H × List MemPlace}
  (h : DataW.trod enc Tryz.prog W 0 (fun _ => true) true fuel 29 cs = some x) (hw : ∀ n ∈ x.1.weights Tryz.prog 29, n ≤ reachBytes) : ∃ (m : Ks) (A B : List K.En), cs = (KsC m).toList ∧ KsE W m A B := by
 obtain ⟨xs, m, _, hx, hcl, hxl, hf⟩ := DataW.trod_struct Tryz.underlying29 h
 obtain ⟨v0, v1, v2, v3, v4, v5, v6, v7, rfl⟩ := eight (hcl.trans cellsKf)
 obtain ⟨y0, y1, y2, y3, y4, y5, rfl⟩ := six_ hxl
 have t0 := hf 0 _ rfl
 have t1 := hf 1 _ rfl
 have t2 := hf 2 _ rfl
 have t3 := hf 3 _ rfl
 have t4 := hf 4 _ rfl
 have t5 := hf 5 _ rfl
 simp [cellsP, cellsEf, cellsRf] at t0 t1 t2 t3 t4 t5
 subst hx
 simp only [DataW.weights, Tryz.underlying29] at hw
 obtain ⟨ro, rn, rc, rfl⟩ := viewRv t0
 obtain ⟨qo, qn, qc, rfl⟩ := viewRv t1
 obtain ⟨ao, an, ac, A, rfl, SA⟩ := viewEs t2 (fun n hn => hw n (DataW.weights_mem_each (j := 2) (t := 23) rfl rfl n hn))
 obtain ⟨bo, bn, bc, B, rfl, SB⟩ := viewEs t3 (fun n hn => hw n (DataW.weights_mem_each (j := 3) (t := 23) rfl rfl n hn))
 obtain ⟨p, ep, Sp⟩ := viewPw t4 (fun n hn => hw n (DataW.weights_mem_each (j := 4) (t := 27) rfl rfl n hn))
 obtain ⟨o, eo, So⟩ := viewPw t5 (fun n hn => hw n (DataW.weights_mem_each (j := 5) (t := 27) rfl rfl n hn))
 simp only [List.cons.injEq, and_true] at ep eo
 obtain ⟨rfl, rfl⟩ := ep
 obtain ⟨rfl, rfl⟩ := eo
 exact ⟨⟨ro, rn, rc, qo, qn, qc, ao, an, ac, bo, bn, bc, p, o⟩, A, B, rfl, ⟨SA, SB, Sp, So⟩⟩
end Go.Proofs.YtfpmijfcemopoaaGreat
