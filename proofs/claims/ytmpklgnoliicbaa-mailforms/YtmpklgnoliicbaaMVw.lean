/- A mail as an argument, opened once. -/
import Derived.Test.YtmpklgnoliicbaaMKm
import Derived.ProofKit
import Derived.OpenShut
import Derived.Lib.SmallJoins
import Derived.HandedShaped
import Derived.SizedLaws
import Derived.ChangeMaps5
namespace Go.Proofs.Ytmpklgnoliicbaa
open Go.ChangeShapes Go.WideShapes Go.ChangeAt Go.RowKit Go.Joins

theorem own : ownKnob Try.prog.godebug = none := by kernel_rfl
theorem laidOut : laidOutB Try.prog = true := by kernel_rfl
theorem cellsI : Try.prog.cellsOf 3 = 1 := by kernel_rfl
theorem cellsP : Try.prog.cellsOf 43 = 2 := by kernel_rfl
theorem cellsQ : Try.prog.cellsOf 22 = 1 := by kernel_rfl
theorem cellsB : Try.prog.cellsOf 32 = 1 := by kernel_rfl
theorem cellsM : Try.prog.cellsOf 24 = 6 := by kernel_rfl
theorem bytesP : Try.prog.bytesOf 43 = 32 := by kernel_rfl
theorem list2 {α : Type} {l : List α} (h : l.length = 2) : ∃ a b, l = [a, b] := by
  match l, h with
  | [a, b], _ => exact ⟨a, b, rfl⟩
theorem list6 {α : Type} {l : List α} (h : l.length = 6) : ∃ a b c d e f, l = [a, b, c, d, e, f] := by
  match l, h with
  | [a, b, c, d, e, f], _ => exact ⟨a, b, c, d, e, f, rfl⟩
theorem i64_of_wf {n : Int} (h : (Lit.int .i64 n).wf = true) : -9223372036854775808 ≤ n ∧ n ≤ 9223372036854775807 := by
  have e1 : IntKind.i64.min = -9223372036854775808 := by decide
  have e2 : IntKind.i64.max = 9223372036854775807 := by decide
  simp only [Lit.wf, e1, e2, Bool.and_eq_true, decide_eq_true_eq] at h
  exact h
theorem open_part {H : Type} {enc : TypeId × Value → H} {w : World} {base : Nat} {spare : Nat → Bool} {held : Bool} {fuel : Nat} {cs : List Value} {x : DataW H × List MemPlace}
    (h : DataW.trod enc Try.prog w base spare held fuel 43 cs = some x) : ∃ e : Pt, cs = (PC e).toList := by
  obtain ⟨xs, m, _, hx, hcl, hxl, hf⟩ := DataW.trod_struct Try.underlying43 h
  obtain ⟨v0, v1, rfl⟩ := list2 (hcl.trans cellsP)
  obtain ⟨y0, y1, rfl⟩ := list2 hxl
  have t0 := hf 0 _ rfl
  have t1 := hf 1 _ rfl
  simp [cellsI, cellsB] at t0 t1
  obtain ⟨a, e0, -, _⟩ := DataW.trod_int Try.underlying3 t0
  simp only [List.cons.injEq, and_true] at e0
  subst e0
  rcases DataW.trod_slice Try.underlying32 t1 with h0 | ⟨ad, len, cap, elems, rest, n, _, hcs, hx1, hr⟩
  · have e : v1 = .slice none 0 0 := by simpa using h0.1
    subst e
    exact ⟨⟨a, none, 0, 0⟩, rfl⟩
  · have e : v1 = .slice (some ad) len cap := by simpa using hcs
    subst e
    exact ⟨⟨a, some ad, len, cap⟩, rfl⟩
theorem viewP {H : Type} {enc : TypeId × Value → H} {W : World} {fuel : Nat} {v : Value} {x : DataW H × List MemPlace}
    (h : DataW.trod enc Try.prog W 0 (fun _ => true) true fuel 22 [v] = some x) (hw : ∀ n ∈ x.1.weights Try.prog 22, n ≤ reachBytes) : ∃ (ao : Option Addr) (n cap : Nat) (L : List Pt), v = .slice ao n cap ∧ PSrc W ao n cap L := by
  have h2 := reachBytes_lt
  rcases DataW.trod_slice Try.underlying22 h with h0 | ⟨a, len, cap, elems, rest, n, _, hcs, hx, hb, hl, hm, hlen, hel, hsp, hns⟩
  · have e : v = .slice none 0 0 := by simpa using h0.1
    exact ⟨none, 0, 0, [], e, PSrc.empty _⟩
  · subst hx
    have e : v = .slice (some a) len cap := by simpa using hcs
    have h1 := hw (((elems.map (·.1)).length + (rest.map (·.1)).length) * Try.prog.bytesOf 43) (by simp [DataW.weights, Try.underlying22])
    rw [bytesP] at h1
    simp at h1
    have key : ∀ i, i < len → ∃ e : Pt, PtAt W (a.add (i * 2)) e := by
      intro i hi
      have he := hel i hi
      obtain ⟨y, hy⟩ : ∃ y, elems[i]? = some y := ⟨_, List.getElem?_eq_getElem (by omega)⟩
      rw [hy, cellsP, Option.bind_eq_some_iff] at he
      obtain ⟨cs', hcs, hy'⟩ := he
      obtain ⟨_, -, hce⟩ := World.cells?_some hcs
      obtain ⟨e, rfl⟩ := open_part hy'
      have g0 := hce 0 (by omega)
      rw [add_zero] at g0
      exact ⟨e, ⟨g0, hce 1 (by omega)⟩⟩
    refine ⟨some a, len, cap, (List.range len).map fun i => if h : i < len then Classical.choose (key i h) else pt0, e, ⟨by simp, fun h => (by cases h), fun ad h t ht => ?_, by omega⟩⟩
    obtain rfl := Option.some.inj h
    have : ((List.range len).map fun i => if h : i < len then Classical.choose (key i h) else pt0).getD t pt0 = Classical.choose (key t ht) := by simp [List.getD, ht]
    rw [this]
    exact Classical.choose_spec (key t ht)
theorem open_mail {H : Type} {enc : TypeId × Value → H} {W : World} {fuel : Nat} {cs : List Value} {x : DataW H × List MemPlace}
    (h : DataW.trod enc Try.prog W 0 (fun _ => true) true fuel 24 cs = some x) (hw : ∀ n ∈ x.1.weights Try.prog 24, n ≤ reachBytes) :
    ∃ (a b c d e : Int) (po : Option Addr) (pn pc : Nat) (X : List Pt), cs = (MC ⟨a, b, c, d, e, po, pn, pc⟩).toList ∧ PSrc W po pn pc X ∧ e ≤ 9223372036854775807 := by
  obtain ⟨xs, m, _, hx, hcl, hxl, hf⟩ := DataW.trod_struct Try.underlying24 h
  obtain ⟨v0, v1, v2, v3, v4, v5, rfl⟩ := list6 (hcl.trans cellsM)
  obtain ⟨y0, y1, y2, y3, y4, y5, rfl⟩ := list6 hxl
  have t0 := hf 0 _ rfl
  have t1 := hf 1 _ rfl
  have t2 := hf 2 _ rfl
  have t3 := hf 3 _ rfl
  have t4 := hf 4 _ rfl
  have t5 := hf 5 _ rfl
  simp [cellsI, cellsQ] at t0 t1 t2 t3 t4 t5
  subst hx
  simp only [DataW.weights, Try.underlying24] at hw
  obtain ⟨a, e0, -, _⟩ := DataW.trod_int Try.underlying3 t0
  obtain ⟨b, e1, -, _⟩ := DataW.trod_int Try.underlying3 t1
  obtain ⟨c, e2, -, _⟩ := DataW.trod_int Try.underlying3 t2
  obtain ⟨d, e3, -, _⟩ := DataW.trod_int Try.underlying3 t3
  obtain ⟨e, e4, -, we⟩ := DataW.trod_int Try.underlying3 t4
  obtain ⟨so, n, sc, L, rfl, S5⟩ := viewP t5 (fun n hn => hw n (DataW.weights_mem_each (j := 5) (t := 22) rfl rfl n hn))
  simp only [List.cons.injEq, and_true] at e0 e1 e2 e3 e4
  subst e0 e1 e2 e3 e4
  exact ⟨a, b, c, d, e, so, n, sc, L, rfl, S5, (i64_of_wf we).2⟩
end Go.Proofs.Ytmpklgnoliicbaa
