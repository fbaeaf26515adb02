/- A script ([]Op) that came in, opened: what its cells hold. -/
import Derived.Test.YtnlklhjmhienkaaGreatDoorRows
import Derived.Lib.SmallJoins
import Derived.ProofKit
import Derived.OpenShut
namespace Go.Proofs.YtnlklhjmhienkaaGreatDoor
open Go.ChangeShapes Go.WideShapes Go.RowKit Go.Deep Go.WideElems Go.Maps Go.Joins

/-- one step of a script -/
structure Step where
  kind : Int
  a : ByteArray
  b : ByteArray
  n : Int
  lp : Option Addr
  ll : Nat
  lc : Nat
/-- step i lies at p + 5 i -/
structure StepAt (w : World) (p : Addr) (i : Nat) (o : Step) : Prop where
  c0 : w.cell? (p.add (i * 5)) = some (.int .i64 o.kind)
  c1 : w.cell? (p.add (i * 5 + 1)) = some (.string o.a)
  c2 : w.cell? (p.add (i * 5 + 2)) = some (.string o.b)
  c3 : w.cell? (p.add (i * 5 + 3)) = some (.int .i64 o.n)
  c4 : w.cell? (p.add (i * 5 + 4)) = some (.slice o.lp o.ll o.lc)
  ha : o.a.size ≤ maxLen
  hb : o.b.size ≤ maxLen
  hk : (Lit.int .i64 o.kind).wf = true
  hn : (Lit.int .i64 o.n).wf = true
  hL : ∃ Z : List Int, Z.length = o.ll ∧ (o.lp = none → o.ll = 0) ∧ ∀ q, o.lp = some q → ∀ t, t < o.ll → w.cell? (q.add t) = some (.int .i64 (Z.getD t 0))
theorem cells35 : Tryz.prog.cellsOf 27 = 5 := by kernel_rfl
theorem cells3 : Tryz.prog.cellsOf 3 = 1 := by kernel_rfl
theorem cells9 : Tryz.prog.cellsOf 9 = 1 := by kernel_rfl
theorem cells28 : Tryz.prog.cellsOf 25 = 1 := by kernel_rfl
theorem list5 {α : Type} {l : List α} (h : l.length = 5) : ∃ a b c d e, l = [a, b, c, d, e] := by
  match l, h with
  | [a, b, c, d, e], _ => exact ⟨a, b, c, d, e, rfl⟩
theorem add_add (p : Addr) (i j : Nat) : (p.add i).add j = p.add (i + j) := by
  by_cases hi : i = 0
  · subst hi; simp [Addr.add]
  · by_cases hj : j = 0
    · subst hj; simp [Addr.add]
    · simp [Addr.add, hi, hj, Nat.add_assoc]
section
variable {H : Type} {enc : TypeId × Value → H} {w : World} {base : Nat} {spare : Nat → Bool} {held : Bool}
theorem bulk_mem {d : DataW H} {l : List (DataW H)} (h : d ∈ l) : Rows.uptoBulk d ≤ Rows.uptoBulkAll l := by
  induction l with
  | nil => cases h
  | cons x r ih =>
    simp only [Rows.uptoBulkAll]
    rcases List.mem_cons.1 h with rfl | h
    · omega
    · have := ih h; omega
theorem bulk_length (l : List (DataW H)) : l.length ≤ Rows.uptoBulkAll l := by
  induction l with
  | nil => simp [Rows.uptoBulkAll]
  | cons x r ih =>
    have h1 : 1 ≤ Rows.uptoBulk x := by
      cases x with
      | lit l => cases l <;> simp [Rows.uptoBulk]
      | nil => simp [Rows.uptoBulk]
      | ptr d => simp [Rows.uptoBulk]
      | slice elems spare => simp [Rows.uptoBulk]
      | agg parts => simp [Rows.uptoBulk]
      | iface t d => simp [Rows.uptoBulk]
      | map entries => simp [Rows.uptoBulk]
      | held h => simp [Rows.uptoBulk]
    simp only [Rows.uptoBulkAll, List.length_cons]; omega
theorem open_list {fuel : Nat} {v : Value} {lp : Option Addr} {ll lc : Nat} {x : DataW H × List MemPlace} (e : [v] = [Value.slice lp ll lc]) (h : DataW.trod enc Tryz.prog w base spare held fuel 25 [v] = some x) :
    ∃ Z : List Int, Z.length = ll ∧ (lp = none → ll = 0) ∧ (∀ q, lp = some q → ∀ t, t < ll → w.cell? (q.add t) = some (.int .i64 (Z.getD t 0))) ∧ ll ≤ Rows.uptoBulk x.1 := by
  rw [e] at h
  rcases open_ints Tryz.underlying25 Tryz.underlying3 cells3 h with ⟨hcs, hx⟩ | ⟨a, len', cap', zs, hcs, _, hl, hm, hz, hx, hcell, hwz⟩
  · simp only [List.cons.injEq, Value.slice.injEq, and_true] at hcs
    obtain ⟨rfl, rfl, rfl⟩ := hcs
    exact ⟨[], rfl, fun _ => rfl, fun q h => (by cases h), Nat.zero_le _⟩
  · simp only [List.cons.injEq, Value.slice.injEq, and_true] at hcs
    obtain ⟨rfl, rfl, rfl⟩ := hcs
    subst hx
    have hzl : ll ≤ zs.length := by rw [hz]; split <;> omega
    refine ⟨zs.take ll, by simp; omega, fun h => (by cases h), fun ad h t ht => ?_, ?_⟩
    · obtain rfl := Option.some.inj h
      rw [hcell t (by omega)]
      simp [List.getD, ht]
    · have := bulk_length (lits (H := H) .i64 (zs.take ll))
      simp only [lits, List.length_map, List.length_take] at this
      simp only [Rows.uptoBulk, lits]
      omega
theorem open_script {fuel : Nat} {cs : List Value} {x : DataW H × List MemPlace} (h : DataW.trod enc Tryz.prog w base spare held fuel 22 cs = some x) :
    (cs = [.slice none 0 0]) ∨ ∃ (p : Addr) (len cap : Nat), cs = [.slice (some p) len cap] ∧ len ≤ cap ∧ cap ≤ maxLen ∧ ∀ i, i < len → ∃ o, StepAt w p i o ∧ o.ll ≤ Rows.uptoBulk x.1 := by
  rcases DataW.trod_slice Tryz.underlying22 h with h0 | ⟨a, len, cap, elems, rest, n, _, rfl, rfl, hb, hl, hm, hlen, hel, hsp, hns⟩
  · exact Or.inl h0.1
  refine Or.inr ⟨a, len, cap, rfl, hl, hm, fun i hi => ?_⟩
  have he := hel i hi
  obtain ⟨y, hy⟩ : ∃ y, elems[i]? = some y := ⟨_, List.getElem?_eq_getElem (by omega)⟩
  rw [hy, cells35, Option.bind_eq_some_iff] at he
  obtain ⟨cs', hcs, hy'⟩ := he
  obtain ⟨xs, m, _, hx, hcl, hxl, hf⟩ := DataW.trod_struct Tryz.underlying27 hy'
  obtain ⟨_, -, hce⟩ := World.cells?_some hcs
  obtain ⟨v0, v1, v2, v3, v4, rfl⟩ := list5 (hcl.trans cells35)
  obtain ⟨y0, y1, y2, y3, y4, rfl⟩ := list5 hxl
  have t0 := hf 0 _ rfl
  have t1 := hf 1 _ rfl
  have t2 := hf 2 _ rfl
  have t3 := hf 3 _ rfl
  have t4 := hf 4 _ rfl
  simp [cells3, cells9, cells28] at t0 t1 t2 t3 t4
  obtain ⟨k, e0, -, w0⟩ := DataW.trod_int Tryz.underlying3 t0
  obtain ⟨A, e1, -, w1⟩ := DataW.trod_string Tryz.underlying9 t1
  obtain ⟨B, e2, -, w2⟩ := DataW.trod_string Tryz.underlying9 t2
  obtain ⟨N, e3, -, w3⟩ := DataW.trod_int Tryz.underlying3 t3
  obtain ⟨lp, ll, lc, e4⟩ := slice_form Tryz.underlying25 t4
  obtain ⟨Z, hZl, hZn, hZc, hZb⟩ := open_list e4 t4
  simp only [List.cons.injEq, and_true] at e0 e1 e2 e3 e4
  subst e0 e1 e2 e3 e4
  have g0 := hce 0 (by omega)
  have g1 := hce 1 (by omega)
  have g2 := hce 2 (by omega)
  have g3 := hce 3 (by omega)
  have g4 := hce 4 (by omega)
  rw [add_add] at g0 g1 g2 g3 g4
  refine ⟨⟨k, A, B, N, lp, ll, lc⟩, ⟨g0, g1, g2, g3, g4, w1, w2, w0, w3, Z, hZl, hZn, hZc⟩, ?_⟩
  have hm1 : y ∈ elems := List.mem_of_getElem? hy
  have hb1 := bulk_mem (List.mem_map_of_mem (f := (·.1)) hm1)
  have hb2 : Rows.uptoBulk y4.1 ≤ Rows.uptoBulk y.1 := by rw [hx]; simp [Rows.uptoBulk, Rows.uptoBulkAll]; omega
  simp only [Rows.uptoBulk]
  show ll ≤ _
  omega
end
end Go.Proofs.YtnlklhjmhienkaaGreatDoor
