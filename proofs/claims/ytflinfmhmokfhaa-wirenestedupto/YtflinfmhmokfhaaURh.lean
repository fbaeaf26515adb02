/- wire.Read: its deferred closure, and itself. -/
import Derived.Test.YtflinfmhmokfhaaURg
namespace Go.Proofs.Ytflinfmhmokfhaa
open Go.RowKit
variable {w w' w2 : World} {g ev rv : Nat} {ro so : Option Addr} {rn rc sn sc : Nat} {gave : Int} {over : Bool} {Z : List Int}

/-- the reader is over, its Read's error is laid; nothing else was written -/
structure Fin (w w' : World) (g ev : Nat) (gave err : Int) : Prop where
  r : Rdr w' g none 0 0 gave true
  e : w'.cell? ⟨ev, 0, none⟩ = some (.int .i64 err)
  os : w'.os = w.os
  tape : w'.tape = w.tape
  output : w'.output = w.output
  size : w.heap.size ≤ w'.heap.size
  block : ∀ k, k < w.heap.size → k ≠ g → k ≠ ev → w'.heap[k]? = w.heap[k]?
/-- a variable of one cell -/
def Var (w : World) (b : Nat) (v : Value) (t : TypeId) : Prop := w.heap[b]? = some (.cells #[v] t (0, 0))
theorem Var.c {b : Nat} {v : Value} {t : TypeId} (h : Var w b v t) : w.cell? ⟨b, 0, none⟩ = some v := by unfold Var at h; simp [World.cell?, h]
theorem Var.z {b : Nat} {v : Value} {t : TypeId} (h : Var w b v t) : w.frozen? ⟨b, 0, none⟩ = false := by unfold Var at h; simp [World.frozen?, h]
theorem Var.lt {b : Nat} {v : Value} {t : TypeId} (h : Var w b v t) : b < w.heap.size := (Array.getElem?_eq_some_iff.1 h).1
theorem Ended.fin {x err : Int} (h : Ended w w' g gave) (V : Var w ev (.int .i64 x) 26) (hn : ev ≠ g) : Fin w (w'.setCell ⟨ev, 0, none⟩ (.int .i64 err)) g ev gave err := by
  have V' : Var w' ev (.int .i64 x) 26 := (h.2.block ev V.lt hn).trans V
  refine ⟨(set_other w' ev 0 g _ (Ne.symm hn)).trans h.1, ?_, (setCell_os _ _ _).trans h.2.os, (setCell_tape _ _ _).trans h.2.tape, (setCell_output _ _ _).trans h.2.output, by rw [set_size]; exact h.2.size, fun k hk h1 h2 => (set_other w' ev 0 k _ h2).trans (h.2.block k hk h1)⟩
  have := set_heap w' ev _ _ _ 0 (.int .i64 err) V'
  simp [World.cell?, this]
theorem Rdr.drew (R : Rdr w g ro rn rc gave over) : Rdr w.drew g ro rn rc gave over := R
theorem Var.drew {b : Nat} {v : Value} {t : TypeId} (h : Var w b v t) : Var w.drew b v t := h
theorem Fin.drew {err : Int} (h : Fin w.drew w' g ev gave err) : Fin w w' g ev gave err := ⟨h.r, h.e, h.os, h.tape, h.output, h.size, h.block⟩
theorem closure_calm (R : Rdr w g ro rn rc 0 false) (x : Int) (V : Var w rv (ptr g) 25) (E : Var w ev (.int .i64 x) 26) (hn : ev ≠ g) :
    CallsD Try.prog 23 #[ptr rv, ptr ev] .returning w fun e u' w' => e = .returned (.tuple #[]) ∧ u' = .returning ∧ Fin w w' g ev 0 (endA rn) := by
  refine callsD_of_wpS Try.func23 rfl fun c₀ cs hu => ?_
  have x1 := V.drew.c
  refine wpS_region_two (by kernel_rfl) (by kernel_rfl) (by kernel_rfl) (by kernel_rfl) (by kernel_rfl) (by kernel_rfl) (by kernel_rfl) ?_ ?_
  all_goals
    simp [wpOpsS, go_sem, recoverD, hu, Try.ntmps23, x1]
    refine (end_calm R.drew).mono ?_
    rintro e w3 ⟨rfl, hE⟩
    have V' : Var w3 ev (.int .i64 x) 26 := (hE.2.block ev E.lt hn).trans E
    have x2 := V'.c
    have x3 := V'.z
    have hF := (hE.fin (err := endA rn) E.drew hn).drew
    simp [go_sem, x2, x3]
    exact ⟨rfl, .returning, by cases c₀; simp_all, _, results_none rfl _ _ _, rfl, rfl, hF⟩
/-- the panic is caught -/
abbrev caught (g : Nat) : List PanicEntry := [{ v := upV g, recovered := true }]
theorem closure_up {err : Int} (R : Rdr w g none 0 0 err false) (he : err ≠ 0) (x : Int) (V : Var w rv (ptr g) 25) (E : Var w ev (.int .i64 x) 26) (hn : ev ≠ g) :
    CallsD Try.prog 23 #[ptr rv, ptr ev] (.panicking (ups g)) w fun e u' w' => e = .returned (.tuple #[]) ∧ u' = .panicking (caught g) ∧ Fin w w' g ev err err := by
  refine callsD_of_wpS Try.func23 rfl fun c₀ cs hu => ?_
  have x1 := V.drew.c
  refine wpS_region_two (by kernel_rfl) (by kernel_rfl) (by kernel_rfl) (by kernel_rfl) (by kernel_rfl) (by kernel_rfl) (by kernel_rfl) ?_ ?_
  all_goals
    simp [wpOpsS, go_sem, recoverD, hu, Try.ntmps23, x1]
    refine (end_up R.drew he).mono ?_
    rintro e w3 ⟨rfl, hE⟩
    have V' : Var w3 ev (.int .i64 x) 26 := (hE.2.block ev E.lt hn).trans E
    have x2 := V'.c
    have x3 := V'.z
    have hF := (hE.fin (err := err) E.drew hn).drew
    simp [go_sem, x2, x3]
    exact ⟨rfl, .panicking (caught g), by cases c₀; simp_all, _, results_none rfl _ _ _, rfl, rfl, hF⟩
end Go.Proofs.Ytflinfmhmokfhaa
