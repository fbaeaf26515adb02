/- wire's writer. -/
import Derived.Test.YtebedjhfdncabaaYNu
namespace Go.Proofs.Ytebedjhfdncabaa
open Go.RowKit
variable {w w' w2 : World} {g : Nat}

abbrev ptr (g : Nat) : Value := .pointer (some ⟨g, 0, none⟩)
/-- the writer at g: its row, and whether it is spoilt -/
structure Wr (w : World) (g : Nat) (ao : Option Addr) (n cap : Nat) (Z : List Int) (sp : Bool) : Prop where
  box : w.heap[g]? = some (.cells #[.slice ao n cap, .bool sp] 46 (0, 0))
  row : BR w ao n cap Z
  ne : ∀ k, blk ao = some k → k ≠ g
  nil : sp = true → Z = []
theorem cell_of_box {cs : Array Value} {t : TypeId} (h : w.heap[g]? = some (.cells cs t (0, 0))) (k : Nat) : w.cell? ⟨g, k, none⟩ = cs[k]? := by simp [World.cell?, h]
theorem set0 {u v b : Value} {t : TypeId} (h : w.heap[g]? = some (.cells #[u, b] t (0, 0))) : (w.setCell ⟨g, 0, none⟩ v).heap[g]? = some (.cells #[v, b] t (0, 0)) := by
  simp [World.setCell, h, Array.getElem?_modify]
theorem set1 {u v b : Value} {t : TypeId} (h : w.heap[g]? = some (.cells #[u, b] t (0, 0))) : (w.setCell ⟨g, 1, none⟩ v).heap[g]? = some (.cells #[u, v] t (0, 0)) := by
  simp [World.setCell, h, Array.getElem?_modify]
theorem set_other (w : World) (g j k : Nat) (v : Value) (h : k ≠ g) : (w.setCell ⟨g, j, none⟩ v).heap[k]? = w.heap[k]? := Go.Deep.blk_setCell_other w ⟨g, j, none⟩ _ k h
theorem set_size (w : World) (p : Addr) (v : Value) : (w.setCell p v).heap.size = w.heap.size := by simp [World.setCell]
theorem frozen_of_box {cs : Array Value} {t : TypeId} (h : w.heap[g]? = some (.cells cs t (0, 0))) (k : Nat) : w.frozen? ⟨g, k, none⟩ = false := by simp [World.frozen?, h]
/-- a call on the writer at g: g and its row's block alone may have been written -/
structure Kp (w w' : World) (g : Nat) (ao bo : Option Addr) : Prop where
  os : w'.os = w.os
  tape : w'.tape = w.tape
  output : w'.output = w.output
  size : w.heap.size ≤ w'.heap.size
  block : ∀ k, k < w.heap.size → k ≠ g → some k ≠ blk ao → w'.heap[k]? = w.heap[k]?
  lies : blk bo = none ∨ blk bo = blk ao ∨ ∃ k, blk bo = some k ∧ w.heap.size ≤ k
theorem Ap.block' {ao bo : Option Addr} (h : Ap w w' ao bo) {n cap : Nat} {Z : List Int} {sp : Bool} (W : Wr w g ao n cap Z sp) : w'.heap[g]? = w.heap[g]? :=
  h.grown.block g (Array.getElem?_eq_some_iff.1 W.box).1 (fun e => W.ne g e.symm rfl)
theorem Wr.lt {ao : Option Addr} {n cap : Nat} {Z : List Int} {sp : Bool} (W : Wr w g ao n cap Z sp) : g < w.heap.size := (Array.getElem?_eq_some_iff.1 W.box).1
/-- the row has grown and is held -/
theorem Wr.held {ao bo : Option Addr} {n cap m cc : Nat} {Z Y : List Int} (W : Wr w g ao n cap Z false) (h : Ap w w' ao bo) (B : BR w' bo m cc Y) :
    Wr (w'.setCell ⟨g, 0, none⟩ (.slice bo m cc)) g bo m cc Y false ∧ Kp w (w'.setCell ⟨g, 0, none⟩ (.slice bo m cc)) g ao bo := by
  have hg := W.lt
  have hne : ∀ k, blk bo = some k → k ≠ g := fun k hk => by
    rcases h.lies with e | ⟨j, e, hj⟩
    · exact W.ne k (e ▸ hk)
    · rw [e] at hk
      have := Option.some.inj hk
      omega
  refine ⟨⟨set0 ((h.block' W).trans W.box), B.keep fun k hk => set_other w' g 0 k _ (hne k hk), hne, fun e => by cases e⟩, ⟨h.grown.os, h.grown.tape, h.grown.output, by rw [set_size]; exact h.grown.size, fun k hk h1 h2 => (set_other w' g 0 k _ h1).trans (h.grown.block k hk h2), Or.inr h.lies⟩⟩
/-- the row has grown and is not held, for the writer is spoilt -/
theorem Wr.lost {ao bo : Option Addr} {n cap : Nat} {Z : List Int} (W : Wr w g ao n cap Z true) (h : Ap w w' ao bo) (hao : ao = none) : Wr w' g ao n cap Z true ∧ Kp w w' g ao ao := by
  subst hao
  refine ⟨⟨(h.block' W).trans W.box, W.row.keep (fun k hk => by cases hk), W.ne, W.nil⟩, ⟨h.grown.os, h.grown.tape, h.grown.output, h.grown.size, fun k hk h1 h2 => h.grown.block k hk h2, Or.inr (Or.inl rfl)⟩⟩
theorem hold_ok (w : World) (g : Nat) (u : Value) (bo : Option Addr) (m cc : Nat) (h : w.heap[g]? = some (.cells #[u, .bool false] 46 (0, 0))) :
    Calls Try.prog 10 #[ptr g, .slice bo m cc] w fun r w' => r = .returned (.tuple #[]) ∧ w' = w.setCell ⟨g, 0, none⟩ (.slice bo m cc) := by
  have x1 := cell_of_box h 1
  have x0 := cell_of_box h 0
  have f0 := frozen_of_box h 0
  simp at x0 x1
  go_enter Try.func10, Try.ntmps10
  go_wp2_with fail
  go_end0
  exact ⟨rfl, rfl⟩
theorem hold_sp (w : World) (g : Nat) (u : Value) (bo : Option Addr) (m cc : Nat) (h : w.heap[g]? = some (.cells #[u, .bool true] 46 (0, 0))) :
    Calls Try.prog 10 #[ptr g, .slice bo m cc] w fun r w' => r = .returned (.tuple #[]) ∧ w' = w := by
  have x1 := cell_of_box h 1
  simp at x1
  go_enter Try.func10, Try.ntmps10
  go_wp2_with fail
  go_end0
  exact ⟨rfl, rfl⟩
/-- what a put of these bytes leaves -/
def Puts (w w' : World) (g : Nat) (ao : Option Addr) (Z Y : List Int) (sp : Bool) : Prop :=
  ∃ bo m cc, Wr w' g bo m cc (if sp then [] else Z ++ Y) sp ∧ (sp = true → bo = none) ∧ Kp w w' g ao bo
theorem hold_any {ao bo : Option Addr} {n cap m cc : Nat} {Z Y : List Int} {sp : Bool} (W : Wr w g ao n cap Z sp) (hao : sp = true → ao = none) (h : Ap w w' ao bo) (B : BR w' bo m cc (Z ++ Y)) :
    Calls Try.prog 10 #[ptr g, .slice bo m cc] w' fun r w2 => r = .returned (.tuple #[]) ∧ Puts w w2 g ao Z Y sp := by
  cases sp with
  | true =>
    refine (hold_sp w' g _ bo m cc ((h.block' W).trans W.box)).mono ?_
    rintro r w2 ⟨rfl, rfl⟩
    have k := W.lost h (hao rfl)
    have e : Z = [] := W.nil rfl
    subst e
    exact ⟨rfl, ao, n, cap, k.1, hao, k.2⟩
  | false =>
    refine (hold_ok w' g _ bo m cc ((h.block' W).trans W.box)).mono ?_
    rintro r w2 ⟨rfl, rfl⟩
    have k := W.held h B
    exact ⟨rfl, bo, m, cc, k.1, (fun e => by cases e), k.2⟩
theorem Wr.c0 {ao : Option Addr} {n cap : Nat} {Z : List Int} {sp : Bool} (W : Wr w g ao n cap Z sp) : w.cell? ⟨g, 0, none⟩ = some (.slice ao n cap) := by rw [cell_of_box W.box]; rfl
theorem Wr.c1 {ao : Option Addr} {n cap : Nat} {Z : List Int} {sp : Bool} (W : Wr w g ao n cap Z sp) : w.cell? ⟨g, 1, none⟩ = some (.bool sp) := by rw [cell_of_box W.box]; rfl
/-- Num, of a number that is not below 0 -/
theorem wnum_any (ao : Option Addr) (n cap : Nat) (Z : List Int) (sp : Bool) (x : Nat) (w : World) (W : Wr w g ao n cap Z sp) (hao : sp = true → ao = none) (hx : x ≤ 9223372036854775807) (hn : n ≤ 140737488355000) :
    Calls Try.prog 5 #[ptr g, .int .i64 (x : Int)] w fun r w' => r = .returned (.tuple #[]) ∧ Puts w w' g ao Z (numB x) sp := by
  have HW := hide W
  have x0 := W.c0
  have HA := hide hao
  have HN := hide (And.intro hx hn)
  have hlt : ¬ ((x : Int) < 0) := by omega
  clear W hao hx hn
  go_enter Try.func5, Try.ntmps5
  go_wp2_with fail
  refine (appendNum_any ao n cap Z x w HW.out.row HN.out.1 HN.out.2).mono ?_
  rintro r w2 ⟨bo, cc, rfl, B2, A2⟩
  have HB := hide B2
  have HP := hide A2
  clear B2 A2 x0
  go_wp2_with fail
  refine (hold_any HW.out HA.out HP.out HB.out).mono ?_
  rintro r w3 ⟨rfl, P3⟩
  have HF := hide P3
  clear P3
  go_wp2_with fail
  go_end0
  exact ⟨rfl, HF.out⟩
end Go.Proofs.Ytebedjhfdncabaa
