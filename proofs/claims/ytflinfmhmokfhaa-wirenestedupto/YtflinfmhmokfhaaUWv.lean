/- wire's writer, beside the reader. -/
import Derived.Test.YtflinfmhmokfhaaURj
import Derived.Test.YtflinfmhmokfhaaYNv
namespace Go.Proofs.Ytflinfmhmokfhaa
open Go.RowKit
variable {w w' w2 : World} {g : Nat}

/-- the writer at g: its row, and whether it is spoilt -/
structure Wr (w : World) (g : Nat) (ao : Option Addr) (n cap : Nat) (Z : List Int) (sp : Bool) : Prop where
  box : w.heap[g]? = some (.cells #[.slice ao n cap, .bool sp] 69 (0, 0))
  row : BR w ao n cap Z
  ne : ∀ k, blk ao = some k → k ≠ g
  nil : sp = true → Z = []
theorem cell_of_box {cs : Array Value} {t : TypeId} (h : w.heap[g]? = some (.cells cs t (0, 0))) (k : Nat) : w.cell? ⟨g, k, none⟩ = cs[k]? := by simp [World.cell?, h]
theorem set0 {u v b : Value} {t : TypeId} (h : w.heap[g]? = some (.cells #[u, b] t (0, 0))) : (w.setCell ⟨g, 0, none⟩ v).heap[g]? = some (.cells #[v, b] t (0, 0)) := by
  simp [World.setCell, h, Array.getElem?_modify]
theorem set1 {u v b : Value} {t : TypeId} (h : w.heap[g]? = some (.cells #[u, b] t (0, 0))) : (w.setCell ⟨g, 1, none⟩ v).heap[g]? = some (.cells #[u, v] t (0, 0)) := by
  simp [World.setCell, h, Array.getElem?_modify]
theorem set_otherW (w : World) (g j k : Nat) (v : Value) (h : k ≠ g) : (w.setCell ⟨g, j, none⟩ v).heap[k]? = w.heap[k]? := Go.Deep.blk_setCell_other w ⟨g, j, none⟩ _ k h
theorem set_sizeW (w : World) (p : Addr) (v : Value) : (w.setCell p v).heap.size = w.heap.size := by simp [World.setCell]
theorem frozen_of_box {cs : Array Value} {t : TypeId} (h : w.heap[g]? = some (.cells cs t (0, 0))) (k : Nat) : w.frozen? ⟨g, k, none⟩ = false := by simp [World.frozen?, h]
/-- a call on the writer at g: g and its row's block alone may have been written -/
structure Kp (w w' : World) (g : Nat) (ao bo : Option Addr) : Prop where
  os : w'.os = w.os
  tape : w'.tape = w.tape
  output : w'.output = w.output
  size : w.heap.size ≤ w'.heap.size
  block : ∀ k, k < w.heap.size → k ≠ g → some k ≠ blk ao → w'.heap[k]? = w.heap[k]?
  lies : blk bo = none ∨ blk bo = blk ao ∨ ∃ k, blk bo = some k ∧ w.heap.size ≤ k
theorem Ap.block' {ao bo : Option Addr} (h : Ap w w' ao bo) {n cap : Nat} {Z : List Int} {sp : Bool} (W : Wr w g ao n cap Z sp) : w'.heap[g]? = w.heap[g]? :=
  h.grown.block g (Array.getElem?_eq_some_iff.1 W.box).1 (fun e => W.ne g e.symm rfl)
theorem Wr.lt {ao : Option Addr} {n cap : Nat} {Z : List Int} {sp : Bool} (W : Wr w g ao n cap Z sp) : g < w.heap.size := (Array.getElem?_eq_some_iff.1 W.box).1
/-- the row has grown and is held -/
theorem Wr.held {ao bo : Option Addr} {n cap m cc : Nat} {Z Y : List Int} (W : Wr w g ao n cap Z false) (h : Ap w w' ao bo) (B : BR w' bo m cc Y) :
    Wr (w'.setCell ⟨g, 0, none⟩ (.slice bo m cc)) g bo m cc Y false ∧ Kp w (w'.setCell ⟨g, 0, none⟩ (.slice bo m cc)) g ao bo := by
  have hg := W.lt
  have hne : ∀ k, blk bo = some k → k ≠ g := fun k hk => by
    rcases h.lies with e | ⟨j, e, hj⟩
    · exact W.ne k (e ▸ hk)
    · rw [e] at hk
      have := Option.some.inj hk
      omega
  refine ⟨⟨set0 ((h.block' W).trans W.box), B.keep fun k hk => set_otherW w' g 0 k _ (hne k hk), hne, fun e => by cases e⟩, ⟨h.grown.os, h.grown.tape, h.grown.output, by rw [set_sizeW]; exact h.grown.size, fun k hk h1 h2 => (set_otherW w' g 0 k _ h1).trans (h.grown.block k hk h2), Or.inr h.lies⟩⟩
/-- the row has grown and is not held, for the writer is spoilt -/
theorem Wr.lost {ao bo : Option Addr} {n cap : Nat} {Z : List Int} (W : Wr w g ao n cap Z true) (h : Ap w w' ao bo) (hao : ao = none) : Wr w' g ao n cap Z true ∧ Kp w w' g ao ao := by
  subst hao
  refine ⟨⟨(h.block' W).trans W.box, W.row.keep (fun k hk => by cases hk), W.ne, W.nil⟩, ⟨h.grown.os, h.grown.tape, h.grown.output, h.grown.size, fun k hk h1 h2 => h.grown.block k hk h2, Or.inr (Or.inl rfl)⟩⟩
theorem hold_ok (w : World) (g : Nat) (u : Value) (bo : Option Addr) (m cc : Nat) (h : w.heap[g]? = some (.cells #[u, .bool false] 69 (0, 0))) :
    Calls Try.prog 45 #[ptr g, .slice bo m cc] w fun r w' => r = .returned (.tuple #[]) ∧ w' = w.setCell ⟨g, 0, none⟩ (.slice bo m cc) := by
  have x1 := cell_of_box h 1
  have x0 := cell_of_box h 0
  have f0 := frozen_of_box h 0
  simp at x0 x1
  go_enter Try.func45, Try.ntmps45
  go_wp2_with fail
  go_end0
  exact ⟨rfl, rfl⟩
theorem hold_sp (w : World) (g : Nat) (u : Value) (bo : Option Addr) (m cc : Nat) (h : w.heap[g]? = some (.cells #[u, .bool true] 69 (0, 0))) :
    Calls Try.prog 45 #[ptr g, .slice bo m cc] w fun r w' => r = .returned (.tuple #[]) ∧ w' = w := by
  have x1 := cell_of_box h 1
  simp at x1
  go_enter Try.func45, Try.ntmps45
  go_wp2_with fail
  go_end0
  exact ⟨rfl, rfl⟩
/-- what a put of these bytes leaves -/
def Puts (w w' : World) (g : Nat) (ao : Option Addr) (Z Y : List Int) (sp : Bool) : Prop :=
  ∃ bo m cc, Wr w' g bo m cc (if sp then [] else Z ++ Y) sp ∧ (sp = true → bo = none) ∧ Kp w w' g ao bo
theorem hold_any {ao bo : Option Addr} {n cap m cc : Nat} {Z Y : List Int} {sp : Bool} (W : Wr w g ao n cap Z sp) (hao : sp = true → ao = none) (h : Ap w w' ao bo) (B : BR w' bo m cc (Z ++ Y)) :
    Calls Try.prog 45 #[ptr g, .slice bo m cc] w' fun r w2 => r = .returned (.tuple #[]) ∧ Puts w w2 g ao Z Y sp := by
  cases sp with
  | true =>
    refine (hold_sp w' g _ bo m cc ((h.block' W).trans W.box)).mono ?_
    rintro r w2 ⟨rfl, rfl⟩
    have k := W.lost h (hao rfl)
    have e : Z = [] := W.nil rfl
    subst e
    exact ⟨rfl, ao, n, cap, k.1, hao, k.2⟩
  | false =>
    refine (hold_ok w' g _ bo m cc ((h.block' W).trans W.box)).mono ?_
    rintro r w2 ⟨rfl, rfl⟩
    have k := W.held h B
    exact ⟨rfl, bo, m, cc, k.1, (fun e => by cases e), k.2⟩
theorem Wr.c0 {ao : Option Addr} {n cap : Nat} {Z : List Int} {sp : Bool} (W : Wr w g ao n cap Z sp) : w.cell? ⟨g, 0, none⟩ = some (.slice ao n cap) := by rw [cell_of_box W.box]; rfl
theorem Wr.c1 {ao : Option Addr} {n cap : Nat} {Z : List Int} {sp : Bool} (W : Wr w g ao n cap Z sp) : w.cell? ⟨g, 1, none⟩ = some (.bool sp) := by rw [cell_of_box W.box]; rfl
/-- Num, of a number that is not below 0 -/
theorem wnum_any (ao : Option Addr) (n cap : Nat) (Z : List Int) (sp : Bool) (x : Nat) (w : World) (W : Wr w g ao n cap Z sp) (hao : sp = true → ao = none) (hx : x ≤ 9223372036854775807) (hn : n ≤ 140737488355000) :
    Calls Try.prog 32 #[ptr g, .int .i64 (x : Int)] w fun r w' => r = .returned (.tuple #[]) ∧ Puts w w' g ao Z (numB x) sp := by
  have HW := hide W
  have x0 := W.c0
  have HA := hide hao
  have HN := hide (And.intro hx hn)
  have hlt : ¬ ((x : Int) < 0) := by omega
  clear W hao hx hn
  go_enter Try.func32, Try.ntmps32
  go_wp2_with fail
  refine (appendNum_any ao n cap Z x w HW.out.row HN.out.1 HN.out.2).mono ?_
  rintro r w2 ⟨bo, cc, rfl, B2, A2⟩
  have HB := hide B2
  have HP := hide A2
  clear B2 A2 x0
  go_wp2_with fail
  refine (hold_any HW.out HA.out HP.out HB.out).mono ?_
  rintro r w3 ⟨rfl, P3⟩
  have HF := hide P3
  clear P3
  go_wp2_with fail
  go_end0
  exact ⟨rfl, HF.out⟩
theorem BS.ap0 {so ao bo : Option Addr} {m c : Nat} {Y : List Int} (S : BS w so m c Y) (h : Ap w w' ao bo) (hne : m ≠ 0 → ∀ k, blk so = some k → blk ao ≠ some k) : BS w' so m c Y := by
  by_cases h0 : m = 0
  · exact ⟨S.len, S.nil, fun ad ha t ht => by omega⟩
  · exact S.ap h (hne h0)
theorem BS.lt {so : Option Addr} {m c : Nat} {Y : List Int} (S : BS w so m c Y) (h0 : m ≠ 0) (k : Nat) (e : blk so = some k) : k < w.heap.size := by
  cases so with
  | none => cases e
  | some ad =>
    have := World.block_lt_of_cell? _ _ (S.cell ad rfl 0 (by omega))
    rw [block_of_add] at this
    have : ad.block = k := Option.some.inj e
    omega
set_option maxRecDepth 100000 in
theorem frameB_any (ao : Option Addr) (n c : Nat) (Z : List Int) (so : Option Addr) (m d : Nat) (Y : List Int) (w : World) (S : BR w ao n c Z) (B : BS w so m d Y) (hne : m ≠ 0 → ∀ k, blk so = some k → blk ao ≠ some k) (hn : n + m ≤ 140737488355000) :
    Calls Try.prog 48 #[.slice ao n c, .slice so m d] w fun r w' => ∃ bo l cc, r = .returned (.slice bo l cc) ∧ BR w' bo l cc (Z ++ (numB m ++ Y)) ∧ Ap w w' ao bo := by
  have HS := hide S
  have HN := hide hn
  have HY := hide B
  have HE := hide hne
  clear S hn B hne
  go_enter Try.func48, Try.ntmps48
  go_wp2_with fail
  refine (appendNum_any ao n c Z m w HS.out (by have := HN.out; omega) (by have := HN.out; omega)).mono ?_
  rintro r w2 ⟨bo, cc, rfl, B2, A2⟩
  have HL : Hid (n + (numB m).length + m ≤ 140737488355328) := by show _ ≤ _; have := HN.out; have := numB_nine (n := m) (by omega); omega
  have HB := hide B2
  have HA := hide A2
  have HY2 := hide (HY.out.ap0 A2 HE.out)
  clear B2 A2
  go_wp2_with (at_builtin; refine HB.out.appB HY2.out HL.out rfl (.tmp 8) (.tmp 9) rfl rfl rfl ?_; intro b5 c5 w5 S5 A5; have HS5 := hide S5; have HA5 := hide (HA.out.trans A5); clear S5 A5)
  go_ret
  refine ⟨b5, _, c5, rfl, ?_, HA5.out⟩
  rw [← List.append_assoc]
  exact HS5.out
theorem wframe_any (ao : Option Addr) (n cap : Nat) (Z : List Int) (sp : Bool) (so : Option Addr) (m d : Nat) (Y : List Int) (w : World) (W : Wr w g ao n cap Z sp) (hao : sp = true → ao = none) (B : BS w so m d Y) (hne : m ≠ 0 → ∀ k, blk so = some k → blk ao ≠ some k) (hn : n + m ≤ 140737488355000) :
    Calls Try.prog 35 #[ptr g, .slice so m d] w fun r w' => r = .returned (.tuple #[]) ∧ Puts w w' g ao Z (numB m ++ Y) sp := by
  have HW := hide W
  have x0 := W.c0
  have HA := hide hao
  have HN := hide hn
  have HY := hide B
  have HE := hide hne
  clear W hao hn B hne
  go_enter Try.func35, Try.ntmps35
  go_wp2_with fail
  refine (frameB_any ao n cap Z so m d Y w HW.out.row HY.out HE.out HN.out).mono ?_
  rintro r w2 ⟨bo, m, cc, rfl, B2, A2⟩
  have HB := hide B2
  have HP := hide A2
  clear B2 A2 x0
  go_wp2_with fail
  refine (hold_any HW.out HA.out HP.out HB.out).mono ?_
  rintro r w3 ⟨rfl, P3⟩
  have HF := hide P3
  clear P3
  go_wp2_with fail
  go_end0
  exact ⟨rfl, HF.out⟩
theorem new_any (w : World) : Calls Try.prog 14 #[] w fun r w' => r = .returned (ptr w.heap.size) ∧ w' = w.alloc (.cells #[.slice none 0 0, .bool false] 69) := by
  go_enter Try.func14, Try.ntmps14
  go_wp2_with fail
  go_ret
  exact ⟨rfl, rfl⟩
theorem wr_new (w : World) : Wr (w.alloc (.cells #[.slice none 0 0, .bool false] 69)) w.heap.size none 0 0 [] false :=
  ⟨heap_alloc_new w _, BR.nil _, (fun k hk => by cases hk), fun h => by cases h⟩
theorem done_ok (ao : Option Addr) (n cap : Nat) (Z : List Int) (w : World) (W : Wr w g ao n cap Z false) (hn : n ≤ 140737488355000) :
    Calls Try.prog 16 #[ptr g] w fun r w' => ∃ bo cc, r = .returned (.tuple #[.slice bo n cc, .int .i64 0]) ∧ BR w' bo n cc Z ∧ NewB w w' bo := by
  have HW := hide W
  have x0 := W.c0
  have x1 := W.c1
  have HN := hide hn
  clear W hn
  go_enter Try.func16, Try.ntmps16
  go_wp2_with fail
  refine (clone_any ao n cap Z w HW.out.row.bs (Nat.le_trans HN.out (by decide))).mono ?_
  rintro r w2 ⟨bo, cc, rfl, B2, N2⟩
  have HB := hide B2
  have HF := hide N2
  clear B2 N2
  go_wp2_with fail
  go_ret2
  exact ⟨_, _, rfl, HB.out, HF.out⟩
/-- a writer that the call made: all of it lies at w0's end or behind -/
structure Wk (w0 wr : World) (g : Nat) (ao : Option Addr) (n cap : Nat) (Z : List Int) : Prop where
  w : Wr wr g ao n cap Z false
  bel : Below w0.heap.size w0 wr
  ge : w0.heap.size ≤ g
  row : ∀ k, blk ao = some k → w0.heap.size ≤ k
theorem wk_new (w0 : World) : Wk w0 (w0.alloc (.cells #[.slice none 0 0, .bool false] 69)) w0.heap.size none 0 0 [] :=
  ⟨wr_new w0, below_new _ _, Nat.le_refl _, fun k e => by cases e⟩
theorem Wk.len {w0 : World} {ao : Option Addr} {n cap : Nat} {Z : List Int} (h : Wk w0 w g ao n cap Z) : Z.length = n := h.w.row.len
theorem Wk.below {w0 : World} {ao : Option Addr} {n cap : Nat} {Z : List Int} (h : Wk w0 w g ao n cap Z) (b : Below w.heap.size w w') : Wk w0 w' g ao n cap Z :=
  ⟨⟨(b.block g h.w.lt).trans h.w.box, h.w.row.below b, h.w.ne, h.w.nil⟩, h.bel.trans (b.mono h.bel.size), h.ge, h.row⟩
theorem Wk.put {w0 : World} {ao : Option Addr} {n cap : Nat} {Z Y : List Int} (h : Wk w0 w g ao n cap Z) (P : Puts w w' g ao Z Y false) : ∃ bo m cc, Wk w0 w' g bo m cc (Z ++ Y) := by
  obtain ⟨bo, m, cc, W, -, K⟩ := P
  refine ⟨bo, m, cc, by simpa using W, ⟨K.os.trans h.bel.os, K.tape.trans h.bel.tape, K.output.trans h.bel.output, Nat.le_trans h.bel.size K.size, fun k hk => (K.block k (Nat.lt_of_lt_of_le hk h.bel.size) (fun e => by have := h.ge; omega) (fun e => by have := h.row k e.symm; omega)).trans (h.bel.block k hk)⟩, h.ge, fun k e => ?_⟩
  rcases K.lies with x | x | ⟨j, x, hj⟩
  · rw [x] at e; cases e
  · exact h.row k (x ▸ e)
  · rw [x] at e
    have := Option.some.inj e
    have := h.bel.size
    omega
end Go.Proofs.Ytflinfmhmokfhaa
