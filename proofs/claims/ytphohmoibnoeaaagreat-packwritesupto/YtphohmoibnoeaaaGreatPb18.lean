/- YNu UWr FTr FPa -/
import Derived.Test.YtphohmoibnoeaaaGreatTk
import Derived.Test.YtphohmoibnoeaaaGreatPb15
import Derived.Test.YtphohmoibnoeaaaGreatPb16
import Derived.Test.YtphohmoibnoeaaaGreatPb00
import Derived.Laws.CopyOwn
import Derived.Deep.RegionHeld
import Derived.Test.YtphohmoibnoeaaaGreatPb04
import Derived.Test.YtphohmoibnoeaaaGreatPb14
namespace Go.Proofs.YtphohmoibnoeaaaGreat.U
open Go.RowKit
variable {w w' w2 : World} {g : Nat}

theorem numB_step {y : Nat} (h : ¬ y < 128) : numB y = [(y : Int) % 128 + 128] ++ numB (y / 128) := by
 rw [numB_ge h]
 simp
theorem numB_stepLen {y : Nat} (h : ¬ y < 128) : (numB y).length = (numB (y / 128)).length + 1 := by rw [numB_ge h]; simp
set_option maxRecDepth 100000 in
theorem appendNum_any (ao : Option Addr) (n c : Nat) (Z : List Int) (x : Nat) (w : World) (S : BR w ao n c Z) (hx : x ≤ 9223372036854775807) (hn : n ≤ 140737488355000) : Calls Tryz.prog 91 #[.slice ao n c, .int .i64 (x : Int)] w fun r w' =>
  ∃ bo cc, r = .returned (.slice bo (n + (numB x).length) cc) ∧ BR w' bo (n + (numB x).length) cc (Z ++ numB x) ∧ Ap w w' ao bo := by
 have HL : Hid (n + (numB x).length ≤ 140737488355100) := by show _ ≤ _; have := numB_nine hx; omega
 have HS := hide S
 have HX := hide hx
 clear S hn hx
 go_enter Tryz.func91, Tryz.ntmps91
 go_wp2_with fail
 go_loopw [0, 1] (fun b i wr => ∃ (y : Nat) (m : Nat) (bo : Option Addr) (cc : Nat) (Y : List Int), i = .int .i64 y ∧ b = .slice bo m cc ∧ Hid (BR wr bo m cc Y ∧ Ap w wr ao bo ∧ y ≤ x ∧ Y ++ numB y = Z ++ numB x ∧ m + (numB y).length = n + (numB x).length)) (fun _ i _ => (intOf i).toNat)
 case atStart => exact ⟨x, n, ao, c, Z, rfl, rfl, HS.out, Ap.refl _ _, Nat.le_refl _, rfl, rfl⟩
 case round =>
  obtain ⟨y, m, bo, cc, Y, rfl, rfl, HI⟩ := hrel
  by_cases hlt : y < 128
  ·have HM : Hid (m + 1 = n + (numB x).length ∧ Y ++ [(y : Int)] = Z ++ numB x) := by
    obtain ⟨-, -, -, e1, e2⟩ := HI.out
    rw [numB_lt hlt] at e1 e2
    exact ⟨e2, e1⟩
   go_wp2_with (at_builtin; refine HI.out.1.app1 (y : Int) (by have := HM.out.1; have := HL.out; omega) rfl (.tmp 16) (.tmp 19) rfl rfl rfl ?_; intro b5 c5 w5 S5 A5; have HS5 := hide S5; have HA5 := hide A5; clear S5 A5)
   go_ret
   refine ⟨b5, c5, ?_, ?_, HI.out.2.1.trans HA5.out⟩
   ·rw [HM.out.1]; rfl
   ·rw [← HM.out.1, ← HM.out.2]; exact HS5.out
  ·have HM : Hid (m + 1 + (numB (y / 128)).length = n + (numB x).length ∧ Y ++ [(y : Int) % 128 + 128] ++ numB (y / 128) = Z ++ numB x) := by
    obtain ⟨-, -, -, e1, e2⟩ := HI.out
    rw [numB_step hlt] at e1
    rw [numB_stepLen hlt] at e2
    exact ⟨by omega, by rw [List.append_assoc]; exact e1⟩
   have HD : Hid (y / 128 < y ∧ y ≤ x) := ⟨by omega, HI.out.2.2.1⟩
   have HK1 : Hid (wrap64 ((y : Int) / 128) = ((y / 128 : Nat) : Int)) := by show _ = _; have := HX.out; have := HD.out.2; rw [w64 (by omega) (by omega)]; rfl
   have hge : (128 : Int) ≤ y := by omega
   go_wp2_with (at_builtin; refine HI.out.1.app1 ((y : Int) % 128 + 128) (by have := HM.out.1; have := HL.out; omega) rfl (.tmp 7) (.tmp 12) rfl rfl rfl ?_; intro b5 c5 w5 S5 A5; have HS5 := hide S5; have HA5 := hide (HI.out.2.1.trans A5); clear S5 A5)
   go_roundw
   case rel => exact ⟨y / 128, m + 1, b5, c5, _, by rw [HK1.out], rfl, HS5.out, HA5.out, by have := HD.out; omega, HM.out.2, HM.out.1⟩
   case measure => rw [HK1.out]; have := HD.out; simp [intOf]; omega
end Go.Proofs.YtphohmoibnoeaaaGreat.U
namespace Go.Proofs.YtphohmoibnoeaaaGreat.U
open Go.RowKit
variable {w w' w2 : World} {g : Nat}

structure Wr (w : World) (g : Nat) (ao : Option Addr) (n cap : Nat) (Z : List Int) (sp : Bool) : Prop where
 box : w.heap[g]? = some (.cells #[.slice ao n cap, .bool sp] 125 (0, 0))
 row : BR w ao n cap Z
 ne : ∀ k, blk ao = some k → k ≠ g
 nil : sp = true → Z = []
theorem cell_of_box {cs : Array Value} {t : TypeId} (h : w.heap[g]? = some (.cells cs t (0, 0))) (k : Nat) : w.cell? ⟨g, k, none⟩ = cs[k]? := by simp [World.cell?, h]
theorem set0 {u v b : Value} {t : TypeId} (h : w.heap[g]? = some (.cells #[u, b] t (0, 0))) : (w.setCell ⟨g, 0, none⟩ v).heap[g]? = some (.cells #[v, b] t (0, 0)) := by
 simp [World.setCell, h, Array.getElem?_modify]
theorem set1 {u v b : Value} {t : TypeId} (h : w.heap[g]? = some (.cells #[u, b] t (0, 0))) : (w.setCell ⟨g, 1, none⟩ v).heap[g]? = some (.cells #[u, v] t (0, 0)) := by
 simp [World.setCell, h, Array.getElem?_modify]
theorem set_otherW (w : World) (g j k : Nat) (v : Value) (h : k ≠ g) : (w.setCell ⟨g, j, none⟩ v).heap[k]? = w.heap[k]? := Go.Deep.blk_setCell_other w ⟨g, j, none⟩ _ k h
theorem set_sizeW (w : World) (p : Addr) (v : Value) : (w.setCell p v).heap.size = w.heap.size := by simp [World.setCell]
theorem frozen_of_box {cs : Array Value} {t : TypeId} (h : w.heap[g]? = some (.cells cs t (0, 0))) (k : Nat) : w.frozen? ⟨g, k, none⟩ = false := by simp [World.frozen?, h]
structure Kp (w w' : World) (g : Nat) (ao bo : Option Addr) : Prop where
 os : w'.os = w.os
 tape : w'.tape = w.tape
 output : w'.output = w.output
 size : w.heap.size ≤ w'.heap.size
 block : ∀ k, k < w.heap.size → k ≠ g → some k ≠ blk ao → w'.heap[k]? = w.heap[k]?
 lies : blk bo = none ∨ blk bo = blk ao ∨ ∃ k, blk bo = some k ∧ w.heap.size ≤ k
theorem Ap.block' {ao bo : Option Addr} (h : Ap w w' ao bo) {n cap : Nat} {Z : List Int} {sp : Bool} (W : Wr w g ao n cap Z sp) : w'.heap[g]? = w.heap[g]? :=
 h.grown.block g (Array.getElem?_eq_some_iff.1 W.box).1 (fun e => W.ne g e.symm rfl)
theorem Wr.lt {ao : Option Addr} {n cap : Nat} {Z : List Int} {sp : Bool} (W : Wr w g ao n cap Z sp) : g < w.heap.size := (Array.getElem?_eq_some_iff.1 W.box).1
theorem Wr.held {ao bo : Option Addr} {n cap m cc : Nat} {Z Y : List Int} (W : Wr w g ao n cap Z false) (h : Ap w w' ao bo) (B : BR w' bo m cc Y) :
  Wr (w'.setCell ⟨g, 0, none⟩ (.slice bo m cc)) g bo m cc Y false ∧ Kp w (w'.setCell ⟨g, 0, none⟩ (.slice bo m cc)) g ao bo := by
 have hg := W.lt
 have hne : ∀ k, blk bo = some k → k ≠ g := fun k hk => by
  rcases h.lies with e | ⟨j, e, hj⟩
  ·exact W.ne k (e ▸ hk)
  ·rw [e] at hk
   have := Option.some.inj hk
   omega
 refine ⟨⟨set0 ((h.block' W).trans W.box), B.keep fun k hk => set_otherW w' g 0 k _ (hne k hk), hne, fun e => by cases e⟩, ⟨h.grown.os, h.grown.tape, h.grown.output, by rw [set_sizeW]; exact h.grown.size, fun k hk h1 h2 => (set_otherW w' g 0 k _ h1).trans (h.grown.block k hk h2), Or.inr h.lies⟩⟩
theorem Wr.lost {ao bo : Option Addr} {n cap : Nat} {Z : List Int} (W : Wr w g ao n cap Z true) (h : Ap w w' ao bo) (hao : ao = none) : Wr w' g ao n cap Z true ∧ Kp w w' g ao ao := by
 subst hao
 refine ⟨⟨(h.block' W).trans W.box, W.row.keep (fun k hk => by cases hk), W.ne, W.nil⟩, ⟨h.grown.os, h.grown.tape, h.grown.output, h.grown.size, fun k hk h1 h2 => h.grown.block k hk h2, Or.inr (Or.inl rfl)⟩⟩
theorem hold_ok (w : World) (g : Nat) (u : Value) (bo : Option Addr) (m cc : Nat) (h : w.heap[g]? = some (.cells #[u, .bool false] 125 (0, 0))) :
  Calls Tryz.prog 90 #[ptr g, .slice bo m cc] w fun r w' => r = .returned (.tuple #[]) ∧ w' = w.setCell ⟨g, 0, none⟩ (.slice bo m cc) := by
 have x1 := cell_of_box h 1
 have x0 := cell_of_box h 0
 have f0 := frozen_of_box h 0
 simp at x0 x1
 go_enter Tryz.func90, Tryz.ntmps90
 go_wp2_with fail
 go_end0
 exact ⟨rfl, rfl⟩
theorem hold_sp (w : World) (g : Nat) (u : Value) (bo : Option Addr) (m cc : Nat) (h : w.heap[g]? = some (.cells #[u, .bool true] 125 (0, 0))) :
  Calls Tryz.prog 90 #[ptr g, .slice bo m cc] w fun r w' => r = .returned (.tuple #[]) ∧ w' = w := by
 have x1 := cell_of_box h 1
 simp at x1
 go_enter Tryz.func90, Tryz.ntmps90
 go_wp2_with fail
 go_end0
 exact ⟨rfl, rfl⟩
def Puts (w w' : World) (g : Nat) (ao : Option Addr) (Z Y : List Int) (sp : Bool) : Prop :=
 ∃ bo m cc, Wr w' g bo m cc (if sp then [] else Z ++ Y) sp ∧ (sp = true → bo = none) ∧ Kp w w' g ao bo
theorem hold_any {ao bo : Option Addr} {n cap m cc : Nat} {Z Y : List Int} {sp : Bool} (W : Wr w g ao n cap Z sp) (hao : sp = true → ao = none) (h : Ap w w' ao bo) (B : BR w' bo m cc (Z ++ Y)) :
  Calls Tryz.prog 90 #[ptr g, .slice bo m cc] w' fun r w2 => r = .returned (.tuple #[]) ∧ Puts w w2 g ao Z Y sp := by
 cases sp with
 | true =>
  refine (hold_sp w' g _ bo m cc ((h.block' W).trans W.box)).mono ?_
  rintro r w2 ⟨rfl, rfl⟩
  have k := W.lost h (hao rfl)
  have e : Z = [] := W.nil rfl
  subst e
  exact ⟨rfl, ao, n, cap, k.1, hao, k.2⟩
 | false =>
  refine (hold_ok w' g _ bo m cc ((h.block' W).trans W.box)).mono ?_
  rintro r w2 ⟨rfl, rfl⟩
  have k := W.held h B
  exact ⟨rfl, bo, m, cc, k.1, (fun e => by cases e), k.2⟩
theorem Wr.c0 {ao : Option Addr} {n cap : Nat} {Z : List Int} {sp : Bool} (W : Wr w g ao n cap Z sp) : w.cell? ⟨g, 0, none⟩ = some (.slice ao n cap) := by rw [cell_of_box W.box]; rfl
theorem Wr.c1 {ao : Option Addr} {n cap : Nat} {Z : List Int} {sp : Bool} (W : Wr w g ao n cap Z sp) : w.cell? ⟨g, 1, none⟩ = some (.bool sp) := by rw [cell_of_box W.box]; rfl
theorem wnum_any (ao : Option Addr) (n cap : Nat) (Z : List Int) (sp : Bool) (x : Nat) (w : World) (W : Wr w g ao n cap Z sp) (hao : sp = true → ao = none) (hx : x ≤ 9223372036854775807) (hn : n ≤ 140737488355000) :
  Calls Tryz.prog 61 #[ptr g, .int .i64 (x : Int)] w fun r w' => r = .returned (.tuple #[]) ∧ Puts w w' g ao Z (numB x) sp := by
 have HW := hide W
 have x0 := W.c0
 have HA := hide hao
 have HN := hide (And.intro hx hn)
 have hlt : ¬ ((x : Int) < 0) := by omega
 clear W hao hx hn
 go_enter Tryz.func61, Tryz.ntmps61
 go_wp2_with fail
 refine (appendNum_any ao n cap Z x w HW.out.row HN.out.1 HN.out.2).mono ?_
 rintro r w2 ⟨bo, cc, rfl, B2, A2⟩
 have HB := hide B2
 have HP := hide A2
 clear B2 A2 x0
 go_wp2_with fail
 refine (hold_any HW.out HA.out HP.out HB.out).mono ?_
 rintro r w3 ⟨rfl, P3⟩
 have HF := hide P3
 clear P3
 go_wp2_with fail
 go_end0
 exact ⟨rfl, HF.out⟩
theorem BS.lt {so : Option Addr} {m c : Nat} {Y : List Int} (S : BS w so m c Y) (h0 : m ≠ 0) (k : Nat) (e : blk so = some k) : k < w.heap.size := by
 cases so with
 | none => cases e
 | some ad =>
  have := World.block_lt_of_cell? _ _ (S.cell ad rfl 0 (by omega))
  rw [block_of_add] at this
  have : ad.block = k := Option.some.inj e
  omega
theorem new_any (w : World) : Calls Tryz.prog 58 #[] w fun r w' => r = .returned (ptr w.heap.size) ∧ w' = w.alloc (.cells #[.slice none 0 0, .bool false] 125) := by
 go_enter Tryz.func58, Tryz.ntmps58
 go_wp2_with fail
 go_ret
 exact ⟨rfl, rfl⟩
theorem wr_new (w : World) : Wr (w.alloc (.cells #[.slice none 0 0, .bool false] 125)) w.heap.size none 0 0 [] false :=
 ⟨heap_alloc_new w _, BR.nil _, (fun k hk => by cases hk), fun h => by cases h⟩
theorem done_ok (ao : Option Addr) (n cap : Nat) (Z : List Int) (w : World) (W : Wr w g ao n cap Z false) (hn : n ≤ 140737488355000) :
  Calls Tryz.prog 59 #[ptr g] w fun r w' => ∃ bo cc, r = .returned (.tuple #[.slice bo n cc, .int .i64 0]) ∧ BR w' bo n cc Z ∧ NewB w w' bo := by
 have HW := hide W
 have x0 := W.c0
 have x1 := W.c1
 have HN := hide hn
 clear W hn
 go_enter Tryz.func59, Tryz.ntmps59
 go_wp2_with fail
 refine (clone_any ao n cap Z w HW.out.row.bs (Nat.le_trans HN.out (by decide))).mono ?_
 rintro r w2 ⟨bo, cc, rfl, B2, N2⟩
 have HB := hide B2
 have HF := hide N2
 clear B2 N2
 go_wp2_with fail
 go_ret2
 exact ⟨_, _, rfl, HB.out, HF.out⟩
structure Wk (w0 wr : World) (g : Nat) (ao : Option Addr) (n cap : Nat) (Z : List Int) : Prop where
 w : Wr wr g ao n cap Z false
 bel : Below w0.heap.size w0 wr
 ge : w0.heap.size ≤ g
 row : ∀ k, blk ao = some k → w0.heap.size ≤ k
theorem wk_new (w0 : World) : Wk w0 (w0.alloc (.cells #[.slice none 0 0, .bool false] 125)) w0.heap.size none 0 0 [] :=
 ⟨wr_new w0, below_new _ _, Nat.le_refl _, fun k e => by cases e⟩
theorem Wk.len {w0 : World} {ao : Option Addr} {n cap : Nat} {Z : List Int} (h : Wk w0 w g ao n cap Z) : Z.length = n := h.w.row.len
theorem Wk.below {w0 : World} {ao : Option Addr} {n cap : Nat} {Z : List Int} (h : Wk w0 w g ao n cap Z) (b : Below w.heap.size w w') : Wk w0 w' g ao n cap Z :=
 ⟨⟨(b.block g h.w.lt).trans h.w.box, h.w.row.below b, h.w.ne, h.w.nil⟩, h.bel.trans (b.mono h.bel.size), h.ge, h.row⟩
theorem Wk.put {w0 : World} {ao : Option Addr} {n cap : Nat} {Z Y : List Int} (h : Wk w0 w g ao n cap Z) (P : Puts w w' g ao Z Y false) : ∃ bo m cc, Wk w0 w' g bo m cc (Z ++ Y) := by
 obtain ⟨bo, m, cc, W, -, K⟩ := P
 refine ⟨bo, m, cc, by simpa using W, ⟨K.os.trans h.bel.os, K.tape.trans h.bel.tape, K.output.trans h.bel.output, Nat.le_trans h.bel.size K.size, fun k hk => (K.block k (Nat.lt_of_lt_of_le hk h.bel.size) (fun e => by have := h.ge; omega) (fun e => by have := h.row k e.symm; omega)).trans (h.bel.block k hk)⟩, h.ge, fun k e => ?_⟩
 rcases K.lies with x | x | ⟨j, x, hj⟩
 ·rw [x] at e; cases e
 ·exact h.row k (x ▸ e)
 ·rw [x] at e
  have := Option.some.inj e
  have := h.bel.size
  omega
end Go.Proofs.YtphohmoibnoeaaaGreat.U
namespace Go.Proofs.YtphohmoibnoeaaaGreat
open Go.RowKit

def TC (gap r0 : Int) (T : Nat → Int) : List Value := .int .i64 gap :: .int .i64 r0 :: (List.range 16).map fun k => .int .i64 (T k)
theorem TC_length (gap r0 : Int) (T : Nat → Int) : (TC gap r0 T).length = 18 := by simp [TC]
theorem TC_at (gap r0 : Int) (T : Nat → Int) (k : Nat) (h : k < 16) : (TC gap r0 T)[2 + k]? = some (.int .i64 (T k)) := by
 rw [Nat.add_comm]
 simp [TC, h]
def TrB (w : World) (g : Nat) (gap r0 : Int) (T : Nat → Int) : Prop := w.heap[g]? = some (.cells (TC gap r0 T).toArray 133 (0, 0))
variable {w w' : World} {g : Nat} {gap r0 : Int} {T : Nat → Int}
theorem TrB.lt (h : TrB w g gap r0 T) : g < w.heap.size := (Array.getElem?_eq_some_iff.1 h).1
theorem TrB.below (h : TrB w g gap r0 T) (hb : Below w.heap.size w w') : TrB w' g gap r0 T := (hb.block g h.lt).trans h
theorem TrB.c0 (h : TrB w g gap r0 T) : w.cell? ⟨g, 0, none⟩ = some (.int .i64 gap) := by unfold TrB at h; simp [World.cell?, h, TC]
theorem TrB.c1 (h : TrB w g gap r0 T) : w.cell? ⟨g, 1, none⟩ = some (.int .i64 r0) := by unfold TrB at h; simp [World.cell?, h, TC]
theorem TrB.c2 (h : TrB w g gap r0 T) (k : Nat) (hk : k < 16) : w.cell? ⟨g, 2 + k, none⟩ = some (.int .i64 (T k)) := by
 unfold TrB at h
 have := TC_at gap r0 T k hk
 simp only [World.cell?, h]
 simpa using this
theorem TrB.frozen (h : TrB w g gap r0 T) (j : Nat) : w.frozen? ⟨g, j, none⟩ = false := by unfold TrB at h; simp [World.frozen?, h]
theorem TC_set1 (gap r0 x : Int) (T : Nat → Int) : (TC gap r0 T).set 1 (.int .i64 x) = TC gap x T := by simp [TC]
theorem TC_set2 (gap r0 x : Int) (T : Nat → Int) (k : Nat) (hk : k < 16) : (TC gap r0 T).set (2 + k) (.int .i64 x) = TC gap r0 (fun j => if j = k then x else T j) := by
 apply List.ext_getElem?
 intro i
 rw [List.getElem?_set]
 by_cases h0 : 2 + k = i
 ·subst h0
  rw [if_pos rfl, TC_length, if_pos (by omega), TC_at _ _ _ k hk, if_pos rfl]
 ·rw [if_neg h0]
  match i with
  | 0 => rfl
  | 1 => rfl
  | j + 2 =>
   by_cases hj : j < 16
   ·have e : j + 2 = 2 + j := by omega
    rw [e, TC_at _ _ _ j hj, TC_at _ _ _ j hj, if_neg (by omega)]
   ·rw [List.getElem?_eq_none (by rw [TC_length]; omega), List.getElem?_eq_none (by rw [TC_length]; omega)]
theorem TrB.set1 (h : TrB w g gap r0 T) (x : Int) : TrB (w.setCell ⟨g, 1, none⟩ (.int .i64 x)) g gap x T := by
 have := U.set_heap w g _ _ _ 1 (.int .i64 x) h
 unfold TrB
 rw [this, ← TC_set1 gap r0 x T]
 simp
theorem TrB.set2 (h : TrB w g gap r0 T) (k : Nat) (hk : k < 16) (x : Int) : TrB (w.setCell ⟨g, 2 + k, none⟩ (.int .i64 x)) g gap r0 (fun j => if j = k then x else T j) := by
 have := U.set_heap w g _ _ _ (2 + k) (.int .i64 x) h
 unfold TrB
 rw [this, ← TC_set2 gap r0 x T k hk]
 simp
theorem TC_zero (gap : Int) : (#[.int .i64 gap, .int .i64 0, .int .i64 0, .int .i64 0, .int .i64 0, .int .i64 0, .int .i64 0, .int .i64 0, .int .i64 0, .int .i64 0, .int .i64 0, .int .i64 0, .int .i64 0, .int .i64 0, .int .i64 0, .int .i64 0, .int .i64 0, .int .i64 0] : Array Value) = (TC gap 0 (fun _ => 0)).toArray := rfl
theorem TC_splice (gap : Int) (Z : List Int) (h : Z.length ≤ 16) : splice (TC gap 0 (fun _ => 0)) 2 (Z.map fun x => Value.int .i64 x) = TC gap 0 (fun k => Z.getD k 0) := by
 apply List.ext_getElem?
 intro i
 have hl : ((TC gap 0 (fun _ => 0)).take 2).length = 2 := by rw [List.length_take, TC_length]; rfl
 unfold splice
 match i with
 | 0 => rfl
 | 1 => rfl
 | j + 2 =>
  rw [List.getElem?_append_right (by omega), hl, show j + 2 - 2 = j by omega]
  by_cases hj : j < 16
  ·rw [show j + 2 = 2 + j by omega, TC_at _ _ _ j hj]
   by_cases hz : j < Z.length
   ·rw [List.getElem?_append_left (by simpa using hz)]
    simp [hz]
   ·rw [List.getElem?_append_right (by simp; omega)]
    simp only [List.length_map]
    rw [List.getElem?_drop, show 2 + Z.length + (j - Z.length) = 2 + j by omega, TC_at _ _ _ j hj]
    simp [hz]
  ·rw [List.getElem?_eq_none (by simp [TC_length]; omega), List.getElem?_eq_none (by rw [TC_length]; omega)]
set_option maxRecDepth 100000 in
theorem newTrail_any (gap : Int) (ao : Option Addr) (n c : Nat) (Z : List Int) (w : World) (hl : Z.length = n) (hn : n ≤ 16) (hnil : ao = none → n = 0) (hs : ∀ ad, ao = some ad → ∀ t, t < n → w.cell? (ad.add t) = some (.int .i64 (Z.getD t 0))) :
  Calls Tryz.prog 62 #[.int .i64 gap, .slice ao n c] w fun e w' => e = .returned (U.ptr w.heap.size) ∧ TrB w' w.heap.size gap 0 (fun k => Z.getD k 0) ∧ Below w.heap.size w w' := by
 have b1 := U.below_new w (.cells (TC gap 0 (fun _ => 0)).toArray 133)
 have hx := heap_alloc_new w (.cells (TC gap 0 (fun _ => 0)).toArray 133)
 have HB := hide b1
 have HX := hide hx
 have HSr : Hid (0 < (Z.map fun x => Value.int .i64 x).length → (some ⟨w.heap.size, 2, none⟩ : Option Addr) = some ⟨w.heap.size, 2, none⟩ ∧ ∃ ad, ao = some ad ∧ ∀ j v, (Z.map fun x => Value.int .i64 x)[j]? = some v → (w.alloc (.cells (TC gap 0 (fun _ => 0)).toArray 133)).cell? (ad.add j) = some v) := by
  intro h0
  refine ⟨rfl, ?_⟩
  cases ao with
  | none => have := hnil rfl; simp at h0; omega
  | some ad =>
   refine ⟨ad, rfl, fun j v hv => ?_⟩
   rw [List.getElem?_map, Option.map_eq_some_iff] at hv
   obtain ⟨y, hy, rfl⟩ := hv
   obtain ⟨hj, rfl⟩ := List.getElem?_eq_some_iff.1 hy
   have := hs ad rfl j (by omega)
   rw [b1.cell (World.block_lt_of_cell? _ _ this), this, List.getD_eq_getElem?_getD, List.getElem?_eq_getElem hj]
   rfl
 have HL : Hid (Z.length = n ∧ n ≤ 16) := ⟨hl, hn⟩
 have hz := TC_zero gap
 obtain ⟨w5, hcp, hg5, hb5⟩ : ∃ w5, (Builtin.copy_ #[22, 22] 3 #[.slice (some ⟨w.heap.size, 2, none⟩) 16 16, .slice ao n c]).run Tryz.prog (w.alloc (.cells (TC gap 0 (fun _ => 0)).toArray 133)) = .ok (goInt n) w5 ∧ TrB w5 w.heap.size gap 0 (fun k => Z.getD k 0) ∧ Below w.heap.size w w5 := by
  by_cases h0 : n = 0
  ·subst h0
   have h1 := run_copy_none (P := Tryz.prog) (w.alloc (.cells (TC gap 0 (fun _ => 0)).toArray 133)) 22 22 3 3 (some ⟨w.heap.size, 2, none⟩) ao 16 16 0 c Tryz.underlying22 (by kernel_rfl) (by rfl)
   refine ⟨_, h1, ?_, b1⟩
   obtain rfl : Z = [] := List.eq_nil_of_length_eq_zero hl
   exact hx
  ·have hcs : 0 < (Z.map fun x => Value.int .i64 x).length := by simp; omega
   obtain ⟨-, ad, rfl, hsrc⟩ := HSr.out hcs
   have h1 := run_copy_row (P := Tryz.prog) (w.alloc (.cells (TC gap 0 (fun _ => 0)).toArray 133)) 22 22 3 3 w.heap.size 2 16 16 ad n c (TC gap 0 (fun _ => 0)).toArray 133 (Z.map fun x => Value.int .i64 x) Tryz.underlying22 (by kernel_rfl) hx (by simp only [List.length_map, hl]; exact (Nat.min_eq_left hn).symm) hsrc (by simp [TC_length]; omega) (by simp [Value.oneCell'])
   have el : (Z.map fun x => Value.int .i64 x).length = n := by simp [hl]
   rw [el] at h1
   refine ⟨_, h1, ?_, b1.trans (below_setRow ((Below.refl _ _)) (Nat.le_of_eq (by simp)) )⟩
   have h2 := setRow_heap (w.alloc (.cells (TC gap 0 (fun _ => 0)).toArray 133)) w.heap.size _ ((splice (TC gap 0 (fun _ => 0)) 2 (Z.map fun x => Value.int .i64 x)).toArray) 133 _ hx
   rw [TC_splice gap Z (by omega)] at h2
   rw [← TC_splice gap Z (by omega)] at h2
   have h3 := TC_splice gap Z (by omega)
   unfold TrB
   rw [← h3]
   unfold splice at h2 ⊢
   rw [el] at h2 ⊢
   exact h2
 have HF := hide hg5
 have HB5 := hide hb5
 clear b1 hx hs hnil hl hn hg5 hb5 HSr HX HB
 go_enter Tryz.func62, Tryz.ntmps62
 go_wp2_with fail
 go_ret
 exact ⟨rfl, HF.out, HB5.out⟩
set_option maxRecDepth 100000 in
theorem least_any (h : TrB w g gap r0 T) (k : Nat) (hk : k < 16) (hg : 0 ≤ gap ∧ gap ≤ 1000) (hT : 0 ≤ T k ∧ T k ≤ 1000000000) : Calls Tryz.prog 92 #[U.ptr g, .int .i64 (k : Int)] w fun e w' => e = .returned (.int .i64 (T k + gap)) ∧ Below w.heap.size w w' := by
 have HX := hide h
 obtain ⟨x, hx⟩ : ∃ x, T k = x := ⟨_, rfl⟩
 have hw : IntKind.i64.wrap (x + gap) = x + gap := by rw [IntKind.wrap_i64]; omega
 have Hx := hide hx
 have hk16 : k < 16 := hk
 have hkI : (k : Int) < 16 := by omega
 clear h
 rw [hx]
 clear hx
 go_enter Tryz.func92, Tryz.ntmps92
 go_wp2_with fail
 refine wp_region_held_drew (S := fun v => v.cell? ⟨g, 0, none⟩ = some (.int .i64 gap) ∧ v.cell? ⟨g, 2 + k, none⟩ = some (.int .i64 x)) (by kernel_rfl) (⟨(HX.out.below (U.below_drew1 w)).c0, by have := (HX.out.below (U.below_drew1 w)).c2 k hk16; rw [Hx.out] at this; exact this⟩) (fun hHeld => ?_)
 refine wTk 0 ⟨some 5, .move (.tmp 0), 104, "trail.go:26", #[], none⟩ rfl ?_
 refine wTk 1 ⟨some 6, .move (.tmp 1), 3, "trail.go:26", #[], none⟩ rfl ?_
 refine wTk 2 ⟨some 7, .nilCheck (.tmp 5), 0, "trail.go:26", #[⟨0, .data⟩], none⟩ rfl ?_
 refine wTk 3 ⟨some 8, .fieldAddr 133 (.tmp 7) 2, 0, "trail.go:26", #[⟨2, .data⟩], none⟩ rfl ?_
 refine wTk 4 ⟨some 9, .indexAddr 131 (.tmp 8) (.tmp 6), 0, "trail.go:26", #[⟨3, .data⟩, ⟨1, .data⟩], none⟩ rfl ?_
 refine wTk 5 ⟨some 10, .load 3 (.tmp 9), 3, "trail.go:26", #[⟨4, .data⟩], none⟩ rfl ?_
 refine wTk 6 ⟨some 11, .move (.tmp 0), 104, "trail.go:26", #[], none⟩ rfl ?_
 refine wTk 7 ⟨some 12, .nilCheck (.tmp 11), 0, "trail.go:26", #[⟨6, .data⟩], none⟩ rfl ?_
 refine wTk 8 ⟨some 13, .fieldAddr 133 (.tmp 12) 0, 0, "trail.go:26", #[⟨7, .data⟩], none⟩ rfl ?_
 refine wTk 9 ⟨some 14, .load 3 (.tmp 13), 3, "trail.go:26", #[⟨8, .data⟩], none⟩ rfl ?_
 refine wTk 10 ⟨some 15, .binOp .add 3 (.tmp 10) (.tmp 14) 3, 3, "trail.go:26", #[⟨5, .data⟩, ⟨9, .data⟩], none⟩ rfl ?_
 refine wTk 11 ⟨some 4, .assign (.tmp 15), 3, "trail.go:26", #[⟨10, .data⟩, ⟨0, .phase⟩, ⟨1, .phase⟩, ⟨2, .phase⟩, ⟨3, .phase⟩, ⟨4, .phase⟩, ⟨5, .phase⟩, ⟨6, .phase⟩, ⟨7, .phase⟩, ⟨8, .phase⟩, ⟨9, .phase⟩, ⟨10, .phase⟩], none⟩ rfl ?_
 refine wpAnyH_done (by kernel_rfl) ?_ _
 clear hHeld
 go_wp2_with fail
 go_ret
 exact ⟨rfl, U.below_drew1 w⟩
set_option maxRecDepth 100000 in
theorem pass_any (h : TrB w g gap r0 T) (k : Nat) (hk : k < 16) (x : Int) : Calls Tryz.prog 64 #[U.ptr g, .int .i64 (k : Int), .int .i64 x] w fun e w' => e = .returned (.tuple #[]) ∧ TrB w' g gap (k : Int) (fun j => if j = k then x else T j) ∧ U.Kg w w' g := by
 have HX := hide h
 have hk16 : k < 16 := hk
 have hkI : (k : Int) < 16 := by omega
 clear h
 go_enter Tryz.func64, Tryz.ntmps64
 refine wp_region_held_drew (S := fun _ => True) (by kernel_rfl) (trivial) (fun hHeld => ?_)
 refine wTk 0 ⟨some 6, .move (.tmp 0), 104, "trail.go:29", #[], none⟩ rfl ?_
 refine wTk 1 ⟨some 7, .move (.tmp 0), 104, "trail.go:29", #[⟨7, .gcOnly .lateStores⟩], none⟩ rfl ?_
 refine wTk 2 ⟨some 8, .move (.tmp 1), 3, "trail.go:29", #[⟨7, .gcOnly .lateStores⟩], none⟩ rfl ?_
 refine wTk 3 ⟨some 9, .move (.tmp 1), 3, "trail.go:29", #[], none⟩ rfl ?_
 refine wTk 4 ⟨some 10, .move (.tmp 2), 3, "trail.go:29", #[⟨7, .gcOnly .lateStores⟩], none⟩ rfl ?_
 refine wTk 5 ⟨some 11, .nilCheck (.tmp 6), 0, "trail.go:29", #[⟨0, .data⟩, ⟨0, .phase⟩, ⟨1, .textOnly .lateStores⟩, ⟨2, .textOnly .lateStores⟩, ⟨3, .phase⟩, ⟨4, .textOnly .lateStores⟩], none⟩ rfl ?_
 refine wTk 6 ⟨some 12, .fieldAddr 133 (.tmp 11) 1, 0, "trail.go:29", #[⟨5, .data⟩, ⟨0, .phase⟩, ⟨1, .textOnly .lateStores⟩, ⟨2, .textOnly .lateStores⟩, ⟨3, .phase⟩, ⟨4, .textOnly .lateStores⟩], none⟩ rfl ?_
 refine wTk 8 ⟨some 13, .nilCheck (.tmp 7), 0, "trail.go:29", #[⟨1, .data⟩], none⟩ rfl ?_
 refine wTk 9 ⟨some 14, .fieldAddr 133 (.tmp 13) 2, 0, "trail.go:29", #[⟨8, .data⟩], none⟩ rfl ?_
 have HX1 := hide (HX.out.below (U.below_drew1 w))
 have d1 := HX1.out.c1
 have z1 := HX1.out.frozen 1
 refine wpAnyH_ready (rs := [7]) (by kernel_rfl) (by simp) (.cons rfl (fun K hK => ?_) .nil)
 go_simp
 refine hK.out _ _ trivial (fun hHeld => ?_)
 clear hK K
 have HX2 := hide (HX1.out.set1 (k : Int))
 have d2 := HX.out.c2 k hk16
 have z2 := HX.out.frozen (2 + k)
 refine wTk 10 ⟨some 15, .indexAddr 131 (.tmp 14) (.tmp 8), 0, "trail.go:29", #[⟨9, .data⟩, ⟨2, .data⟩, ⟨0, .phase⟩, ⟨1, .phase⟩, ⟨2, .phase⟩, ⟨3, .phase⟩, ⟨4, .phase⟩, ⟨5, .phase⟩, ⟨6, .phase⟩, ⟨7, .phase⟩], none⟩ rfl ?_
 refine wpAnyH_ready (rs := [11]) (by kernel_rfl) (by simp) (.cons rfl (fun K hK => ?_) .nil)
 go_simp
 refine hK.out _ _ trivial (fun hHeld => ?_)
 clear hK K
 refine wpAnyH_done (by kernel_rfl) ?_ _
 clear hHeld
 have HF := hide (HX2.out.set2 k hk16 x)
 have HG := hide (((U.Kg.of_below (g := g) (U.below_drew1 w)).set 1 (.int .i64 (k : Int))).set (2 + k) (.int .i64 x))
 go_wp2_with fail
 go_end0
 exact ⟨rfl, HF.out, HG.out⟩
end Go.Proofs.YtphohmoibnoeaaaGreat
namespace Go.Proofs.YtphohmoibnoeaaaGreat
open Go.RowKit

def nB (x : Int) : List Int := U.numB x.toNat
def upd (T : Nat → Int) (r : Nat) (x : Int) : Nat → Int := fun k => if k = r then x else T k
def cloudB : (Nat → Int) → Int → List Sn → List Int
 | _, _, [] => []
 | T, r0, s :: t => nB (s.rep - r0) ++ (nB (s.lo - (T s.rep.toNat + 2)) ++ (nB (s.hi - s.lo) ++ cloudB (upd T s.rep.toNat s.hi) s.rep t))
def vecB (Z : List Int) : List Int := Z.flatMap nB
def trl (Z : List Int) : Nat → Int := fun k => Z.getD k 0
def pastB (P : Pst) : List Int := U.numB P.vec.length ++ (vecB P.vec ++ (U.numB P.cloud.length ++ cloudB (trl P.vec) 0 P.cloud))
theorem numB_pos (n : Nat) : 1 ≤ (U.numB n).length := by
 by_cases h : n < 128
 ·rw [U.numB_lt h]; simp
 ·rw [U.numB_ge h]; simp
theorem cloudB_len : ∀ (L : List Sn) (T : Nat → Int) (r0 : Int), 3 * L.length ≤ (cloudB T r0 L).length
 | [], _, _ => Nat.zero_le _
 | s :: t, T, r0 => by
  have h := cloudB_len t (upd T s.rep.toNat s.hi) s.rep
  have h1 := numB_pos (s.rep - r0).toNat
  have h2 := numB_pos (s.lo - (T s.rep.toNat + 2)).toNat
  have h3 := numB_pos (s.hi - s.lo).toNat
  simp only [cloudB, nB, List.length_append, List.length_cons]
  omega
def TrlOk : (Nat → Int) → Int → List Sn → Prop
 | _, _, [] => True
 | T, r0, s :: t => (r0 ≤ s.rep ∧ 0 ≤ s.rep ∧ s.rep ≤ 15) ∧ T s.rep.toNat + 2 ≤ s.lo ∧ s.lo ≤ s.hi ∧ s.hi ≤ 1000000000 ∧ TrlOk (upd T s.rep.toNat s.hi) s.rep t
theorem chain_trl (Z : List Int) : ∀ (L : List Sn) (a : Sn) (T : Nat → Int), 0 ≤ a.rep → (∀ r : Nat, a.rep ≤ (r : Int) → r < 16 → T r = if (r : Int) = a.rep then max (V.atI Z r) a.hi else V.atI Z r) → chain Z a L → TrlOk T a.rep L
 | [], _, _, _, _, _ => trivial
 | c :: t, a, T, ha, hT, h => by
  have S := h.1
  have hr := S.isr
  simp [V.isR] at hr
  have e : ((c.rep.toNat : Nat) : Int) = c.rep := by omega
  have hTc := hT c.rep.toNat (by rw [e]; exact S.rep) (by omega)
  rw [e] at hTc
  have hlead := S.lead
  have hord := S.ord
  have h2 : T c.rep.toNat + 2 ≤ c.lo := by
   rw [hTc]
   split
   ·rename_i he
    have := S.gap he
    omega
   ·exact hlead
  refine ⟨⟨S.rep, hr.1, by omega⟩, h2, hord, S.top, chain_trl Z t c _ hr.1 (fun r h1 h16 => ?_) h.2⟩
  unfold upd
  by_cases er : r = c.rep.toNat
  ·subst er
   rw [if_pos rfl, e, if_pos rfl]
   omega
  ·have hne : ¬ (r : Int) = c.rep := by omega
   rw [if_neg er, if_neg hne]
   have := hT r (by have := S.rep; omega) h16
   rw [this, if_neg (by have := S.rep; omega)]
theorem inf_at {P : Pst} (h : InForm P) (k : Nat) (hk : k < 16) : P.vec.getD k 0 = V.at' P.vec k := by
 have := V.short_getD (V.at' P.vec) k hk
 rw [← h.1] at this
 exact this
theorem inf_len {P : Pst} (h : InForm P) : P.vec.length ≤ 16 := (canon_len (canon_iff.2 h)).2
theorem inf_bd {P : Pst} (h : InForm P) : ∀ x ∈ P.vec, 0 ≤ x ∧ x ≤ 1000000000 := by
 intro x hx
 obtain ⟨k, hk, rfl⟩ := List.getElem_of_mem hx
 have e := inf_at h k (by have := inf_len h; omega)
 rw [List.getD_eq_getElem?_getD, List.getElem?_eq_getElem hk] at e
 have := V.at'_bd P.vec k
 simp only [Option.getD_some] at e
 rw [e]
 exact this
theorem inf_trl {P : Pst} (h : InForm P) : TrlOk (trl P.vec) 0 P.cloud := by
 refine chain_trl P.vec P.cloud sn0 (trl P.vec) (Int.le_refl 0) (fun r _ h16 => ?_) h.2
 have e : trl P.vec r = V.atI P.vec r := by unfold trl; rw [inf_at h r h16, atI_nat P.vec h16]
 rw [e]
 split
 ·have := V.atI_bd P.vec (r : Int)
  show _ = max _ (0 : Int)
  omega
 ·rfl
def rdVec : Nat → List Int → Option (List Int × List Int)
 | 0, Z => some ([], Z)
 | n + 1, Z =>
  match U.pNum 1000000000 Z with
  | none => none
  | some (v, Z1) =>
   match rdVec n Z1 with
   | none => none
   | some (V, R) => some ((v : Int) :: V, R)
def rdCloud : Nat → (Nat → Int) → Int → List Int → Option (List Sn × List Int)
 | 0, _, _, Z => some ([], Z)
 | n + 1, T, r0, Z =>
  match U.pNum (15 - r0) Z with
  | none => none
  | some (a, Z1) =>
   match U.pNum (1000000000 - (T (r0 + a).toNat + 2)) Z1 with
   | none => none
   | some (b, Z2) =>
    match U.pNum (1000000000 - (T (r0 + a).toNat + 2 + b)) Z2 with
    | none => none
    | some (c, Z3) =>
     match rdCloud n (upd T (r0 + a).toNat (T (r0 + a).toNat + 2 + b + c)) (r0 + a) Z3 with
     | none => none
     | some (L, R) => some (⟨r0 + a, T (r0 + a).toNat + 2 + b, T (r0 + a).toNat + 2 + b + c⟩ :: L, R)
def rdPast (Z : List Int) : Option (Pst × List Int) :=
 match U.pNum 16 Z with
 | none => none
 | some (n, Z1) =>
  match rdVec n Z1 with
  | none => none
  | some (V, Z2) =>
   match U.pCnt 3 Z2 with
   | none => none
   | some (m, Z3) =>
    match rdCloud m (trl V) 0 Z3 with
    | none => none
    | some (L, R) => some (⟨V, L⟩, R)
theorem rdVec_to : ∀ (V R : List Int), (∀ x ∈ V, 0 ≤ x ∧ x ≤ 1000000000) → rdVec V.length (vecB V ++ R) = some (V, R)
 | [], R, _ => rfl
 | x :: V, R, h => by
  have hx := h x List.mem_cons_self
  have e : vecB (x :: V) ++ R = U.numB x.toNat ++ (vecB V ++ R) := by show (nB x ++ vecB V) ++ R = _; rw [List.append_assoc]; rfl
  show rdVec (V.length + 1) _ = _
  rw [e]
  unfold rdVec
  rw [U.pNum_to _ (by omega) (by omega)]
  simp only
  rw [rdVec_to V R (fun y hy => h y (List.mem_cons_of_mem _ hy))]
  simp only [Option.some.injEq, Prod.mk.injEq, List.cons.injEq, and_true]
  omega
theorem rdVec_of : ∀ (n : Nat) {Z V R : List Int}, U.Oc Z → rdVec n Z = some (V, R) → Z = vecB V ++ R ∧ V.length = n ∧ U.Oc R ∧ ∀ x ∈ V, 0 ≤ x ∧ x ≤ 1000000000
 | 0, Z, V, R, hZ, h => by
  unfold rdVec at h
  simp only [Option.some.injEq, Prod.mk.injEq] at h
  obtain ⟨rfl, rfl⟩ := h
  exact ⟨rfl, rfl, hZ, fun x hx => by cases hx⟩
 | n + 1, Z, V, R, hZ, h => by
  unfold rdVec at h
  cases h1 : U.pNum 1000000000 Z with
  | none => rw [h1] at h; cases h
  | some y =>
   obtain ⟨v, Z1⟩ := y
   rw [h1] at h
   simp only at h
   obtain ⟨e1, l1, o1, -⟩ := U.pNum_of hZ h1
   cases h2 : rdVec n Z1 with
   | none => rw [h2] at h; cases h
   | some y =>
    obtain ⟨W, R'⟩ := y
    rw [h2] at h
    simp only [Option.some.injEq, Prod.mk.injEq] at h
    obtain ⟨rfl, rfl⟩ := h
    obtain ⟨e2, e3, e4, e5⟩ := rdVec_of n o1 h2
    refine ⟨?_, by simp [e3], e4, fun x hx => ?_⟩
    ·rw [e1, e2]
     show _ = (nB (v : Int) ++ vecB W) ++ R'
     rw [List.append_assoc]
     unfold nB
     rw [Int.toNat_natCast]
    ·rcases List.mem_cons.1 hx with rfl | hx
     ·omega
     ·exact e5 x hx
theorem rdCloud_to : ∀ (L : List Sn) (T : Nat → Int) (r0 : Int) (R : List Int), 0 ≤ r0 → TrlOk T r0 L → (∀ k, 0 ≤ T k) → rdCloud L.length T r0 (cloudB T r0 L ++ R) = some (L, R)
 | [], _, _, R, _, _, _ => rfl
 | s :: t, T, r0, R, h0, h, hT => by
  obtain ⟨⟨h1, h2, h3⟩, h4, h5, h6, h7⟩ := h
  have hTs := hT s.rep.toNat
  have e : cloudB T r0 (s :: t) ++ R = U.numB (s.rep - r0).toNat ++ (U.numB (s.lo - (T s.rep.toNat + 2)).toNat ++ (U.numB (s.hi - s.lo).toNat ++ (cloudB (upd T s.rep.toNat s.hi) s.rep t ++ R))) := by
   simp only [cloudB, nB, List.append_assoc]
  have a1 : r0 + (((s.rep - r0).toNat : Nat) : Int) = s.rep := by omega
  have a2 : T s.rep.toNat + 2 + (((s.lo - (T s.rep.toNat + 2)).toNat : Nat) : Int) = s.lo := by omega
  have a3 : s.lo + (((s.hi - s.lo).toNat : Nat) : Int) = s.hi := by omega
  show rdCloud (t.length + 1) T r0 _ = _
  rw [e]
  unfold rdCloud
  rw [U.pNum_to _ (by omega) (by omega)]
  simp only [a1]
  rw [U.pNum_to _ (by omega) (by omega)]
  simp only [a2]
  rw [U.pNum_to _ (by omega) (by omega)]
  simp only [a3]
  rw [rdCloud_to t _ _ R h2 h7 (fun k => by unfold upd; split <;> first | omega | exact hT k)]
theorem rdCloud_of : ∀ (n : Nat) {T : Nat → Int} {r0 : Int} {Z R : List Int} {L : List Sn}, U.Oc Z → 0 ≤ r0 → rdCloud n T r0 Z = some (L, R) → Z = cloudB T r0 L ++ R ∧ L.length = n ∧ U.Oc R ∧ TrlOk T r0 L
 | 0, T, r0, Z, R, L, hZ, _, h => by
  unfold rdCloud at h
  simp only [Option.some.injEq, Prod.mk.injEq] at h
  obtain ⟨rfl, rfl⟩ := h
  exact ⟨rfl, rfl, hZ, trivial⟩
 | n + 1, T, r0, Z, R, L, hZ, h0, h => by
  unfold rdCloud at h
  cases h1 : U.pNum (15 - r0) Z with
  | none => rw [h1] at h; cases h
  | some y =>
   obtain ⟨a, Z1⟩ := y
   rw [h1] at h
   simp only at h
   obtain ⟨e1, l1, o1, -⟩ := U.pNum_of hZ h1
   cases h2 : U.pNum (1000000000 - (T (r0 + a).toNat + 2)) Z1 with
   | none => rw [h2] at h; cases h
   | some y =>
    obtain ⟨b, Z2⟩ := y
    rw [h2] at h
    simp only at h
    obtain ⟨e2, l2, o2, -⟩ := U.pNum_of o1 h2
    cases h3 : U.pNum (1000000000 - (T (r0 + a).toNat + 2 + b)) Z2 with
    | none => rw [h3] at h; cases h
    | some y =>
     obtain ⟨c, Z3⟩ := y
     rw [h3] at h
     simp only at h
     obtain ⟨e3, l3, o3, -⟩ := U.pNum_of o2 h3
     cases h4 : rdCloud n (upd T (r0 + a).toNat (T (r0 + a).toNat + 2 + b + c)) (r0 + a) Z3 with
     | none => rw [h4] at h; cases h
     | some y =>
      obtain ⟨M, R'⟩ := y
      rw [h4] at h
      simp only [Option.some.injEq, Prod.mk.injEq] at h
      obtain ⟨rfl, rfl⟩ := h
      obtain ⟨f1, f2, f3, f4⟩ := rdCloud_of n o3 (by omega) h4
      refine ⟨?_, by simp [f2], f3, ⟨(by show r0 ≤ r0 + (a : Int); omega), (by show 0 ≤ r0 + (a : Int); omega), (by show r0 + (a : Int) ≤ 15; omega)⟩, (by show T (r0 + (a : Int)).toNat + 2 ≤ T (r0 + (a : Int)).toNat + 2 + b; omega), (by show T (r0 + (a : Int)).toNat + 2 + (b : Int) ≤ T (r0 + (a : Int)).toNat + 2 + b + c; omega), (by show T (r0 + (a : Int)).toNat + 2 + (b : Int) + c ≤ 1000000000; omega), f4⟩
      have g1 : (r0 + (a : Int) - r0).toNat = a := by omega
      have g2 : (T (r0 + (a : Int)).toNat + 2 + (b : Int) - (T (r0 + (a : Int)).toNat + 2)).toNat = b := by omega
      have g3 : (T (r0 + (a : Int)).toNat + 2 + (b : Int) + c - (T (r0 + (a : Int)).toNat + 2 + b)).toNat = c := by omega
      simp only [cloudB, nB, List.append_assoc, g1, g2, g3]
      rw [← f1, ← e3, ← e2]
      exact e1
theorem trl_pos {V : List Int} (h : ∀ x ∈ V, 0 ≤ x ∧ x ≤ 1000000000) : ∀ k, 0 ≤ trl V k := by
 intro k
 unfold trl
 by_cases hk : k < V.length
 ·rw [List.getD_eq_getElem?_getD, List.getElem?_eq_getElem hk]
  exact (h _ (List.getElem_mem hk)).1
 ·rw [List.getD_eq_getElem?_getD, List.getElem?_eq_none (by omega)]
  exact Int.le_refl 0
theorem tdiv3 (n m : Nat) (h : 3 * m ≤ n) : (m : Int) ≤ ((n : Nat) : Int).tdiv (U.eachN 3) := by
 have e : U.eachN 3 = 3 := by decide
 rw [e, Int.tdiv_eq_ediv_of_nonneg (by omega)]
 omega
theorem rdPast_to {P : Pst} (h : InForm P) (R : List Int) : rdPast (pastB P ++ R) = some (P, R) := by
 have hl := inf_len h
 have hc := (canon_len (canon_iff.2 h)).1
 have e : pastB P ++ R = U.numB P.vec.length ++ (vecB P.vec ++ (U.numB P.cloud.length ++ (cloudB (trl P.vec) 0 P.cloud ++ R))) := by unfold pastB; simp only [List.append_assoc]
 rw [e]
 unfold rdPast
 rw [U.pNum_to _ (by omega) (by omega)]
 simp only
 rw [rdVec_to _ _ (inf_bd h)]
 simp only
 rw [U.pCnt_to _ (tdiv3 _ _ (by have := cloudB_len P.cloud (trl P.vec) 0; rw [List.length_append]; omega)) (by omega)]
 simp only
 rw [rdCloud_to _ _ _ _ (Int.le_refl 0) (inf_trl h) (trl_pos (inf_bd h))]
theorem rdPast_of {Z R : List Int} {P : Pst} (hZ : U.Oc Z) (h : rdPast Z = some (P, R)) : Z = pastB P ++ R ∧ U.Oc R ∧ P.vec.length ≤ 16 ∧ (∀ x ∈ P.vec, 0 ≤ x ∧ x ≤ 1000000000) ∧ TrlOk (trl P.vec) 0 P.cloud := by
 unfold rdPast at h
 cases h1 : U.pNum 16 Z with
 | none => rw [h1] at h; cases h
 | some y =>
  obtain ⟨n, Z1⟩ := y
  rw [h1] at h
  simp only at h
  obtain ⟨e1, l1, o1, -⟩ := U.pNum_of hZ h1
  cases h2 : rdVec n Z1 with
  | none => rw [h2] at h; cases h
  | some y =>
   obtain ⟨V, Z2⟩ := y
   rw [h2] at h
   simp only at h
   obtain ⟨e2, l2, o2, b2⟩ := rdVec_of n o1 h2
   cases h3 : U.pCnt 3 Z2 with
   | none => rw [h3] at h; cases h
   | some y =>
    obtain ⟨m, Z3⟩ := y
    rw [h3] at h
    simp only at h
    obtain ⟨e3, o3, l3⟩ := U.pCnt_of o2 h3
    cases h4 : rdCloud m (trl V) 0 Z3 with
    | none => rw [h4] at h; cases h
    | some y =>
     obtain ⟨L, R'⟩ := y
     rw [h4] at h
     simp only [Option.some.injEq, Prod.mk.injEq] at h
     obtain ⟨rfl, rfl⟩ := h
     obtain ⟨f1, f2, f3, f4⟩ := rdCloud_of m o3 (Int.le_refl 0) h4
     refine ⟨?_, f3, (by show V.length ≤ 16; omega), b2, f4⟩
     unfold pastB
     simp only [List.append_assoc]
     rw [← f1, f2, ← e3, ← e2, l2]
     exact e1
end Go.Proofs.YtphohmoibnoeaaaGreat
