/- What a page writes: a text, a number, a line's end. -/
import Derived.Test.YtheiblagjeekjaaDoorTeQ
namespace Go.Proofs.YtheiblagjeekjaaDoor
open Go.RowKit

theorem Kp.of {B b : Nat} {w w' : World} (hB : B ≤ w.heap.size) (h : Below w.heap.size w w') : Kp B b w w' :=
  ⟨h.mono hB, fun k _ hk _ _ => (h.block k (Array.getElem?_eq_some_iff.1 hk).1).trans hk⟩
theorem Pg.on {B b : Nat} {l : List UInt8} {w w' : World} (h : Pg B b l w) (hb : Below w.heap.size w w') : Pg B b l w' := by
  have key : ∀ p, Lib.BuilderAtF 40 5 B b p (Lib.byteCells l) w → Lib.BuilderAtF 40 5 B b p (Lib.byteCells l) w' := by
    rintro p ⟨hB, v, hbk, hown, hne⟩
    exact ⟨hB, v, (hb.block b (Array.getElem?_eq_some_iff.1 hbk).1).trans hbk, hown.kept (row := none) ⟨hb.os, hb.tape, hb.output, hb.size, fun k hk _ => hb.block k hk⟩ (by cases v.ownBlock <;> simp), hne⟩
  exact ⟨h.is.imp (key _) (key _)⟩
theorem var_low {B g : Nat} {n : String} {w w' : World} (hg : Tryd.prog.globalNamed n = some g) (hlt : g < B) (hb : Below B w w') : w'.var? Tryd.prog n = w.var? Tryd.prog n := by
  unfold World.var?
  rw [hg]
  simp only [Option.bind_some]
  rw [hb.block g hlt]
/-- both tables, in memory below a block -/
structure Tb (B : Nat) (w : World) : Prop where
  tab : Tab w
  wt : Wt w
  lt : 1 < B
theorem Tb.on {B : Nat} {w w' : World} (h : Tb B w) (hb : Below B w w') : Tb B w' :=
  ⟨⟨by have := h.tab.is; unfold Lib.TabIs at this ⊢; rw [var_low gTab (by have := h.lt; omega) hb]; exact this⟩, ⟨by rw [var_low gWt (by have := h.lt; omega) hb]; exact h.wt.is⟩, h.lt⟩

set_option maxRecDepth 100000 in
theorem ptext_any (B b : Nat) (l a t : List UInt8) (w : World) (h : Pg B b l w) (hl : l.length + a.length + t.length ≤ 140737488355328) (hB : B ≤ w.heap.size) :
    Calls Tryd.prog 17 #[.pointer (some ⟨b, 0, none⟩), .string (bs a), .string (bs t)] w fun e w' => e = .returned (.tuple #[]) ∧ Pg B b (l ++ a ++ t) w' ∧ Kp B b w w' := by
  have HP := hide h
  have HB := hide hB
  clear h hB
  go_enter Tryd.func17, Tryd.ntmps17
  go_wp2_with (first | (go_at_call 21; refine (wstr_any B b (l ++ a) t _ p1 (by simp; omega) (Nat.le_trans HB.out k1.size)).mono ?_; rintro e w2 ⟨rfl, p2, k2⟩) | (go_at_call 21; refine (wstr_any B b l a _ HP.out (by omega) HB.out).mono ?_; rintro e w1 ⟨rfl, p1, k1⟩))
  go_end0
  exact ⟨rfl, p2, k1.trans k2⟩
set_option maxRecDepth 100000 in
theorem pnum_any (B b : Nat) (l a : List UInt8) (n : Int) (h0 : -9223372036854775808 ≤ n) (h1 : n ≤ 9223372036854775807) (w : World) (h : Pg B b l w) (ht : Tb B w) (hl : l.length + a.length + 21 ≤ 140737488355328) (hB : B ≤ w.heap.size) :
    Calls Tryd.prog 16 #[.pointer (some ⟨b, 0, none⟩), .string (bs a), .int .i64 n] w fun e w' => e = .returned (.tuple #[]) ∧ Pg B b (l ++ a ++ num n) w' ∧ Kp B b w w' := by
  have HP := hide h
  have HB := hide hB
  have HN := hide (num_len n h0 h1)
  have HI := hide (itoa_any n h0 h1 w ht.tab)
  clear h hB ht h0 h1
  go_enter Tryd.func16, Tryd.ntmps16
  go_wp2_with (first | (go_at_call 9; refine HI.out.mono ?_; rintro e w1 ⟨rfl, b1⟩) | (go_at_call 17; refine (ptext_any B b l a (num n) _ (HP.out.on b1) (by have := HN.out; omega) (Nat.le_trans HB.out b1.size)).mono ?_; rintro e w2 ⟨rfl, p2, k2⟩))
  go_end0
  exact ⟨rfl, p2, (Kp.of HB.out b1).trans k2⟩
set_option maxRecDepth 100000 in
theorem pend_any (B b : Nat) (l : List UInt8) (w : World) (h : Pg B b l w) (hl : l.length + 1 ≤ 140737488355328) (hB : B ≤ w.heap.size) :
    Calls Tryd.prog 18 #[.pointer (some ⟨b, 0, none⟩)] w fun e w' => e = .returned (.tuple #[]) ∧ Pg B b (l ++ [10]) w' ∧ Kp B b w w' := by
  have HC := hide (wbyte_any B b l 10 w h hl hB)
  clear h hB
  go_enter Tryd.func18, Tryd.ntmps18
  go_wp2_with (go_at_call 22; refine HC.out.mono ?_; rintro e w1 ⟨rfl, p1, k1⟩)
  go_end0
  exact ⟨rfl, p1, k1⟩
end Go.Proofs.YtheiblagjeekjaaDoor
