/- A row of bytes that a function grows, beside blocks that stay; what the reference's putPast writes, plainly. -/
import Derived.Test.YtphohmoibnoeaaaGreatIRv
import Derived.Test.YtphohmoibnoeaaaGreatUTs
import Derived.Test.YtphohmoibnoeaaaGreatPb40
namespace Go.Proofs.YtphohmoibnoeaaaGreat
open Go.RowKit

structure GW (w0 W : World) (ao : Option Addr) (n cap : Nat) (Z : List Int) (F : List (Nat × Obj)) : Prop where
 r : U.BR W ao n cap Z
 nw : U.NewB w0 W ao
 keep : ∀ x ∈ F, W.heap[x.1]? = some x.2 ∧ U.blk ao ≠ some x.1
variable {w0 W W' : World} {ao bo : Option Addr} {n cap n' cap' : Nat} {Z Z' : List Int} {F : List (Nat × Obj)}
theorem gw_new (w : World) : GW w w none 0 0 [] [] := ⟨U.BR.nil w, ⟨Below.refl _ _, fun k hk => by cases hk⟩, fun x hx => by cases hx⟩
theorem GW.lt (h : GW w0 W ao n cap Z F) (x : Nat × Obj) (hx : x ∈ F) : x.1 < W.heap.size := (Array.getElem?_eq_some_iff.1 (h.keep x hx).1).1
theorem GW.ap (h : GW w0 W ao n cap Z F) (hr : U.BR W' bo n' cap' Z') (a : U.Ap W W' ao bo) : GW w0 W' bo n' cap' Z' F := by
 refine ⟨hr, ⟨⟨a.grown.os.trans h.nw.1.os, a.grown.tape.trans h.nw.1.tape, a.grown.output.trans h.nw.1.output, Nat.le_trans h.nw.1.size a.grown.size, fun k hk => ?_⟩, fun k hk => ?_⟩, fun x hx => ⟨?_, ?_⟩⟩
 ·refine (a.grown.block k (Nat.lt_of_lt_of_le hk h.nw.1.size) (fun e => ?_)).trans (h.nw.1.block k hk)
  have := h.nw.2 k e.symm
  omega
 ·rcases a.lies with e | ⟨j, e, hj⟩
  ·exact h.nw.2 k (by rw [← e]; exact hk)
  ·rw [e] at hk
   have := Option.some.inj hk
   have := h.nw.1.size
   omega
 ·exact (a.grown.block x.1 (h.lt x hx) (fun e => (h.keep x hx).2 e.symm)).trans (h.keep x hx).1
 ·have hl := h.lt x hx
  rcases a.lies with e | ⟨j, e, hj⟩
  ·rw [e]; exact (h.keep x hx).2
  ·rw [e]
   intro ee
   have := Option.some.inj ee
   omega
theorem GW.below (h : GW w0 W ao n cap Z F) (b : Below W.heap.size W W') : GW w0 W' ao n cap Z F :=
 ⟨h.r.below b, ⟨h.nw.1.trans (b.mono h.nw.1.size), h.nw.2⟩, fun x hx => ⟨(b.block x.1 (h.lt x hx)).trans (h.keep x hx).1, (h.keep x hx).2⟩⟩
theorem GW.add (h : GW w0 W ao n cap Z F) (b : Below W.heap.size W W') {g : Nat} (hg : W.heap.size ≤ g) {ob : Obj} (hx : W'.heap[g]? = some ob) : GW w0 W' ao n cap Z ((g, ob) :: F) := by
 have hb := h.below b
 refine ⟨hb.r, hb.nw, fun x hx' => ?_⟩
 rcases List.mem_cons.1 hx' with rfl | hx'
 ·exact ⟨hx, fun e => by have := h.r.lt g e; omega⟩
 ·exact hb.keep x hx'
theorem GW.new (h : GW w0 W ao n cap Z F) (ob : Obj) : GW w0 (W.alloc ob) ao n cap Z ((W.heap.size, ob) :: F) := h.add (below_new W ob) (Nat.le_refl _) (heap_alloc_new W ob)
theorem GW.sub {F' : List (Nat × Obj)} (h : GW w0 W ao n cap Z F) (hs : ∀ x ∈ F', x ∈ F) : GW w0 W ao n cap Z F' := ⟨h.r, h.nw, fun x hx => h.keep x (hs x hx)⟩
theorem GW.pre {w1 : World} (b : Below w1.heap.size w1 w0) (h : GW w0 W ao n cap Z F) : GW w1 W ao n cap Z F := ⟨h.r, h.nw.pre b, h.keep⟩
def LstOk (i : Nat) (rep hi : Int) (V : List Int) (T : Nat → Int) : Prop := ∀ r : Nat, rep ≤ (r : Int) → T r = if 0 < i ∧ (r : Int) = rep then hi else trl V r
theorem lst_start (V : List Int) (rep hi : Int) : LstOk 0 rep hi V (trl V) := fun r _ => by rw [if_neg (fun h => Nat.lt_irrefl 0 h.1)]
theorem LstOk.next {i : Nat} {rep hi : Int} {V : List Int} {T : Nat → Int} (h : LstOk i rep hi V T) (r : Nat) (hr : rep ≤ (r : Int)) (x : Int) : LstOk (i + 1) (r : Int) x V (upd T r x) := fun k hk => by
 unfold upd
 by_cases e : k = r
 ·subst e
  rw [if_pos rfl, if_pos ⟨Nat.succ_pos _, rfl⟩]
 ·rw [if_neg e, if_neg (fun h => e (by omega)), h k (by omega), if_neg (fun h => e (by omega))]
end Go.Proofs.YtphohmoibnoeaaaGreat
