/- TUo -/
import Derived.Test.YtalpnhfoaohhhaaGreatTd22
import Derived.Test.YtalpnhfoaohhhaaGreatTd25
import Derived.Deep.CutRange
import Derived.Deep.CutBlock
namespace Go.Proofs.YtalpnhfoaohhhaaGreat
open Go.RowKit Go.Maps Go.Sort
attribute [local go_sem ↓] ldP_eq stP_eq ldRe_eq stRe_eq
attribute [local go_sem] cells_ReV ReC_size zero_ReC
def SoOf (L F : List Rc) : Prop := Srt ck (plR F) /\ (∀ y, y ∈ plR F ↔ y ∈ plR L) /\ ∀ r ∈ F, RecOk r
def OrA (w w' : World) (x : Ending) (L : List Rc) : Prop := ∃ (h : Hs) (F : List Rc), x = .returned (HsV h) /\ RcT w' h.o h.n h.c F /\ h.n <= L.length /\ (∀ ad, h.o = some ad -> w.heap.size <= ad.block) /\ Below w.heap.size w w' /\ SoOf L F
def ZOf (A B : List Rc) (i j na nb : Nat) (z : Int) : Prop := (i = na /\ z = 1) ∨ (i < na /\ j = nb /\ z = -1) ∨ (i < na /\ j < nb /\ z = ck (rck (A.getD i rc0)) (rck (B.getD j rc0)))
section
variable {X Y D : List Rp} {A B : List Rc} {i j : Nat} {z : Int}
end
structure UO (w2 wr : World) (A B : List Rc) (i j : Nat) (h : Hs) (D : List Rc) : Prop where
 own : OwnRc w2.heap.size w2 wr h D
 okd : ∀ r ∈ D, RecOk r
 mg : Mg ck (plR A) (plR B) (plR D) (plR (A.drop i)) (plR (B.drop j))
 num : h.n <= i + j
theorem UO.later {w2 wr wr2 : World} {A B : List Rc} {i j : Nat} {h : Hs} {D : List Rc} (U : UO w2 wr A B i j h D) (hb : Below wr.heap.size wr wr2) : UO w2 wr2 A B i j h D := ⟨U.own.later hb, U.okd, U.mg, U.num⟩
def UOv (w2 : World) (A B : List Rc) (na nb : Nat) (v vi vj : Value) (wr : World) : Prop := ∃ (i j : Nat) (h : Hs) (D : List Rc), i <= na /\ j <= nb /\ v = .slice h.o h.n h.c /\ vi = .int .i64 (i : Int) /\ vj = .int .i64 (j : Int) /\ Hid (UO w2 wr A B i j h D)
def UrA (w w' : World) (x : Ending) (L : List Rc) (n : Nat) (M : List Rc) (m : Nat) : Prop := (OkR L n /\ OkR M m /\ ∃ (h : Hs) (F : List Rc), x = .returned (.tuple #[HsV h, .int .i64 0]) /\ RcT w' h.o h.n h.c F /\ (∀ ad, h.o = some ad -> w.heap.size <= ad.block) /\ h.n <= n + m /\ Below w.heap.size w w' /\ UnOf L M F) ∨ (¬ (OkR L n /\ OkR M m) /\ x = .returned (.tuple #[.slice none 0 0, .int .i64 1]) /\ Below w.heap.size w w')
end Go.Proofs.YtalpnhfoaohhhaaGreat
