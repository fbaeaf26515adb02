/- TUo -/
import Derived.Test.YtalcmdjiejhkgaaGreatKw28
import Derived.Test.YtalcmdjiejhkgaaGreatKw31
import Derived.Deep.CutRange
import Derived.Deep.CutBlock
namespace Go.Proofs.YtalcmdjiejhkgaaGreat
open Go.RowKit Go.Maps Go.Sort
attribute [local go_sem ↓] ldP_eq stP_eq ldRe_eq stRe_eq
attribute [local go_sem] cells_ReV ReC_size zero_ReC
theorem RcT.take {w : World} {ad : Addr} {n c : Nat} {L : List Rc} (h : RcT w (some ad) n c L) (k : Nat) (hk : k <= n) : RcT w (some ad) k c (L.take k) := by
 have hl := h.src.len
 refine ⟨⟨by rw [List.length_take]; omega, fun e => (by cases e), fun ad' e t ht => ?_, fun r hr => h.src.ok r (List.mem_of_mem_take hr), Nat.le_trans hk h.src.big⟩, Nat.le_trans hk h.room, fun e => (by cases e)⟩
 have A := h.src.at_ ad' e t (by omega)
 have e1 : (L.take k).getD t rc0 = L.getD t rc0 := by
  simp only [List.getD, List.getElem?_take, if_pos ht]
 rw [e1]; exact A
theorem RcT.drop {w : World} {ad : Addr} {n c : Nat} {L : List Rc} (h : RcT w (some ad) n c L) (k : Nat) (hk : k <= n) : RcT w (some (ad.add (k * 3))) (n - k) (c - k) (L.drop k) := by
 have hl := h.src.len
 have hc := h.room
 have hb := h.src.big
 refine ⟨⟨by rw [List.length_drop]; omega, fun e => (by cases e), fun ad' e t ht => ?_, fun r hr => h.src.ok r (List.mem_of_mem_drop hr), by omega⟩, by omega, fun e => (by cases e)⟩
 obtain rfl := Option.some.inj e
 have A := h.src.at_ ad rfl (k + t) (by omega)
 have e1 : (L.drop k).getD t rc0 = L.getD (k + t) rc0 := by
  simp only [List.getD, List.getElem?_drop]
 rw [e1, add_add, show k * 3 + t * 3 = (k + t) * 3 by omega]
 exact A
def SoOf (L F : List Rc) : Prop := Srt ck (plR F) /\ (∀ y, y ∈ plR F ↔ y ∈ plR L) /\ ∀ r ∈ F, RecOk r
def OrA (w w' : World) (x : Ending) (L : List Rc) : Prop := ∃ (h : Hs) (F : List Rc), x = .returned (HsV h) /\ RcT w' h.o h.n h.c F /\ h.n <= L.length /\ (∀ ad, h.o = some ad -> w.heap.size <= ad.block) /\ Below w.heap.size w w' /\ SoOf L F
def ZOf (A B : List Rc) (i j na nb : Nat) (z : Int) : Prop := (i = na /\ z = 1) ∨ (i < na /\ j = nb /\ z = -1) ∨ (i < na /\ j < nb /\ z = ck (rck (A.getD i rc0)) (rck (B.getD j rc0)))
theorem rcDrop {L : List Rc} {i : Nat} (h : i < L.length) : L.drop i = L.getD i rc0 :: L.drop (i + 1) := by
 rw [rcD_at h, List.drop_eq_getElem_cons h]
section
variable {X Y D : List Rp} {A B : List Rc} {i j : Nat} {z : Int}
end
theorem srt_small {L : List Rc} (h : L.length < 2) : Srt ck (plR L) := by
 match L, h with
 | [], _ => exact List.Pairwise.nil
 | [x], _ => exact List.pairwise_singleton _ _
structure UO (w2 wr : World) (A B : List Rc) (i j : Nat) (h : Hs) (D : List Rc) : Prop where
 own : OwnRc w2.heap.size w2 wr h D
 okd : ∀ r ∈ D, RecOk r
 mg : Mg ck (plR A) (plR B) (plR D) (plR (A.drop i)) (plR (B.drop j))
 num : h.n <= i + j
def UOv (w2 : World) (A B : List Rc) (na nb : Nat) (v vi vj : Value) (wr : World) : Prop := ∃ (i j : Nat) (h : Hs) (D : List Rc), i <= na /\ j <= nb /\ v = .slice h.o h.n h.c /\ vi = .int .i64 (i : Int) /\ vj = .int .i64 (j : Int) /\ Hid (UO w2 wr A B i j h D)
def UrA (w w' : World) (x : Ending) (L : List Rc) (n : Nat) (M : List Rc) (m : Nat) : Prop := (OkR L n /\ OkR M m /\ ∃ (h : Hs) (F : List Rc), x = .returned (.tuple #[HsV h, .int .i64 0]) /\ RcT w' h.o h.n h.c F /\ (∀ ad, h.o = some ad -> w.heap.size <= ad.block) /\ h.n <= n + m /\ Below w.heap.size w w' /\ UnOf L M F) ∨ (¬ (OkR L n /\ OkR M m) /\ x = .returned (.tuple #[.slice none 0 0, .int .i64 1]) /\ Below w.heap.size w w')
end Go.Proofs.YtalcmdjiejhkgaaGreat
