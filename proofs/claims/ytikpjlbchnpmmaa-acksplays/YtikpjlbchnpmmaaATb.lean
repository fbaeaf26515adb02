/- Tables of acks in memory. -/
import Derived.Test.YtikpjlbchnpmmaaATo
import Derived.Deep.MidRow
import Derived.Deep.RegionWith
import Derived.Deep.CutRange
import Derived.Deep.Heap
namespace Go.Proofs.Ytikpjlbchnpmmaa
open Go.RowKit

abbrev ptr (g : Nat) : Value := .pointer (some ⟨g, 0, none⟩)
theorem w64 {x : Int} (h1 : -9223372036854775808 ≤ x) (h2 : x ≤ 9223372036854775807) : wrap64 x = x := by unfold wrap64; omega
theorem below_drewN (w : World) (n : Nat) : Below w.heap.size w (w.drewN n) := ⟨rfl, rfl, rfl, Nat.le_refl _, fun _ _ => rfl⟩
def TC (h : Nat → Int) : Array Value := ((List.range 18).map fun t => Value.int .i64 (h t)).toArray
def tf (r s : Int) (f : Nat → Int) : Nat → Int := fun t => if t = 0 then r else if t = 1 then s else f (t - 2)
theorem TC_size (h : Nat → Int) : (TC h).size = 18 := by simp [TC]
theorem TC_at (h : Nat → Int) (t : Nat) (ht : t < 18) : (TC h)[t]? = some (.int .i64 (h t)) := by simp [TC, ht]
theorem zero_TC (r s : Int) : (#[.int .i64 r, .int .i64 s, .int .i64 0, .int .i64 0, .int .i64 0, .int .i64 0, .int .i64 0, .int .i64 0, .int .i64 0, .int .i64 0, .int .i64 0, .int .i64 0, .int .i64 0, .int .i64 0, .int .i64 0, .int .i64 0, .int .i64 0, .int .i64 0] : Array Value) = TC (tf r s fun _ => 0) := rfl
def fset (f : Nat → Int) (k : Nat) (z : Int) : Nat → Int := fun r => if r = k then z else f r
theorem TC_set (h : Nat → Int) (t : Nat) (z : Int) : (TC h).setIfInBounds t (.int .i64 z) = TC (fset h t z) := by
  apply Array.ext
  · simp [TC]
  · intro i h1 h2
    simp [TC] at h2
    by_cases e : t = i
    · subst e; simp [TC, fset]
    · have : ¬ i = t := fun x => e x.symm
      simp [TC, fset, e, this]
theorem tf_set (r s : Int) (f : Nat → Int) (k : Nat) (z : Int) : fset (tf r s f) (2 + k) z = tf r s (fset f k z) := by
  funext t
  unfold fset tf
  by_cases e : t = 2 + k
  · subst e
    rw [if_pos rfl, if_neg (by omega), if_neg (by omega)]
    show z = if 2 + k - 2 = k then z else _
    rw [if_pos (by omega)]
  · rw [if_neg e]
    by_cases h0 : t = 0
    · rw [if_pos h0, if_pos h0]
    · by_cases h1 : t = 1
      · rw [if_neg h0, if_neg h0, if_pos h1, if_pos h1]
      · rw [if_neg h0, if_neg h0, if_neg h1, if_neg h1]
        show _ = if t - 2 = k then z else f (t - 2)
        rw [if_neg (by omega)]
/-- the table at g: how many replicas, its own number, the peers' numbers -/
def Tb (w : World) (g : Nat) (r s : Int) (f : Nat → Int) : Prop := w.heap[g]? = some (.cells (TC (tf r s f)) 60 (0, 0))
/-- all blocks but g stand, and no new one has come -/
structure Fr (w w' : World) (g : Nat) : Prop where
  os : w'.os = w.os
  tape : w'.tape = w.tape
  output : w'.output = w.output
  size : w'.heap.size = w.heap.size
  block : ∀ k, k ≠ g → w'.heap[k]? = w.heap[k]?
variable {w w' : World} {g : Nat} {r s : Int} {f : Nat → Int}
theorem Fr.below {w0 : World} {B : Nat} (h : Fr w w' g) (hb : Below B w0 w) (hg : B ≤ g) : Below B w0 w' :=
  ⟨h.os.trans hb.os, h.tape.trans hb.tape, h.output.trans hb.output, by rw [h.size]; exact hb.size, fun k hk => (h.block k (by omega)).trans (hb.block k hk)⟩
theorem Fr.refl (w : World) (g : Nat) : Fr w w g := ⟨rfl, rfl, rfl, rfl, fun _ _ => rfl⟩
theorem Fr.drew (w : World) (n g : Nat) : Fr w (w.drewN n) g := ⟨rfl, rfl, rfl, rfl, fun _ _ => rfl⟩
theorem Fr.drew1 (w : World) (g : Nat) : Fr w w.drew g := ⟨rfl, rfl, rfl, rfl, fun _ _ => rfl⟩
theorem Fr.trans {w2 : World} (h : Fr w w' g) (k : Fr w' w2 g) : Fr w w2 g :=
  ⟨k.os.trans h.os, k.tape.trans h.tape, k.output.trans h.output, k.size.trans h.size, fun i hi => (k.block i hi).trans (h.block i hi)⟩
theorem Fr.setCell (w : World) (g t : Nat) (v : Value) : Fr w (w.setCell ⟨g, t, none⟩ v) g :=
  ⟨rfl, rfl, rfl, by simp [World.setCell], fun k hk => Go.Deep.blk_setCell_other w ⟨g, t, none⟩ _ k hk⟩
theorem Tb.lt (h : Tb w g r s f) : g < w.heap.size := (Array.getElem?_eq_some_iff.1 h).1
theorem Tb.cell (h : Tb w g r s f) (t : Nat) (ht : t < 18) : w.cell? ⟨g, t, none⟩ = some (.int .i64 (tf r s f t)) := by
  unfold Tb at h; simp [World.cell?, h, TC_at _ t ht]
theorem Tb.c0 (h : Tb w g r s f) : w.cell? ⟨g, 0, none⟩ = some (.int .i64 r) := h.cell 0 (by omega)
theorem Tb.c1 (h : Tb w g r s f) : w.cell? ⟨g, 1, none⟩ = some (.int .i64 s) := h.cell 1 (by omega)
theorem Tb.c (h : Tb w g r s f) (k : Nat) (hk : k < 16) : w.cell? ⟨g, 2 + k, none⟩ = some (.int .i64 (f k)) := by
  rw [h.cell (2 + k) (by omega)]
  unfold tf
  rw [if_neg (by omega), if_neg (by omega), show 2 + k - 2 = k by omega]
theorem Tb.fz (h : Tb w g r s f) (t : Nat) : w.frozen? ⟨g, t, none⟩ = false := by unfold Tb at h; simp [World.frozen?, h]
theorem Tb.set (h : Tb w g r s f) (k : Nat) (z : Int) : Tb (w.setCell ⟨g, 2 + k, none⟩ (.int .i64 z)) g r s (fset f k z) := by
  unfold Tb at h ⊢
  simp [World.setCell, h, Array.getElem?_modify, TC_set, tf_set]
theorem Tb.on {g' : Nat} (h : Tb w g r s f) (k : Fr w w' g') (hne : g ≠ g') : Tb w' g r s f := (k.block g hne).trans h
theorem Tb.below (h : Tb w g r s f) (hb : Below w.heap.size w w') : Tb w' g r s f := (hb.block g h.lt).trans h
theorem Tb.congr {f' : Nat → Int} (h : Tb w g r s f) (e : ∀ k, k < 16 → f k = f' k) : Tb w g r s f' := by
  unfold Tb at h ⊢
  rw [h]
  congr 2
  unfold TC
  congr 1
  apply List.map_congr_left
  intro t ht
  have ht' : t < 18 := by simpa using ht
  unfold tf
  by_cases h0 : t = 0
  · rw [if_pos h0, if_pos h0]
  · by_cases h1 : t = 1
    · rw [if_neg h0, if_neg h0, if_pos h1, if_pos h1]
    · rw [if_neg h0, if_neg h0, if_neg h1, if_neg h1, e _ (by omega)]
theorem tb_new (w : World) (r s : Int) : Tb (w.alloc (.cells (TC (tf r s fun _ => 0)) 60)) w.heap.size r s (fun _ => 0) := by unfold Tb; rw [heap_alloc_new]
end Go.Proofs.Ytikpjlbchnpmmaa
