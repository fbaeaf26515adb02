/- A log in memory: its box, its row of numbers. -/
import Derived.Test.YtgnclfeicgbjpaaRows
import Derived.WalkKit
import Derived.WalkSpells
import Derived.Deep.QuietTactic
import Derived.BigQuiet
import Derived.Deep.RegionHeld
import Derived.Lib.QuietBelow
import Derived.Laws.Cells
import Derived.Laws.Tables
import Derived.Laws.CopyOwn
import Derived.Lib.OthersKept
import Derived.Maps.AppendAt
import Derived.Sort.Row
import Derived.Deep.Heap
namespace Go.Proofs.Ytgnclfeicgbjpaa
open Go.RowKit

abbrev ptr (g : Nat) : Value := .pointer (some ⟨g, 0, none⟩)
theorem w64 {x : Int} (h1 : -9223372036854775808 ≤ x) (h2 : x ≤ 9223372036854775807) : wrap64 x = x := by unfold wrap64; omega
theorem below_drewN (w : World) (n : Nat) : Below w.heap.size w (w.drewN n) := ⟨rfl, rfl, rfl, Nat.le_refl _, fun _ _ => rfl⟩
theorem hide {p : Prop} (h : p) : Hid p := h
theorem ret_bool {a b : Bool} (h : a = b) : Ending.returned (.bool a) = .returned (.bool b) := by rw [h]
theorem ret_int {k : IntKind} {a b : Int} (h : a = b) : Ending.returned (.int k a) = .returned (.int k b) := by rw [h]
theorem below_new (w : World) (o : Obj) : Below w.heap.size w (w.alloc o) := (Below.refl _ _).alloc (Nat.le_refl _) _
theorem below_drew1 (w : World) : Below w.heap.size w w.drew := ⟨rfl, rfl, rfl, Nat.le_refl _, fun _ _ => rfl⟩
def ics (L : List Int) : List Value := L.map (Value.int .i64)
theorem ics_append (L M : List Int) : ics (L ++ M) = ics L ++ ics M := by simp [ics]
theorem ics_length (L : List Int) : (ics L).length = L.length := by simp [ics]
theorem ics_one (L : List Int) : ∀ u ∈ ics L, u.oneCell' = true := by
  intro u hu
  obtain ⟨z, _, rfl⟩ := List.mem_map.1 hu
  rfl
theorem ics_at (L : List Int) (t : Nat) (ht : t < L.length) : (ics L)[t]? = some (.int .i64 (L.getD t 0)) := by
  simp [ics, ht, List.getD]
/-- the cells of a log -/
def GC (m nx : Int) (ao : Option Addr) (n cap : Nat) : Array Value := #[.int .i64 m, .int .i64 nx, .slice ao n cap]
/-- the log at g: how many it may hold, the next number, what it holds; its row lies in blocks from B on -/
structure Lg (B : Nat) (w : World) (g : Nat) (m nx : Int) (Z : List Int) (ao : Option Addr) (cap : Nat) : Prop where
  box : w.heap[g]? = some (.cells (GC m nx ao Z.length cap) 47 (0, 0))
  hg : B ≤ g
  own : w.ownsRow B 3 1 (.slice ao Z.length cap) Z.length (ics Z)
  off : ∀ ad, ao = some ad → ad.block ≠ g
/-- what a call on the log leaves: all other blocks -/
structure Kp (w w' : World) (g : Nat) (ao : Option Addr) : Prop where
  os : w'.os = w.os
  tape : w'.tape = w.tape
  output : w'.output = w.output
  size : w.heap.size ≤ w'.heap.size
  block : ∀ k, k < w.heap.size → k ≠ g → (∀ ad, ao = some ad → ad.block ≠ k) → w'.heap[k]? = w.heap[k]?
variable {B : Nat} {w w' : World} {g : Nat} {m nx : Int} {Z : List Int} {ao : Option Addr} {cap : Nat}
theorem Lg.lt (h : Lg B w g m nx Z ao cap) : g < w.heap.size := (Array.getElem?_eq_some_iff.1 h.box).1
theorem Lg.row (h : Lg B w g m nx Z ao cap) : ∀ ad, ao = some ad → B ≤ ad.block ∧ ad.block < w.heap.size := fun ad e => h.own.lt ad.block (by rw [e]; rfl)
theorem Lg.c0 (h : Lg B w g m nx Z ao cap) : w.cell? ⟨g, 0, none⟩ = some (.int .i64 m) := by simp [World.cell?, h.box, GC]
theorem Lg.c1 (h : Lg B w g m nx Z ao cap) : w.cell? ⟨g, 1, none⟩ = some (.int .i64 nx) := by simp [World.cell?, h.box, GC]
theorem Lg.c2 (h : Lg B w g m nx Z ao cap) : w.cell? ⟨g, 2, none⟩ = some (.slice ao Z.length cap) := by simp [World.cell?, h.box, GC]
theorem Lg.f (h : Lg B w g m nx Z ao cap) (t : Nat) : w.frozen? ⟨g, t, none⟩ = false := by simp [World.frozen?, h.box]
theorem own_on {C : Nat} {L : List Int} {bo : Option Addr} {c : Nat} (h : w.ownsRow C 3 1 (.slice bo L.length c) L.length (ics L)) (hk : ∀ ad, bo = some ad → w'.heap[ad.block]? = w.heap[ad.block]?) : w'.ownsRow C 3 1 (.slice bo L.length c) L.length (ics L) := by
  refine ⟨h.1, ?_⟩
  rcases h.2 with h | ⟨q, cap2, cur, hv, hbg, hgg, r⟩
  · exact Or.inl h
  · refine Or.inr ⟨q, cap2, cur, hv, hbg, ?_, r⟩
    simp only [Value.slice.injEq] at hv
    rw [hk _ hv.1]
    exact hgg
/-- the log stands where its two blocks do -/
theorem Lg.on (h : Lg B w g m nx Z ao cap) (h1 : w'.heap[g]? = w.heap[g]?) (h2 : ∀ ad, ao = some ad → w'.heap[ad.block]? = w.heap[ad.block]?) : Lg B w' g m nx Z ao cap :=
  ⟨h1.trans h.box, h.hg, own_on h.own h2, h.off⟩
theorem Lg.below (h : Lg B w g m nx Z ao cap) (hb : Below w.heap.size w w') : Lg B w' g m nx Z ao cap :=
  h.on (hb.block g h.lt) (fun ad e => hb.block _ (h.row ad e).2)
theorem Kp.refl (w : World) (g : Nat) (ao : Option Addr) : Kp w w g ao := ⟨rfl, rfl, rfl, Nat.le_refl _, fun _ _ _ _ => rfl⟩
theorem Kp.of (hb : Below w.heap.size w w') : Kp w w' g ao := ⟨hb.os, hb.tape, hb.output, hb.size, fun k hk _ _ => hb.block k hk⟩
theorem Kp.trans {w2 : World} {bo : Option Addr} (h : Kp w w' g ao) (k : Kp w' w2 g bo) (hb : ∀ ad, bo = some ad → (∃ ad', ao = some ad' ∧ ad'.block = ad.block) ∨ w.heap.size ≤ ad.block) : Kp w w2 g ao :=
  ⟨k.os.trans h.os, k.tape.trans h.tape, k.output.trans h.output, Nat.le_trans h.size k.size, fun i hi h1 h2 => (k.block i (Nat.lt_of_lt_of_le hi h.size) h1 (fun ad e he => by
    rcases hb ad e with ⟨ad', e', he'⟩ | hl
    · exact h2 ad' e' (he'.trans he)
    · omega)).trans (h.block i hi h1 h2)⟩
theorem Kp.below {w0 : World} (h : Kp w w' g ao) (hb : Below B w0 w) (h1 : B ≤ g) (h2 : ∀ ad, ao = some ad → B ≤ ad.block) (hs : B ≤ w.heap.size) : Below B w0 w' :=
  ⟨h.os.trans hb.os, h.tape.trans hb.tape, h.output.trans hb.output, Nat.le_trans hb.size h.size, fun k hk => (h.block k (by omega) (by omega) (fun ad e he => by have := h2 ad e; omega)).trans (hb.block k hk)⟩
/-- a number is stored into the log -/
theorem Lg.set1 (h : Lg B w g m nx Z ao cap) (z : Int) : Lg B (w.setCell ⟨g, 1, none⟩ (.int .i64 z)) g m z Z ao cap ∧ Kp w (w.setCell ⟨g, 1, none⟩ (.int .i64 z)) g ao := by
  have e : ∀ k, k ≠ g → (w.setCell ⟨g, 1, none⟩ (.int .i64 z)).heap[k]? = w.heap[k]? := fun k hk => Go.Deep.blk_setCell_other w ⟨g, 1, none⟩ _ k hk
  refine ⟨⟨?_, h.hg, own_on h.own (fun ad e2 => e _ (h.off ad e2)), h.off⟩, ⟨rfl, rfl, rfl, by simp, fun k _ h1 _ => e k h1⟩⟩
  simp [World.setCell, h.box, Array.getElem?_modify, GC]
theorem Lg.set2 {n : Nat} (hx : w.heap[g]? = some (.cells (GC m nx ao n cap) 47 (0, 0))) (hg : B ≤ g) {Y : List Int} {bo : Option Addr} {c : Nat} (ho : w.ownsRow B 3 1 (.slice bo Y.length c) Y.length (ics Y)) (hf : ∀ ad, bo = some ad → ad.block ≠ g) :
    Lg B (w.setCell ⟨g, 2, none⟩ (.slice bo Y.length c)) g m nx Y bo c ∧ Kp w (w.setCell ⟨g, 2, none⟩ (.slice bo Y.length c)) g ao := by
  have e : ∀ k, k ≠ g → (w.setCell ⟨g, 2, none⟩ (.slice bo Y.length c)).heap[k]? = w.heap[k]? := fun k hk => Go.Deep.blk_setCell_other w ⟨g, 2, none⟩ _ k hk
  refine ⟨⟨?_, hg, own_on ho (fun ad e2 => e _ (hf ad e2)), hf⟩, ⟨rfl, rfl, rfl, by simp, fun k _ h1 _ => e k h1⟩⟩
  simp [World.setCell, hx, Array.getElem?_modify, GC]
end Go.Proofs.Ytgnclfeicgbjpaa
