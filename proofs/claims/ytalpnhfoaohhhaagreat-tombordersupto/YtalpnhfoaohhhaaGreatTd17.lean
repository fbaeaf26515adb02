/- PSd ONa OBs -/
import Derived.Test.YtalpnhfoaohhhaaGreatTd16
import Derived.Test.YtalpnhfoaohhhaaGreatTd13
import Derived.Test.YtalpnhfoaohhhaaGreatTd10
import Derived.Lib.BufferMore
import Derived.Test.YtalpnhfoaohhhaaGreatTd00
import Derived.Deep.CutRange
set_option maxHeartbeats 800000
namespace Go.Proofs.YtalpnhfoaohhhaaGreat
section
open Go.RowKit Go.Sort

def or2 (a b : Int) : Int := if a = 0 then b else a
theorem or2_any (g : Nat) (a b : Int) (w : World) (c0 : w.cell? ⟨g, 0, none⟩ = some (.int .i64 a)) (c1 : w.cell? ⟨g, 1, none⟩ = some (.int .i64 b)) :
  Calls Tryz.prog 58 #[.slice (some ⟨g, 0, none⟩) 2 2] w fun e w' => e = .returned (.int .i64 (or2 a b)) /\ w' = w := by
 go_enter Tryz.func58, Tryz.ntmps58
 go_wp2
 go_loop [8] (fun i => ∃ k : Nat, k <= 2 /\ i = .int .i64 k /\ Hid (0 < k -> a = 0) /\ Hid (1 < k -> b = 0)) (fun i => 2 - (intOf i).toNat)
 case atStart => exact ⟨0, Nat.zero_le _, rfl, fun h => absurd h (by omega), fun h => absurd h (by omega)⟩
 case round =>
  obtain ⟨k, hk, rfl, Ha, Hb⟩ := hrel
  by_cases hlt : k < 2
  ·obtain ⟨z, hcell, Hz⟩ : ∃ z, w.cell? ⟨g, k, none⟩ = some (.int .i64 z) /\ Hid (or2 a b = if z = 0 /\ k = 0 then b else z) := by
    match k, hlt, Ha with
    | 0, _, _ => exact ⟨a, c0, by show _ = _; unfold or2; by_cases h : a = 0 <;> simp [h]⟩
    | 1, _, Ha => exact ⟨b, c1, by show _ = _; unfold or2; rw [if_pos (Ha.out (by omega))]; simp⟩
   have Hz0 : Hid (z = 0 -> (k = 0 -> a = 0) /\ (k = 1 -> b = 0)) := by
    intro hz
    constructor
    ·intro h; subst h; rw [c0] at hcell; simpa [hz] using hcell
    ·intro h; subst h; rw [c1] at hcell; simpa [hz] using hcell
   clear c0 c1
   by_cases h0 : z = 0
   ·have hA := (Hz0.out h0).1
    have hB := (Hz0.out h0).2
    have HA : Hid (0 < k + 1 -> a = 0) := by intro _; by_cases hk0 : k = 0; exact hA hk0; exact Ha.out (by omega)
    have HB : Hid (1 < k + 1 -> b = 0) := by intro _; exact hB (by omega)
    have h0' : (z != 0) = false := by simpa using h0
    clear h0 hA hB
    go_wp2
    go_round
    case rel => exact ⟨k + 1, by omega, by go_num, HA, HB⟩
    case measure => simp [intOf]; omega
   ·have h0' : (z != 0) = true := by simpa using h0
    have HF : Hid (or2 a b = z) := by show _ = _; rw [Hz.out, if_neg (by simp [h0])]
    clear h0
    go_wp2
    go_ret
    exact ⟨ret_int HF.out.symm, rfl⟩
  ·have HF : Hid (or2 a b = 0) := by show _ = _; unfold or2; rw [if_pos (Ha.out (by omega))]; exact Hb.out (by omega)
   clear c0 c1
   go_wp2
   go_ret
   exact ⟨ret_int HF.out.symm, rfl⟩
def byD (x y : Rn) : Int := or2 (cmpI x.lo y.lo) (cmpI x.hi y.hi)
def aheadD (x y : Rn) : Bool := decide (x.lo < y.lo) || (x.lo == y.lo && decide (x.hi < y.hi))
structure TwoD (w W : World) (x y : Rn) : Prop where
 below : Below w.heap.size w W
 size : w.heap.size + 2 <= W.heap.size
 a0 : W.cell? ⟨w.heap.size, 0, none⟩ = some (.int .i64 x.lo)
 a1 : W.cell? ⟨w.heap.size, 1, none⟩ = some (.int .i64 x.hi)
 b0 : W.cell? ⟨w.heap.size + 1, 0, none⟩ = some (.int .i64 y.lo)
 b1 : W.cell? ⟨w.heap.size + 1, 1, none⟩ = some (.int .i64 y.hi)
theorem TwoD.on {w W W' : World} {x y : Rn} (h : TwoD w W x y) (hb : Below W.heap.size W W') : TwoD w W' x y :=
 ⟨h.below.trans (hb.mono h.below.size), Nat.le_trans h.size hb.size, (hb.cell (World.block_lt_of_cell? _ _ h.a0)).trans h.a0, (hb.cell (World.block_lt_of_cell? _ _ h.a1)).trans h.a1, (hb.cell (World.block_lt_of_cell? _ _ h.b0)).trans h.b0, (hb.cell (World.block_lt_of_cell? _ _ h.b1)).trans h.b1⟩
theorem or2_new (a b : Int) (w : World) (g : Nat) (hg : w.heap.size = g) : Calls Tryz.prog 58 #[.slice (some ⟨g, 0, none⟩) 2 2] (w.alloc (.cells #[.int .i64 a, .int .i64 b] 3)) fun e w' => e = .returned (.int .i64 (or2 a b)) /\ w' = w.alloc (.cells #[.int .i64 a, .int .i64 b] 3) := by
 subst hg
 exact or2_any w.heap.size a b _ (by simp) (by simp)
end
section
open Go.RowKit

def nrC (s : Sn) (d : Rn) : Int := or2 (cmpI s.rep d.lo) (cmpI s.hi d.hi)
end
section
open Go.RowKit
attribute [local go_sem ↓] ldS_eq stS_eq ldD_eq stD_eq
attribute [local go_sem] zero_SC cells_SV SC_size
variable {w w' w2 W W' : World} {g : Nat}

def FirstAt (L : List Sn) (d : Rn) (n i : Nat) : Prop := i <= n /\ (∀ j, j < i -> nrC (L.getD j sn0) d < 0) /\ (i < n -> 0 <= nrC (L.getD i sn0) d)
def BsA (w w' : World) (e : Ending) (L : List Sn) (d : Rn) (n : Nat) : Prop := ∃ (i : Nat) (b : Bool), e = .returned (.tuple #[.int .i64 (i : Int), .bool b]) /\ FirstAt L d n i /\ Below w.heap.size w w'
end
end Go.Proofs.YtalpnhfoaohhhaaGreat
