/- A page: a strings.Builder that lies in a struct of its own; its writers and its text. -/
import Derived.Test.YtheiblagjeekjaaDoorTeR
import Derived.Shelf.RegionOpenPlain
import Derived.Lib.Builder
import Derived.Lib.AppendStr
import Derived.Lib.UnsafeStr
import Derived.Lib.FrozenHead2
import Derived.Lib.OthersKept
import Derived.Laws.Externs
namespace Go.Proofs.YtheiblagjeekjaaDoor
open Go.RowKit

/-- all below a block stays, and above it all but the page and rows of bytes -/
structure Kp (B b : Nat) (w w' : World) : Prop where
  below : Below B w w'
  others : Lib.OthersKept 5 (some b) w w'
theorem Kp.refl (B b : Nat) (w : World) : Kp B b w w := ⟨Below.refl _ _, Lib.OthersKept.refl _ _ _⟩
theorem Kp.trans {B b : Nat} {w w' w2 : World} (h : Kp B b w w') (k : Kp B b w' w2) : Kp B b w w2 := ⟨h.below.trans k.below, h.others.trans k.others⟩
theorem Kp.new {B b : Nat} {w w' : World} (h : Kp B b w w') (hB : B ≤ w'.heap.size) (o : Obj) : Kp B b w (w'.alloc o) := ⟨h.below.alloc hB _, h.others.alloc _⟩
theorem Kp.size {B b : Nat} {w w' : World} (h : Kp B b w w') : w.heap.size ≤ w'.heap.size := h.below.size
/-- a page that is written, holding these bytes -/
abbrev Pu (B b : Nat) (l : List UInt8) (w : World) : Prop := Lib.BuilderAtF 40 5 B b (.pointer (some ⟨b, 0, none⟩)) (Lib.byteCells l) w
/-- a page that holds these bytes -/
structure Pg (B b : Nat) (l : List UInt8) (w : World) : Prop where
  is : Lib.IsBuilderF 40 5 B b (Lib.byteCells l) w
theorem Pg.new {B b : Nat} {l : List UInt8} {w : World} (h : Pg B b l w) (o : Obj) : Pg B b l (w.alloc o) := ⟨h.is.alloc o⟩
theorem Pu.pg {B b : Nat} {l : List UInt8} {w : World} (h : Pu B b l w) : Pg B b l w := ⟨.inr h⟩
theorem infoB : ∃ j, Tryd.prog.info? 38 = some j ∧ j.size = 2 := by
  have h : (Tryd.prog.info? 38).map (·.size) = some 2 := by kernel_rfl
  exact Option.map_eq_some_iff.1 h
theorem liesP : liesAt Tryd.prog Tryd.prog.depth 40 (2 / Tryd.prog.cellsOf 40) 0 38 1 = true := by kernel_rfl
theorem infoU : (Tryd.prog.info? 5).map (fun i => (i.zero, i.size, i.bytes)) = some (some (.int .u8 0), 1, 1) := by kernel_rfl

set_option maxHeartbeats 1000000 in
set_option maxRecDepth 100000 in
theorem check_used (b : Nat) (w : World) (h0 : w.cell? ⟨b, 0, none⟩ = some (.pointer (some ⟨b, 0, none⟩))) :
    Calls Tryd.prog 27 #[.pointer (some ⟨b, 0, none⟩)] w fun e w' => e = .returned (.tuple #[]) ∧ w' = w := by
  obtain ⟨j, hj, _⟩ := infoB
  go_enter Tryd.func27, Tryd.ntmps27
  go_wp2
  rw [Lib.run_neq_ptr_same w _ Tryd.underlying35 hj]
  go_wp2
  go_end0
  exact ⟨rfl, rfl⟩
set_option maxHeartbeats 1000000 in
set_option maxRecDepth 100000 in
theorem check_new (b : Nat) (w : World) (h0 : w.cell? ⟨b, 0, none⟩ = some (.pointer none)) (hsh : w.shape? b = some (40, 2)) (hfz : w.frozen? ⟨b, 0, none⟩ = false) :
    Calls Tryd.prog 27 #[.pointer (some ⟨b, 0, none⟩)] w fun e w' => e = .returned (.tuple #[]) ∧ w' = w.setCell ⟨b, 0, none⟩ (.pointer (some ⟨b, 0, none⟩)) := by
  obtain ⟨j, hj, hjs⟩ := infoB
  go_enter Tryd.func27, Tryd.ntmps27
  go_wp2
  rw [Lib.run_to_unsafe w ⟨b, 0, none⟩ Tryd.underlying35 Tryd.underlying68 hj (by rw [hjs]; decide) hsh (Nat.zero_lt_succ 1)]
  simp only [Result.andThen]
  rw [Oper.upon_value]
  go_wp2
  rw [run_callFunc_extern Tryd.func33 (by kernel_rfl) (by kernel_rfl) (by kernel_rfl) (e := Extern.AbiNoEscape.same) (by kernel_rfl)]
  rw [Lib.run_noEscape]
  simp only [Result.andThen]
  rw [Oper.upon_value]
  go_wp2
  rw [Lib.run_from_unsafe w ⟨b, 0, none⟩ Tryd.underlying68 Tryd.underlying35 hj hsh liesP]
  simp only [Result.andThen]
  rw [Oper.upon_value]
  go_wp2
  go_end0
  exact ⟨rfl, rfl⟩
theorem check_any (B b : Nat) (l : List UInt8) (w : World) (h : Pg B b l w) :
    Calls Tryd.prog 27 #[.pointer (some ⟨b, 0, none⟩)] w fun e w' => e = .returned (.tuple #[]) ∧ Pu B b l w' ∧ Kp B b w w' := by
  rcases h.is with h | h
  · refine (check_new b w h.cell0 h.shape h.frozen0).mono ?_
    rintro e w' ⟨rfl, rfl⟩
    exact ⟨rfl, h.used _, (Below.refl B w).setCell (p := ⟨b, 0, none⟩) h.1 _, (Lib.OthersKept.refl 5 (some b) w).setCell ⟨b, 0, none⟩ rfl _⟩
  · refine (check_used b w h.cell0).mono ?_
    rintro e w' ⟨rfl, rfl⟩
    exact ⟨rfl, h, Kp.refl _ _ _⟩
end Go.Proofs.YtheiblagjeekjaaDoor
