/- A step of a script, loaded whole. -/
import Derived.Test.YtnlklhjmhienkaaGreatDoorOps
import Derived.Lib.QuietBelow
import Derived.Deep.RegionWith
import Derived.Laws.Cells
import Derived.WalkKit
import Derived.WalkSpells
import Derived.Deep.QuietTactic
import Derived.BigQuiet
namespace Go.Proofs.YtnlklhjmhienkaaGreatDoor
open Go.RowKit

theorem hide {p : Prop} (h : p) : Hid p := h
/-- a step, loaded whole -/
def load35 (v : Value) : Sem Value := Instr.loadAt 27 v
theorem load35_eq (v : Value) : Instr.loadAt 27 v = load35 v := rfl
theorem size35 : (Tryz.prog.info? 27).map (·.size) = some 5 := by kernel_rfl
theorem run_load35 (w : World) (p : Addr) (i : Nat) (o : Step) (S : StepAt w p i o) : (load35 (.pointer (some (p.add (i * 5))))).run Tryz.prog w = .ok (.agg #[.int .i64 o.kind, .string o.a, .string o.b, .int .i64 o.n, .slice o.lp o.ll o.lc]) w := by
  have hl := run_loadCells_list (P := Tryz.prog) (w := w) (p.add (i * 5)) [.int .i64 o.kind, .string o.a, .string o.b, .int .i64 o.n, .slice o.lp o.ll o.lc] (fun j v hv => by
    rw [add_add]
    match j, hv with
    | 0, hv => cases hv; exact S.c0
    | 1, hv => cases hv; exact S.c1
    | 2, hv => cases hv; exact S.c2
    | 3, hv => cases hv; exact S.c3
    | 4, hv => cases hv; exact S.c4
    | j + 5, hv => simp at hv)
  unfold load35
  cases hq : Tryz.prog.info? 27 with
  | none => have := size35; simp [hq] at this
  | some x =>
    have hs : x.size = 5 := by have := size35; simpa [hq] using this
    have hagg : (isAgg 27).run Tryz.prog w = .ok true w := by
      unfold isAgg
      rw [Sem.run_bind, run_underlying Tryz.underlying27 w]
      rfl
    simp [Instr.loadAt, Instr.sureAddr, loadVar, Sem.run_bind, hagg, sizeOf, typeInfo, hq, hs]
    simp at hl
    simp [hl]
attribute [local go_sem ↓] load35_eq
theorem below_on2 {a b c : World} (h1 : Below a.heap.size a b) (h2 : Below b.heap.size b c) : Below a.heap.size a c := h1.trans (h2.mono h1.size)
theorem StepAt.on {w w' : World} {p : Addr} {i : Nat} {o : Step} (S : StepAt w p i o) (hb : Below w.heap.size w w') : StepAt w' p i o := by
  have hlt : ∀ m, (p.add m).block = p.block := fun m => by unfold Addr.add; split <;> rfl
  have h0 := World.block_lt_of_cell? _ _ S.c0
  rw [hlt] at h0
  exact ⟨by rw [hb.cell (by rw [hlt]; exact h0)]; exact S.c0, by rw [hb.cell (by rw [hlt]; exact h0)]; exact S.c1, by rw [hb.cell (by rw [hlt]; exact h0)]; exact S.c2, by rw [hb.cell (by rw [hlt]; exact h0)]; exact S.c3, by rw [hb.cell (by rw [hlt]; exact h0)]; exact S.c4, S.ha, S.hb, S.hk, S.hn, by
    obtain ⟨Z, h1, h2, h3⟩ := S.hL
    exact ⟨Z, h1, h2, fun q hq t ht => by have := h3 q hq t ht; rw [hb.cell (World.block_lt_of_cell? _ _ this)]; exact this⟩⟩

end Go.Proofs.YtnlklhjmhienkaaGreatDoor
