/- The law's case as a variable. -/
import Derived.Test.YtdbkebcniicojaaPKa
namespace Go.Proofs.Ytdbkebcniicojaa
open Go.RowKit

def CasC (a b c : Pv) (dv : Value) (rp ms : Int) : Array Value := #[.slice a.vo a.vn a.vc, .slice a.co a.cn a.cc, .slice b.vo b.vn b.vc, .slice b.co b.cn b.cc, .slice c.vo c.vn c.vc, .slice c.co c.cn c.cc, dv, .int .i64 rp, .int .i64 ms]
abbrev CasV (a b c : Pv) (dv : Value) (rp ms : Int) : Value := .agg (CasC a b c dv rp ms)
theorem cells_CasV (a b c : Pv) (dv : Value) (rp ms : Int) : (CasV a b c dv rp ms).cells = CasC a b c dv rp ms := by simp [Value.cells]
/-- the block g is a variable that holds the case -/
def CBox (w : World) (g : Nat) (C : Array Value) : Prop := w.heap[g]? = some (.cells C 28 (0, 0))
theorem CBox.lt {w : World} {g : Nat} {C : Array Value} (h : CBox w g C) : g < w.heap.size := (Array.getElem?_eq_some_iff.1 h).1
theorem CBox.below {w w' : World} {g : Nat} {C : Array Value} (h : CBox w g C) (hb : Below w.heap.size w w') : CBox w' g C := (hb.block g h.lt).trans h
theorem CBox.cell {w : World} {g : Nat} {C : Array Value} (h : CBox w g C) (i : Nat) : w.cell? ⟨g, i, none⟩ = C[i]? := by unfold CBox at h; simp [World.cell?, h]
theorem cbox_new (w : World) (C : Array Value) : CBox (w.alloc (.cells C 28)) w.heap.size C := by unfold CBox; rw [heap_alloc_new]
section
variable {W : World} {g : Nat} {a b c : Pv} {dv : Value} {rp ms : Int}
theorem CBox.pa (h : CBox W g (CasC a b c dv rp ms)) : PAt W ⟨g, 0, none⟩ a := ⟨h.cell 0, h.cell 1⟩
theorem CBox.pb (h : CBox W g (CasC a b c dv rp ms)) : PAt W ⟨g, 2, none⟩ b := ⟨h.cell 2, h.cell 3⟩
theorem CBox.pc (h : CBox W g (CasC a b c dv rp ms)) : PAt W ⟨g, 4, none⟩ c := ⟨h.cell 4, h.cell 5⟩
end
end Go.Proofs.Ytdbkebcniicojaa
