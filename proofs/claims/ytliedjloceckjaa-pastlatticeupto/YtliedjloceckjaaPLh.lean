/- PastLattice: the law's walk. -/
import Derived.Test.YtliedjloceckjaaPLp
namespace Go.Proofs.Ytliedjloceckjaa
open Go.RowKit

def CaseC (a b c : Pv) (dv : Value) (rp ms : Int) : Array Value := #[.slice a.vo a.vn a.vc, .slice a.co a.cn a.cc, .slice b.vo b.vn b.vc, .slice b.co b.cn b.cc, .slice c.vo c.vn c.vc, .slice c.co c.cn c.cc, dv, .int .i64 rp, .int .i64 ms]
abbrev CaseV (a b c : Pv) (dv : Value) (rp ms : Int) : Value := .agg (CaseC a b c dv rp ms)
theorem cells_CaseV (a b c : Pv) (dv : Value) (rp ms : Int) : (CaseV a b c dv rp ms).cells = CaseC a b c dv rp ms := by simp [Value.cells]
theorem case_at (w : World) (a b c : Pv) (dv : Value) (rp ms : Int) : PAt (w.alloc (.cells (CaseC a b c dv rp ms) 28)) ⟨w.heap.size, 0, none⟩ a ∧ PAt (w.alloc (.cells (CaseC a b c dv rp ms) 28)) ⟨w.heap.size, 2, none⟩ b ∧ PAt (w.alloc (.cells (CaseC a b c dv rp ms) 28)) ⟨w.heap.size, 4, none⟩ c := by
  refine ⟨⟨?_, ?_⟩, ⟨?_, ?_⟩, ⟨?_, ?_⟩⟩ <;> simp [Addr.add, CaseC]
theorem part_iff {A B P Q : Prop} (h : P ↔ A ∧ B) (h' : Q ↔ A ∧ ¬ B) : P ∨ Q ↔ A := by
  rw [h, h']
  by_cases hb : B <;> simp [hb]
theorem four1 {A B J M : Prop} (hj : J ↔ A ∨ B) (hm : M ↔ A ∧ B) : (J ∨ M ↔ A ∨ B) ∧ (J ∧ M ↔ A ∧ B) := by
  rw [hj, hm]
  by_cases ha : A <;> by_cases hb : B <;> simp [ha, hb]
theorem four2 {A B D M : Prop} (hd : D ↔ A ∧ ¬ B) (hm : M ↔ A ∧ B) : (D ∨ M ↔ A ∨ False) ∧ (D ∧ M ↔ A ∧ False) := by
  rw [hd, hm]
  by_cases ha : A <;> by_cases hb : B <;> simp [ha, hb]
def BIff (x : Bool) (P : Prop) : Prop := x = true ↔ P
theorem BIff.out {x : Bool} {P : Prop} (h : BIff x P) : x = true ↔ P := h
theorem eqv_iff {A B : Nat → List Rn} {x y : Bool} (hx : x = true ↔ ∀ r, r < 16 → ∀ n, mem (A r) n → mem (B r) n) (hy : y = true ↔ ∀ r, r < 16 → ∀ n, mem (B r) n → mem (A r) n) : Eqv (fun r n => mem (A r) n) (fun r n => mem (B r) n) ↔ (x && y) = true := by
  rw [Bool.and_eq_true, hx, hy]
  exact ⟨fun h => ⟨fun r hr n => (h r hr n).1, fun r hr n => (h r hr n).2⟩, fun h r hr n => ⟨h.1 r hr n, h.2 r hr n⟩⟩
end Go.Proofs.Ytliedjloceckjaa
