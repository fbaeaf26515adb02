/- Union: its contract. -/
import Derived.Test.YthehbnfkobkciaaRCt
import Derived.Test.YthehbnfkobkciaaROs
namespace Go.Proofs.Ythehbnfkobkciaa
open Go.RowKit
attribute [local go_sem ↓] ldR_eq stR_eq
attribute [local go_sem] zero_RC cells_RV RC_size fold_RC build_RC

def UnionOf (A B R : List Rn) : Prop := form 1 R ∧ ∀ n, mem R n ↔ mem A n ∨ mem B n
theorem union_any (gb : Nat) (ao bo : Option Addr) (n cap m cap' : Nat) (A B : List Rn) (w : World) (hS : RSrc w ao n cap A) (hR : RSrc w bo m cap' B) (c0 : w.cell? ⟨gb, 0, none⟩ = some (.slice ao n cap)) (c1 : w.cell? ⟨gb, 1, none⟩ = some (.slice bo m cap')) (hlen : n + m ≤ 8796093022207) :
    Calls Try.prog 5 #[.slice (some ⟨gb, 0, none⟩) 2 2] w fun e w' => GivesR w w' e (UnionOf A B) := by
  have HC := hide (concat_any gb ao bo n cap m cap' A B w hS hR c0 c1 hlen)
  have HL : Hid ((A ++ B).length = n + m) := by show _ = _; rw [List.length_append, hS.len, hR.len]
  clear hS hR c0 c1
  go_enter Try.func5, Try.ntmps5
  go_wp2_with fail
  refine HC.out.mono ?_
  rintro e w1 ⟨a1, c1, rfl, O1⟩
  have S1 := (O1.src (by rw [HL.out]; exact hlen)).1
  rw [HL.out] at S1
  have HS1 := hide S1
  have HB1 := hide O1.below
  clear O1 S1
  go_wp2_with fail
  refine (norm_any a1 (n + m) c1 (A ++ B) _ HS1.out).mono ?_
  rintro e w2 ⟨a2, n2, c2, X, rfl, S2, b2, p2⟩
  have HF : Hid (GivesR w w2 (.returned (.slice a2 n2 c2)) (UnionOf A B)) := ⟨a2, n2, c2, X, rfl, S2, HB1.out.trans (b2.mono HB1.out.size), p2.1, fun x => by rw [p2.2 x, mem_append]⟩
  clear S2 b2 p2
  go_wp2_with fail
  go_ret
  exact HF.out
end Go.Proofs.Ythehbnfkobkciaa
