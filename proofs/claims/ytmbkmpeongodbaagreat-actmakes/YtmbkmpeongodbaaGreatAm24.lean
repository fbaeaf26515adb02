/- PPx PMm -/
import Derived.Test.YtmbkmpeongodbaaGreatAm23
import Derived.Deep.RegionHeld3
namespace Go.Proofs.YtmbkmpeongodbaaGreat
open Go.RowKit
attribute [local go_sem ↓] ldP_eq stP_eq ldA_eq stA_eq
attribute [local go_sem] zeros_SA cells_SAv zero_PC cells_PV fold_PC PC_size fold_PC1
attribute [local go_sem] zeros_sl
structure PwI (wk wr : World) (g g' : Nat) (F G : Nat → Sl) (A B : Nat → List Rn) (Rel : List Rn → List Rn → List Rn → Prop) (k : Nat) : Prop where
 s : Sets wr g F
 y : Sets wr g' G
 new : ∀ r, r < k → RSrc wr (F r).ao (F r).n (F r).cap (F r).L ∧ Rel (A r) (B r) (F r).L
 old : ∀ r, k ≤ r → r < 16 → RSrc wr (F r).ao (F r).n (F r).cap (F r).L ∧ (F r).L = A r
 gs : ∀ r, r < 16 → RSrc wr (G r).ao (G r).n (G r).cap (G r).L ∧ (G r).L = B r
 f1 : FarS F g
 f2 : FarS G g
 b : Below wk.heap.size wk wr
 g1 : wk.heap.size ≤ g
 gg : g ≠ g'
def PwP (w6 : World) (Rel : List Rn → List Rn → List Rn → Prop) (A B : List Rn) (W : World) (v : Value) : Prop := ∃ a1 n1 c1 L, v = .slice a1 n1 c1 ∧ RSrc W a1 n1 c1 L ∧ Below w6.heap.size w6 W ∧ (∀ ad, a1 = some ad → w6.heap.size ≤ ad.block) ∧ Rel A B L
structure PwR (w6 : World) (g g' k : Nat) (f sx sy : Value) (P : World → Value → Prop) (l : Array Bool) (W : World) (v19 v20 v21 v22 v23 v24 v25 v26 v27 v28 : Value) : Prop where
 sz : l.size = 11
 h0 : l.getD 0 false = true → v19 = .int .i64 (k : Int)
 h1 : l.getD 1 false = true → v20 = f
 h2 : l.getD 2 false = true → v21 = .int .i64 (k : Int)
 h3 : l.getD 3 false = true → v22 = (.pointer (some ⟨g, k, none⟩))
 h4 : l.getD 4 false = true → v23 = sx
 h5 : l.getD 5 false = true → v24 = .int .i64 (k : Int)
 h6 : l.getD 6 false = true → v25 = (.pointer (some ⟨g', k, none⟩))
 h7 : l.getD 7 false = true → v26 = sy
 h9 : l.getD 9 false = true → v28 = (.pointer (some ⟨g, k, none⟩))
 h8a : l.getD 8 false = false → W = w6.drew
 h8b : l.getD 8 false = true → l.getD 10 false = false → P W v27
 h10 : l.getD 10 false = true → ∃ W0, P W0 v27 ∧ W = W0.setCell ⟨g, k, none⟩ v27
 c8 : l.getD 8 false = true → l.getD 1 false = true ∧ l.getD 4 false = true ∧ l.getD 7 false = true
 c10 : l.getD 10 false = true → l.getD 8 false = true ∧ l.getD 9 false = true
section
variable {w6 : World} {g g' k : Nat} {f sx sy : Value} {P : World → Value → Prop} {l : Array Bool} {W : World} {v19 v20 v21 v22 v23 v24 v25 v26 v27 v28 : Value}
end
end Go.Proofs.YtmbkmpeongodbaaGreat
namespace Go.Proofs.YtmbkmpeongodbaaGreat
open Go.RowKit
attribute [local go_sem ↓] ldP_eq stP_eq ldA_eq stA_eq
attribute [local go_sem] zeros_SA cells_SAv zero_PC cells_PV fold_PC PC_size fold_PC1
attribute [local go_sem] zeros_sl
end Go.Proofs.YtmbkmpeongodbaaGreat
