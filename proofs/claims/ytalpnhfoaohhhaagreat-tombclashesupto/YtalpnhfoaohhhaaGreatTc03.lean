/- QTu -/
import Derived.Test.YtalpnhfoaohhhaaGreatTc02
namespace Go.Proofs.YtalpnhfoaohhhaaGreat
open Go.RowKit

structure Two2 (w W : World) (ai : Option Addr) (ci : Nat) (I : List Int) (ao : Option Addr) (co : Nat) (O : List Int) : Prop where
 a : OwnI w.heap.size w.heap.size w W ai ci I
 b : OwnI w.heap.size w.heap.size w W ao co O
 d : ∀ k, (Value.slice ai I.length ci).ownBlock = some k → (Value.slice ao O.length co).ownBlock ≠ some k
def zipR (Lo Hi : List Int) : List Rn := List.zipWith (fun a b => ⟨a, b⟩) Lo Hi
def los (B : List Rn) : List Int := B.map (fun r => r.lo)
def his (B : List Rn) : List Int := B.map (fun r => r.hi + 1)
def GivesT (w w' : World) (e : Ending) (A : List Rn) : Prop := ∃ ao n c X, e = .returned (.slice ao n c) ∧ V.Src w' ao n c (tn X) ∧ (∀ ad, ao = some ad → w.heap.size ≤ ad.block) ∧ Below w.heap.size w w' ∧ NormOf A X
def SwV (w W : World) (I O : List Int) (i j : Nat) (ao : Option Addr) (cap : Nat) (acc : List Int) (R : List Rn) (s : Option Int) : Prop := OwnI w.heap.size w.heap.size w W ao cap acc ∧ Sw I O i j R s ∧ acc = tn R ++ s.toList
theorem SwV.len {w W : World} {I O : List Int} {i j : Nat} {ao : Option Addr} {cap : Nat} {acc : List Int} {R : List Rn} {s : Option Int} (h : SwV w W I O i j ao cap acc R s) : acc.length ≤ 1000000003 := by
 have := form_small (Int.le_refl _) h.2.1.fm
 rw [h.2.2, List.length_append, tn_length]
 cases s <;> simp <;> omega
end Go.Proofs.YtalpnhfoaohhhaaGreat
