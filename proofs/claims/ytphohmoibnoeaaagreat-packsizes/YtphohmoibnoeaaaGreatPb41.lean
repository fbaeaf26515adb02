/- IBk -/
import Derived.Test.YtphohmoibnoeaaaGreatPb40
namespace Go.Proofs.YtphohmoibnoeaaaGreat
open Go.RowKit
attribute [local go_sem ↓] ldP_eq stP_eq
attribute [local go_sem] zero_PC cells_PV PC_size cells_CsV CsC_size
variable {w w' w2 W W' : World} {g gv gr : Nat} {Z : List Int}

theorem pastB_inj {P Q : Pst} (h : InForm P) (h' : InForm Q) (e : pastB P = pastB Q) : P = Q := by
 have h1 := rdPast_to h []
 have h2 := rdPast_to h' []
 rw [e, h2] at h1
 exact (congrArg Prod.fst (Option.some.inj h1)).symm
structure BKc (w W : World) (G : Nat) (m : Cs) : Prop where
 box : CsBox W G m
 bel : Below w.heap.size w W
theorem BKc.below {G : Nat} {m : Cs} (h : BKc w W G m) (b : Below W.heap.size W W') : BKc w W' G m := ⟨h.box.below b, h.bel.trans (b.mono h.bel.size)⟩
end Go.Proofs.YtphohmoibnoeaaaGreat
