/-
  DERIVED. GIVEN WITH THE SEED: THE CARDS: each row of YtllogonbickmcaaDoorRows.lean that lists a variable, with what it lists TIED to the program's text (the seventh form; the later family's looks); each row that meets fmt, with fmt's text TOLD by the authors' own Lean function (tested against real Go, not proved from fmt's source: count such statements apart). THE CARD IS WHAT COUNTS. Prove the row's statement (the work); the ties are given (YtllogonbickmcaaDoorTie.lean); close each card by the builder's one call (the guide's Derived/Test/ToyasCard.lean, 'card_holds'). Laid BY PROGRAM, IN A SANDBOX (cutbox-door.mjs). By AI agents, Wed Nov 11 2026. No macro, syntax, notation, axiom, sorry.
-/
import Derived.Test.YtllogonbickmcaaDoorRows
import GoSem.ClaimSeven
namespace Go.Proofs.YtllogonbickmcaaDoor
namespace Rows

/-- THE TIED CARD OF 'barrowlaw02.GoodsSorts'. -/
def goodsSortsCard : Claim7 := { stood := { row := goodsSortsRow, standIns := [], harness := (true, "9eaa5175eb6e997aa34002d22844ca9432138beaba79c29af7d2d138a64ddee8"), looks := false }, kinds := [], alts := [], laidByText := true, laidKinds := [.data, .pinned], laidTests := true, laidLooks := .later }
def GoodsSortsCardSaid : Prop := Claim7.holds Tryd.pinned (.plain (OpenSpec.ofChange goodsSortsSpec)) goodsSortsCard

/-- THE SECOND FORM's CARD OF 'barrowlaw02.GoodsSorts'. -/
def goodsSortsUptoCard : Claim7 := { stood := { row := goodsSortsUptoRow, standIns := [], harness := (true, "9eaa5175eb6e997aa34002d22844ca9432138beaba79c29af7d2d138a64ddee8"), looks := false }, kinds := [], alts := [], laidByText := true, laidKinds := [.data, .pinned], laidTests := true, laidLooks := .later }
def GoodsSortsUptoCardSaid : Prop := Claim7.holds Tryd.pinned (.plain (OpenSpec.upto goodsSortsSpec)) goodsSortsUptoCard
end Rows
end Go.Proofs.YtllogonbickmcaaDoor
