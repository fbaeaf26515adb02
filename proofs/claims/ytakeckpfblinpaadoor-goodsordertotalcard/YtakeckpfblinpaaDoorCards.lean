/-
  DERIVED. GIVEN WITH THE SEED: THE CARDS: each row of YtakeckpfblinpaaDoorRows.lean that lists a variable, with what it lists TIED to the program's text (the seventh form; the later family's looks); each row that meets fmt, with fmt's text TOLD by the authors' own Lean function (tested against real Go, not proved from fmt's source: count such statements apart). THE CARD IS WHAT COUNTS. Prove the row's statement (the work); the ties are given (YtakeckpfblinpaaDoorTie.lean); close each card by the builder's one call (the guide's Derived/Test/ToyasCard.lean, 'card_holds'). Laid BY PROGRAM, IN A SANDBOX (cutbox-door.mjs). By AI agents, Wed Nov 11 2026. No macro, syntax, notation, axiom, sorry.
-/
import Derived.Test.YtakeckpfblinpaaDoorRows
import GoSem.ClaimSeven
namespace Go.Proofs.YtakeckpfblinpaaDoor
namespace Rows

/-- THE TIED CARD OF 'barrowlaw02.GoodsOrderTotal'. -/
def goodsOrderTotalCard : Claim7 := { stood := { row := goodsOrderTotalRow, standIns := [], harness := (true, "e9d47acb8ff02847df5334048a362da78f77dee37218fa314ce1ad7c4ff1afb3"), looks := false }, kinds := [], alts := [], laidByText := true, laidKinds := [.data, .pinned], laidTests := true, laidLooks := .later }
def GoodsOrderTotalCardSaid : Prop := Claim7.holds Tryd.pinned (.plain (OpenSpec.ofChange goodsOrderTotalSpec)) goodsOrderTotalCard

/-- THE SECOND FORM's CARD OF 'barrowlaw02.GoodsOrderTotal'. -/
def goodsOrderTotalUptoCard : Claim7 := { stood := { row := goodsOrderTotalUptoRow, standIns := [], harness := (true, "e9d47acb8ff02847df5334048a362da78f77dee37218fa314ce1ad7c4ff1afb3"), looks := false }, kinds := [], alts := [], laidByText := true, laidKinds := [.data, .pinned], laidTests := true, laidLooks := .later }
def GoodsOrderTotalUptoCardSaid : Prop := Claim7.holds Tryd.pinned (.plain (OpenSpec.upto goodsOrderTotalSpec)) goodsOrderTotalUptoCard
end Rows
end Go.Proofs.YtakeckpfblinpaaDoor
