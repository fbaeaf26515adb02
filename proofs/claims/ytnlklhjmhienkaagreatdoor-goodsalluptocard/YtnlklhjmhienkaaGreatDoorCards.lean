/-
  DERIVED. GIVEN WITH THE SEED: THE CARDS: each row of YtnlklhjmhienkaaGreatDoorRows.lean that lists a variable, with what it lists TIED to the program's text (the seventh form; the later family's looks); each row that meets fmt, with fmt's text TOLD by the authors' own Lean function (tested against real Go, not proved from fmt's source: count such statements apart). THE CARD IS WHAT COUNTS. Prove the row's statement (the work); the ties are given (YtnlklhjmhienkaaGreatDoorTie.lean); close each card by the builder's one call (the guide's Derived/Test/ToyasCard.lean, 'card_holds'). Laid BY PROGRAM, IN A SANDBOX (cutbox-door.mjs). By AI agents, Wed Nov 11 2026. No macro, syntax, notation, axiom, sorry.
-/
import Derived.Test.YtnlklhjmhienkaaGreatDoorRows
import GoSem.ClaimSeven
namespace Go.Proofs.YtnlklhjmhienkaaGreatDoor
namespace Rows

/-- THE TIED CARD OF 'barrowlaw02.GoodsAll'. -/
def goodsAllCard : Claim7 := { stood := { row := goodsAllRow, standIns := [], harness := (true, "87d7ca5fabadce7e3e2446af845f3b0c0d9947b7c4c242e88de8506355b8c4ec"), looks := true }, kinds := [], alts := [], laidByText := true, laidKinds := [.data, .data, .data, .data, .sentinel, .sentinel, .pinned], laidTests := true, laidLooks := .later }
def GoodsAllCardSaid : Prop := Claim7.holds Tryz.pinned (.plain (OpenSpec.ofChange goodsAllSpec)) goodsAllCard

/-- THE SECOND FORM's CARD OF 'barrowlaw02.GoodsAll'. -/
def goodsAllUptoCard : Claim7 := { stood := { row := goodsAllUptoRow, standIns := [], harness := (true, "87d7ca5fabadce7e3e2446af845f3b0c0d9947b7c4c242e88de8506355b8c4ec"), looks := true }, kinds := [], alts := [], laidByText := true, laidKinds := [.data, .data, .data, .data, .sentinel, .sentinel, .pinned], laidTests := true, laidLooks := .later }
def GoodsAllUptoCardSaid : Prop := Claim7.holds Tryz.pinned (.plain (OpenSpec.upto goodsAllSpec)) goodsAllUptoCard
end Rows
end Go.Proofs.YtnlklhjmhienkaaGreatDoor
