/-
  DERIVED. GIVEN WITH THE SEED: THE CARDS: each row of YtomdjmemglnfaaaGreatDoorRows.lean that lists a variable, with what it lists TIED to the program's text (the seventh form; the later family's looks); each row that meets fmt, with fmt's text TOLD by the authors' own Lean function (tested against real Go, not proved from fmt's source: count such statements apart). THE CARD IS WHAT COUNTS. Prove the row's statement (the work); the ties are given (YtomdjmemglnfaaaGreatDoorTie.lean); close each card by the builder's one call (the guide's Derived/Test/ToyasCard.lean, 'card_holds'). Laid BY PROGRAM, IN A SANDBOX (cutbox-door.mjs). By AI agents, Wed Nov 11 2026. No macro, syntax, notation, axiom, sorry.
-/
import Derived.Test.YtomdjmemglnfaaaGreatDoorRows
import GoSem.ClaimSeven
namespace Go.Proofs.YtomdjmemglnfaaaGreatDoor
namespace Rows

/-- THE TIED CARD OF 'barrowlaw02.GoodsQuantities'. -/
def goodsQuantitiesCard : Claim7 := { stood := { row := goodsQuantitiesRow, standIns := [], harness := (true, "1632db14615a802c8d094be2f23c2a5854cece9b4b269df942f2a025f9fbac0e"), looks := true }, kinds := [], alts := [], laidByText := true, laidKinds := [.data, .data, .data, .data, .sentinel, .sentinel, .pinned], laidTests := true, laidLooks := .later }
def GoodsQuantitiesCardSaid : Prop := Claim7.holds Tryz.pinned (.plain (OpenSpec.ofChange goodsQuantitiesSpec)) goodsQuantitiesCard

/-- THE SECOND FORM's CARD OF 'barrowlaw02.GoodsQuantities'. -/
def goodsQuantitiesUptoCard : Claim7 := { stood := { row := goodsQuantitiesUptoRow, standIns := [], harness := (true, "1632db14615a802c8d094be2f23c2a5854cece9b4b269df942f2a025f9fbac0e"), looks := true }, kinds := [], alts := [], laidByText := true, laidKinds := [.data, .data, .data, .data, .sentinel, .sentinel, .pinned], laidTests := true, laidLooks := .later }
def GoodsQuantitiesUptoCardSaid : Prop := Claim7.holds Tryz.pinned (.plain (OpenSpec.upto goodsQuantitiesSpec)) goodsQuantitiesUptoCard
end Rows
end Go.Proofs.YtomdjmemglnfaaaGreatDoor
