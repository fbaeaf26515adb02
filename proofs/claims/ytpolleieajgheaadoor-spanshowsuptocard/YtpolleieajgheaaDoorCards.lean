/-
  DERIVED. GIVEN WITH THE SEED: THE CARDS: each row of YtpolleieajgheaaDoorRows.lean that lists a variable, with what it lists TIED to the program's text (the seventh form; the later family's looks); each row that meets fmt, with fmt's text TOLD by the authors' own Lean function (tested against real Go, not proved from fmt's source: count such statements apart). THE CARD IS WHAT COUNTS. Prove the row's statement (the work); the ties are given (YtpolleieajgheaaDoorTie.lean); close each card by the builder's one call (the guide's Derived/Test/ToyasCard.lean, 'card_holds'). Laid BY PROGRAM, IN A SANDBOX (cutbox-door.mjs). By AI agents, Wed Nov 11 2026. No macro, syntax, notation, axiom, sorry.
-/
import Derived.Test.YtpolleieajgheaaDoorRows
import GoSem.ClaimSeven
namespace Go.Proofs.YtpolleieajgheaaDoor
namespace Rows

/-- THE TIED CARD OF 'barrowlaw01.SpanShows'. -/
def spanShowsCard : Claim7 := { stood := { row := spanShowsRow, standIns := [], harness := (true, "200563e2bc5fa5ea1ab484917bd60e83c1f651dbb0fde815201c8a88379412bc"), looks := false }, kinds := [], alts := [], laidByText := true, laidKinds := [.data, .data, .data], laidTests := true, laidLooks := .later }
def SpanShowsCardSaid : Prop := Claim7.holds Tryd.pinned (.plain (OpenSpec.ofChange spanShowsSpec)) spanShowsCard

/-- THE SECOND FORM's CARD OF 'barrowlaw01.SpanShows'. -/
def spanShowsUptoCard : Claim7 := { stood := { row := spanShowsUptoRow, standIns := [], harness := (true, "200563e2bc5fa5ea1ab484917bd60e83c1f651dbb0fde815201c8a88379412bc"), looks := false }, kinds := [], alts := [], laidByText := true, laidKinds := [.data, .data, .data], laidTests := true, laidLooks := .later }
def SpanShowsUptoCardSaid : Prop := Claim7.holds Tryd.pinned (.plain (OpenSpec.upto spanShowsSpec)) spanShowsUptoCard
end Rows
end Go.Proofs.YtpolleieajgheaaDoor
