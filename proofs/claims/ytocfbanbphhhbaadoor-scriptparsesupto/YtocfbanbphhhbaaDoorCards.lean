/-
  DERIVED. GIVEN WITH THE SEED: THE CARDS: each row of YtocfbanbphhhbaaDoorRows.lean that lists a variable, with what it lists TIED to the program's text (the seventh form; the later family's looks); each row that meets fmt, with fmt's text TOLD by the authors' own Lean function (tested against real Go, not proved from fmt's source: count such statements apart). THE CARD IS WHAT COUNTS. Prove the row's statement (the work); the ties are given (YtocfbanbphhhbaaDoorTie.lean); close each card by the builder's one call (the guide's Derived/Test/ToyasCard.lean, 'card_holds'). Laid BY PROGRAM, IN A SANDBOX (cutbox-door.mjs). By AI agents, Wed Nov 11 2026. No macro, syntax, notation, axiom, sorry.
-/
import Derived.Test.YtocfbanbphhhbaaDoorRows
import GoSem.ClaimSeven
namespace Go.Proofs.YtocfbanbphhhbaaDoor
namespace Rows

/-- THE TIED CARD OF 'barrowlaw24.ScriptParses'. -/
def scriptParsesCard : Claim7 := { stood := { row := scriptParsesRow, standIns := [], harness := (true, "14ca3ed00097f1680f194c1bfed3b975f0b6f76a32f9c89e8d80536286a7e801"), looks := true }, kinds := [], alts := [], laidByText := true, laidKinds := [.data, .data, .data, .data, .sentinel, .sentinel, .data, .pinned], laidTests := true, laidLooks := .later }
def ScriptParsesCardSaid : Prop := Claim7.holds Tryd.pinned (.plain (OpenSpec.ofChange scriptParsesSpec)) scriptParsesCard

/-- THE TIED CARD OF 'barrowlaw24.ScriptOpThere'. -/
def scriptOpThereCard : Claim7 := { stood := { row := scriptOpThereRow, standIns := [], harness := (true, "14ca3ed00097f1680f194c1bfed3b975f0b6f76a32f9c89e8d80536286a7e801"), looks := true }, kinds := [], alts := [], laidByText := true, laidKinds := [.data, .data, .data, .data, .sentinel, .sentinel, .data, .pinned], laidTests := true, laidLooks := .later }
def ScriptOpThereCardSaid : Prop := Claim7.holds Tryd.pinned (.plain (OpenSpec.ofChange scriptOpThereSpec)) scriptOpThereCard

/-- THE TIED CARD OF 'barrowlaw24.ScriptThere'. -/
def scriptThereCard : Claim7 := { stood := { row := scriptThereRow, standIns := [], harness := (true, "14ca3ed00097f1680f194c1bfed3b975f0b6f76a32f9c89e8d80536286a7e801"), looks := true }, kinds := [], alts := [], laidByText := true, laidKinds := [.data, .data, .data, .data, .sentinel, .sentinel, .data, .pinned], laidTests := true, laidLooks := .later }
def ScriptThereCardSaid : Prop := Claim7.holds Tryd.pinned (.plain (OpenSpec.ofChange scriptThereSpec)) scriptThereCard

/-- THE SECOND FORM's CARD OF 'barrowlaw24.ScriptParses'. -/
def scriptParsesUptoCard : Claim7 := { stood := { row := scriptParsesUptoRow, standIns := [], harness := (true, "14ca3ed00097f1680f194c1bfed3b975f0b6f76a32f9c89e8d80536286a7e801"), looks := true }, kinds := [], alts := [], laidByText := true, laidKinds := [.data, .data, .data, .data, .sentinel, .sentinel, .data, .pinned], laidTests := true, laidLooks := .later }
def ScriptParsesUptoCardSaid : Prop := Claim7.holds Tryd.pinned (.plain (OpenSpec.upto scriptParsesSpec)) scriptParsesUptoCard

/-- THE SECOND FORM's CARD OF 'barrowlaw24.ScriptOpThere'. -/
def scriptOpThereUptoCard : Claim7 := { stood := { row := scriptOpThereUptoRow, standIns := [], harness := (true, "14ca3ed00097f1680f194c1bfed3b975f0b6f76a32f9c89e8d80536286a7e801"), looks := true }, kinds := [], alts := [], laidByText := true, laidKinds := [.data, .data, .data, .data, .sentinel, .sentinel, .data, .pinned], laidTests := true, laidLooks := .later }
def ScriptOpThereUptoCardSaid : Prop := Claim7.holds Tryd.pinned (.plain (OpenSpec.upto scriptOpThereSpec)) scriptOpThereUptoCard

/-- THE SECOND FORM's CARD OF 'barrowlaw24.ScriptThere'. -/
def scriptThereUptoCard : Claim7 := { stood := { row := scriptThereUptoRow, standIns := [], harness := (true, "14ca3ed00097f1680f194c1bfed3b975f0b6f76a32f9c89e8d80536286a7e801"), looks := true }, kinds := [], alts := [], laidByText := true, laidKinds := [.data, .data, .data, .data, .sentinel, .sentinel, .data, .pinned], laidTests := true, laidLooks := .later }
def ScriptThereUptoCardSaid : Prop := Claim7.holds Tryd.pinned (.plain (OpenSpec.upto scriptThereSpec)) scriptThereUptoCard
end Rows
end Go.Proofs.YtocfbanbphhhbaaDoor
