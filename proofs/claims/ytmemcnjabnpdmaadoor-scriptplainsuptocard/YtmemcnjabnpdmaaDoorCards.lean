/-
  DERIVED. GIVEN WITH THE SEED: THE CARDS: each row of YtmemcnjabnpdmaaDoorRows.lean that lists a variable, with what it lists TIED to the program's text (the seventh form; the later family's looks); each row that meets fmt, with fmt's text TOLD by the authors' own Lean function (tested against real Go, not proved from fmt's source: count such statements apart). THE CARD IS WHAT COUNTS. Prove the row's statement (the work); the ties are given (YtmemcnjabnpdmaaDoorTie.lean); close each card by the builder's one call (the guide's Derived/Test/ToyasCard.lean, 'card_holds'). Laid BY PROGRAM, IN A SANDBOX (cutbox-door.mjs). By AI agents, Wed Nov 11 2026. No macro, syntax, notation, axiom, sorry.
-/
import Derived.Test.YtmemcnjabnpdmaaDoorRows
import GoSem.ClaimSeven
namespace Go.Proofs.YtmemcnjabnpdmaaDoor
namespace Rows

/-- THE TIED CARD OF 'barrowlaw24.ScriptPlains'. -/
def scriptPlainsCard : Claim7 := { stood := { row := scriptPlainsRow, standIns := [], harness := (true, "6d528c7067f1f453affcae5e3cdfdb562f816850bc91b30b41f5f8e1c4791652"), looks := true }, kinds := [], alts := [], laidByText := true, laidKinds := [.data, .data, .data, .data, .sentinel, .sentinel, .data, .pinned], laidTests := true, laidLooks := .later }
def ScriptPlainsCardSaid : Prop := Claim7.holds Tryd.pinned (.plain (OpenSpec.ofChange scriptPlainsSpec)) scriptPlainsCard

/-- THE TIED CARD OF 'barrowlaw24.ScriptParses'. -/
def scriptParsesCard : Claim7 := { stood := { row := scriptParsesRow, standIns := [], harness := (true, "6d528c7067f1f453affcae5e3cdfdb562f816850bc91b30b41f5f8e1c4791652"), looks := true }, kinds := [], alts := [], laidByText := true, laidKinds := [.data, .data, .data, .data, .sentinel, .sentinel, .data, .pinned], laidTests := true, laidLooks := .later }
def ScriptParsesCardSaid : Prop := Claim7.holds Tryd.pinned (.plain (OpenSpec.ofChange scriptParsesSpec)) scriptParsesCard

/-- THE TIED CARD OF 'barrowlaw24.ScriptOpThere'. -/
def scriptOpThereCard : Claim7 := { stood := { row := scriptOpThereRow, standIns := [], harness := (true, "6d528c7067f1f453affcae5e3cdfdb562f816850bc91b30b41f5f8e1c4791652"), looks := true }, kinds := [], alts := [], laidByText := true, laidKinds := [.data, .data, .data, .data, .sentinel, .sentinel, .data, .pinned], laidTests := true, laidLooks := .later }
def ScriptOpThereCardSaid : Prop := Claim7.holds Tryd.pinned (.plain (OpenSpec.ofChange scriptOpThereSpec)) scriptOpThereCard

/-- THE TIED CARD OF 'barrowlaw24.ScriptOne'. -/
def scriptOneCard : Claim7 := { stood := { row := scriptOneRow, standIns := [], harness := (true, "6d528c7067f1f453affcae5e3cdfdb562f816850bc91b30b41f5f8e1c4791652"), looks := true }, kinds := [], alts := [], laidByText := true, laidKinds := [.data, .data, .data, .data, .sentinel, .sentinel, .data, .pinned], laidTests := true, laidLooks := .later }
def ScriptOneCardSaid : Prop := Claim7.holds Tryd.pinned (.plain (OpenSpec.ofChange scriptOneSpec)) scriptOneCard

/-- THE TIED CARD OF 'barrowlaw24.ScriptThere'. -/
def scriptThereCard : Claim7 := { stood := { row := scriptThereRow, standIns := [], harness := (true, "6d528c7067f1f453affcae5e3cdfdb562f816850bc91b30b41f5f8e1c4791652"), looks := true }, kinds := [], alts := [], laidByText := true, laidKinds := [.data, .data, .data, .data, .sentinel, .sentinel, .data, .pinned], laidTests := true, laidLooks := .later }
def ScriptThereCardSaid : Prop := Claim7.holds Tryd.pinned (.plain (OpenSpec.ofChange scriptThereSpec)) scriptThereCard

/-- THE SECOND FORM's CARD OF 'barrowlaw24.ScriptPlains'. -/
def scriptPlainsUptoCard : Claim7 := { stood := { row := scriptPlainsUptoRow, standIns := [], harness := (true, "6d528c7067f1f453affcae5e3cdfdb562f816850bc91b30b41f5f8e1c4791652"), looks := true }, kinds := [], alts := [], laidByText := true, laidKinds := [.data, .data, .data, .data, .sentinel, .sentinel, .data, .pinned], laidTests := true, laidLooks := .later }
def ScriptPlainsUptoCardSaid : Prop := Claim7.holds Tryd.pinned (.plain (OpenSpec.upto scriptPlainsSpec)) scriptPlainsUptoCard

/-- THE SECOND FORM's CARD OF 'barrowlaw24.ScriptParses'. -/
def scriptParsesUptoCard : Claim7 := { stood := { row := scriptParsesUptoRow, standIns := [], harness := (true, "6d528c7067f1f453affcae5e3cdfdb562f816850bc91b30b41f5f8e1c4791652"), looks := true }, kinds := [], alts := [], laidByText := true, laidKinds := [.data, .data, .data, .data, .sentinel, .sentinel, .data, .pinned], laidTests := true, laidLooks := .later }
def ScriptParsesUptoCardSaid : Prop := Claim7.holds Tryd.pinned (.plain (OpenSpec.upto scriptParsesSpec)) scriptParsesUptoCard

/-- THE SECOND FORM's CARD OF 'barrowlaw24.ScriptOpThere'. -/
def scriptOpThereUptoCard : Claim7 := { stood := { row := scriptOpThereUptoRow, standIns := [], harness := (true, "6d528c7067f1f453affcae5e3cdfdb562f816850bc91b30b41f5f8e1c4791652"), looks := true }, kinds := [], alts := [], laidByText := true, laidKinds := [.data, .data, .data, .data, .sentinel, .sentinel, .data, .pinned], laidTests := true, laidLooks := .later }
def ScriptOpThereUptoCardSaid : Prop := Claim7.holds Tryd.pinned (.plain (OpenSpec.upto scriptOpThereSpec)) scriptOpThereUptoCard

/-- THE SECOND FORM's CARD OF 'barrowlaw24.ScriptOne'. -/
def scriptOneUptoCard : Claim7 := { stood := { row := scriptOneUptoRow, standIns := [], harness := (true, "6d528c7067f1f453affcae5e3cdfdb562f816850bc91b30b41f5f8e1c4791652"), looks := true }, kinds := [], alts := [], laidByText := true, laidKinds := [.data, .data, .data, .data, .sentinel, .sentinel, .data, .pinned], laidTests := true, laidLooks := .later }
def ScriptOneUptoCardSaid : Prop := Claim7.holds Tryd.pinned (.plain (OpenSpec.upto scriptOneSpec)) scriptOneUptoCard

/-- THE SECOND FORM's CARD OF 'barrowlaw24.ScriptThere'. -/
def scriptThereUptoCard : Claim7 := { stood := { row := scriptThereUptoRow, standIns := [], harness := (true, "6d528c7067f1f453affcae5e3cdfdb562f816850bc91b30b41f5f8e1c4791652"), looks := true }, kinds := [], alts := [], laidByText := true, laidKinds := [.data, .data, .data, .data, .sentinel, .sentinel, .data, .pinned], laidTests := true, laidLooks := .later }
def ScriptThereUptoCardSaid : Prop := Claim7.holds Tryd.pinned (.plain (OpenSpec.upto scriptThereSpec)) scriptThereUptoCard
end Rows
end Go.Proofs.YtmemcnjabnpdmaaDoor
