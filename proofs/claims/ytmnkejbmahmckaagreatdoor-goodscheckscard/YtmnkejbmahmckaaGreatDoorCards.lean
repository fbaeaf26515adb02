/-
  DERIVED. GIVEN WITH THE SEED: THE CARDS: each row of YtmnkejbmahmckaaGreatDoorRows.lean that lists a variable, with what it lists TIED to the program's text (the seventh form; the later family's looks); each row that meets fmt, with fmt's text TOLD by the authors' own Lean function (tested against real Go, not proved from fmt's source: count such statements apart). THE CARD IS WHAT COUNTS. Prove the row's statement (the work); the ties are given (YtmnkejbmahmckaaGreatDoorTie.lean); close each card by the builder's one call (the guide's Derived/Test/ToyasCard.lean, 'card_holds'). Laid BY PROGRAM, IN A SANDBOX (cutbox-door.mjs). By AI agents, Wed Nov 11 2026. No macro, syntax, notation, axiom, sorry.
-/
import Derived.Test.YtmnkejbmahmckaaGreatDoorRows
import GoSem.ClaimSeven
namespace Go.Proofs.YtmnkejbmahmckaaGreatDoor
namespace Rows

/-- THE TIED CARD OF 'barrowlaw02.GoodsChecks'. -/
def goodsChecksCard : Claim7 := { stood := { row := goodsChecksRow, standIns := [], harness := (true, "2b9425d9ec9397abaf181e13b03de85139abfc8b179506dd73ebcc18b5a4d464"), looks := true }, kinds := [], alts := [], laidByText := true, laidKinds := [.data, .data, .data, .data, .sentinel, .sentinel, .pinned], laidTests := true, laidLooks := .later }
def GoodsChecksCardSaid : Prop := Claim7.holds Tryz.pinned (.plain (OpenSpec.ofChange goodsChecksSpec)) goodsChecksCard

/-- THE TIED CARD OF 'barrowlaw02.GoodsArticles'. -/
def goodsArticlesCard : Claim7 := { stood := { row := goodsArticlesRow, standIns := [], harness := (true, "2b9425d9ec9397abaf181e13b03de85139abfc8b179506dd73ebcc18b5a4d464"), looks := true }, kinds := [], alts := [], laidByText := true, laidKinds := [.data, .data, .data, .data, .sentinel, .sentinel, .pinned], laidTests := true, laidLooks := .later }
def GoodsArticlesCardSaid : Prop := Claim7.holds Tryz.pinned (.plain (OpenSpec.ofChange goodsArticlesSpec)) goodsArticlesCard

/-- THE TIED CARD OF 'barrowlaw02.GoodsMatches'. -/
def goodsMatchesCard : Claim7 := { stood := { row := goodsMatchesRow, standIns := [], harness := (true, "2b9425d9ec9397abaf181e13b03de85139abfc8b179506dd73ebcc18b5a4d464"), looks := true }, kinds := [], alts := [], laidByText := true, laidKinds := [.data, .data, .data, .data, .sentinel, .sentinel, .pinned], laidTests := true, laidLooks := .later }
def GoodsMatchesCardSaid : Prop := Claim7.holds Tryz.pinned (.plain (OpenSpec.ofChange goodsMatchesSpec)) goodsMatchesCard

/-- THE SECOND FORM's CARD OF 'barrowlaw02.GoodsChecks'. -/
def goodsChecksUptoCard : Claim7 := { stood := { row := goodsChecksUptoRow, standIns := [], harness := (true, "2b9425d9ec9397abaf181e13b03de85139abfc8b179506dd73ebcc18b5a4d464"), looks := true }, kinds := [], alts := [], laidByText := true, laidKinds := [.data, .data, .data, .data, .sentinel, .sentinel, .pinned], laidTests := true, laidLooks := .later }
def GoodsChecksUptoCardSaid : Prop := Claim7.holds Tryz.pinned (.plain (OpenSpec.upto goodsChecksSpec)) goodsChecksUptoCard

/-- THE SECOND FORM's CARD OF 'barrowlaw02.GoodsArticles'. -/
def goodsArticlesUptoCard : Claim7 := { stood := { row := goodsArticlesUptoRow, standIns := [], harness := (true, "2b9425d9ec9397abaf181e13b03de85139abfc8b179506dd73ebcc18b5a4d464"), looks := true }, kinds := [], alts := [], laidByText := true, laidKinds := [.data, .data, .data, .data, .sentinel, .sentinel, .pinned], laidTests := true, laidLooks := .later }
def GoodsArticlesUptoCardSaid : Prop := Claim7.holds Tryz.pinned (.plain (OpenSpec.upto goodsArticlesSpec)) goodsArticlesUptoCard

/-- THE SECOND FORM's CARD OF 'barrowlaw02.GoodsMatches'. -/
def goodsMatchesUptoCard : Claim7 := { stood := { row := goodsMatchesUptoRow, standIns := [], harness := (true, "2b9425d9ec9397abaf181e13b03de85139abfc8b179506dd73ebcc18b5a4d464"), looks := true }, kinds := [], alts := [], laidByText := true, laidKinds := [.data, .data, .data, .data, .sentinel, .sentinel, .pinned], laidTests := true, laidLooks := .later }
def GoodsMatchesUptoCardSaid : Prop := Claim7.holds Tryz.pinned (.plain (OpenSpec.upto goodsMatchesSpec)) goodsMatchesUptoCard
end Rows
end Go.Proofs.YtmnkejbmahmckaaGreatDoor
