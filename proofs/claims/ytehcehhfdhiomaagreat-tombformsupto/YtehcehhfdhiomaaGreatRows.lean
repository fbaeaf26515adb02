/-
  No cell of these rows narrows 'for every input' (looked for: loops, veiled, ifaces, maps, wideKeys, modest, calm, conditions, laid).
  DERIVED. THE GIVEN ROWS OF THIS SEAT. 3 by the template 'for every input the law returns true; each argument reads behind the call as it read before'; 0 by the template 'total and deterministic' (their statements: YtehcehhfdhiomaaGreatTotals.lean).
  GIVEN WITH THE SEED: the statements are not yours to turn. If you find one false, say at which input.
  Laid BY PROGRAM, IN A SANDBOX (cutbox-rows.mjs): the forced cells as the released guide's own fill.sh prints them over the translation bb04606a89d0409f… (all of the seat's roots in one cut). By AI agents, Wed Nov 11 2026. No macro, syntax, notation, axiom, sorry.
-/
import Derived.Test.YtehcehhfdhiomaaGreatChecked
import GoSem.Claim
import GoSem.ClaimJoined
import GoSem.ClaimMapViews
import Derived.JoinedTies
import Derived.KernelRfl
namespace Go.Proofs.YtehcehhfdhiomaaGreat
/- THE CELL 'sum', in the pinned program and in every row, IS THE sha256 OF THE DUMP (.gsa) THAT YtehcehhfdhiomaaGreatProg.lean LOADS. Nothing in Lean hashes anything: it is a label: what it is worth is what the hold of that sum in a sandbox is worth. -/
noncomputable def Tryz.pinned : Pinned := { name := "ytehcehhfdhiomaagreat", sum := "bb04606a89d0409f12f92ef1577e51a74cca8b18d78d3ddb41053826c0add868", checked := Tryz.checked }
namespace Rows
def none {H : Type} : Left H := { results := [], args := [] }

/-- 'barrowlaw10.TombForms': WHATEVER THE INPUT: true; the input reads as it did. -/
def tombFormsSpec : ChangeSpec := { name := "tombForms", fn := fun _ => fun
  | [d] => { results := [.lit (.bool true)], args := [d] }
  | _ => none }
def tombFormsRow : OpenClaim := { program := "ytehcehhfdhiomaagreat", sum := "bb04606a89d0409f12f92ef1577e51a74cca8b18d78d3ddb41053826c0add868", func := "barrow/barrowlaw10.TombForms", spec := "tombForms", inPlace := ["internal/bytealg.abigen_runtime_cmpstring"], unfollowed := true, recurses := true, apart := false }
def TombFormsSaid : Prop := tombFormsRow.holds Tryz.pinned (OpenSpec.ofChange tombFormsSpec)

/-- ITS FALSE NEIGHBOUR: 'it returns false'. Refute it at one input. -/
def tombFormsWrong : ChangeSpec := { name := "tombForms", fn := fun _ => fun
  | [d] => { results := [.lit (.bool false)], args := [d] }
  | _ => none }
def TombFormsWrongFalsely : Prop := tombFormsRow.holds Tryz.pinned (OpenSpec.ofChange tombFormsWrong)

/-- 'barrowlaw10.TombLives': WHATEVER THE INPUT: true; the input reads as it did. -/
def tombLivesSpec : ChangeSpec := { name := "tombLives", fn := fun _ => fun
  | [d1, d2] => { results := [.lit (.bool true)], args := [d1, d2] }
  | _ => none }
def tombLivesRow : OpenClaim := { program := "ytehcehhfdhiomaagreat", sum := "bb04606a89d0409f12f92ef1577e51a74cca8b18d78d3ddb41053826c0add868", func := "barrow/barrowlaw10.TombLives", spec := "tombLives", inPlace := ["internal/bytealg.abigen_runtime_cmpstring"], unfollowed := true, recurses := true, apart := false }
def TombLivesSaid : Prop := tombLivesRow.holds Tryz.pinned (OpenSpec.ofChange tombLivesSpec)

/-- ITS FALSE NEIGHBOUR: 'it returns false'. Refute it at one input. -/
def tombLivesWrong : ChangeSpec := { name := "tombLives", fn := fun _ => fun
  | [d1, d2] => { results := [.lit (.bool false)], args := [d1, d2] }
  | _ => none }
def TombLivesWrongFalsely : Prop := tombLivesRow.holds Tryz.pinned (OpenSpec.ofChange tombLivesWrong)

/-- 'barrowlaw10.TombHears': WHATEVER THE INPUT: true; the input reads as it did. -/
def tombHearsSpec : ChangeSpec := { name := "tombHears", fn := fun _ => fun
  | [d1, d2, d3] => { results := [.lit (.bool true)], args := [d1, d2, d3] }
  | _ => none }
def tombHearsRow : OpenClaim := { program := "ytehcehhfdhiomaagreat", sum := "bb04606a89d0409f12f92ef1577e51a74cca8b18d78d3ddb41053826c0add868", func := "barrow/barrowlaw10.TombHears", spec := "tombHears", inPlace := ["internal/bytealg.abigen_runtime_cmpstring"], unfollowed := true, recurses := true, apart := false }
def TombHearsSaid : Prop := tombHearsRow.holds Tryz.pinned (OpenSpec.ofChange tombHearsSpec)

/-- ITS FALSE NEIGHBOUR: 'it returns false'. Refute it at one input. -/
def tombHearsWrong : ChangeSpec := { name := "tombHears", fn := fun _ => fun
  | [d1, d2, d3] => { results := [.lit (.bool false)], args := [d1, d2, d3] }
  | _ => none }
def TombHearsWrongFalsely : Prop := tombHearsRow.holds Tryz.pinned (OpenSpec.ofChange tombHearsWrong)

/- THE SECOND FORM. 'bulk': how many values and letters a reading holds, each counted each time it is reached (what is shared counts as often as it is met; a slice's spare places count too). A statement '..UptoSaid' is the law's where the arguments, and the package variables that the reading takes, are together of bulk at most 1048576: NARROWER than '..Said'. Prove '..Said' where nothing that the law and all that it calls make is longer than what came in: it says more and counts as full. Else prove '..UptoSaid'. A law counts once. -/
mutual
def uptoBulk {H : Type} : DataW H → Nat
  | .lit (.string bytes) => bytes.length + 1
  | .lit _ => 1
  | .nil => 1
  | .ptr d => uptoBulk d + 1
  | .slice elems spare => uptoBulkAll elems + uptoBulkAll spare + 1
  | .agg parts => uptoBulkAll parts + 1
  | .iface _ d => uptoBulk d + 1
  | .map entries => uptoBulkEntries entries + 1
  | .held _ => 1
def uptoBulkAll {H : Type} : List (DataW H) → Nat
  | [] => 0
  | d :: r => uptoBulk d + uptoBulkAll r
def uptoBulkEntries {H : Type} : List (Lit × DataW H) → Nat
  | [] => 0
  | x :: r => uptoBulkEntry x + uptoBulkEntries r
def uptoBulkEntry {H : Type} : Lit × DataW H → Nat
  | (.string bytes, d) => bytes.length + uptoBulk d + 1
  | (_, d) => uptoBulk d + 1
 end
def uptoSmall : (H : Type) → List (DataW H) → Bool := fun _ ds => decide (uptoBulkAll ds ≤ 1048576)
def OpenSpec.upto (s : _root_.Go.ChangeSpec) : _root_.Go.OpenSpec := { _root_.Go.OpenSpec.ofChange s with cond := some uptoSmall }

/-- 'barrowlaw10.TombForms', WHERE WHAT IT READS IS OF BULK AT MOST 1048576: true; the input reads as it did. -/
def tombFormsUptoRow : OpenClaim := { program := "ytehcehhfdhiomaagreat", sum := "bb04606a89d0409f12f92ef1577e51a74cca8b18d78d3ddb41053826c0add868", func := "barrow/barrowlaw10.TombForms", spec := "tombForms", inPlace := ["internal/bytealg.abigen_runtime_cmpstring"], unfollowed := true, recurses := true, apart := false, narrowed := true }
def TombFormsUptoSaid : Prop := tombFormsUptoRow.holds Tryz.pinned (OpenSpec.upto tombFormsSpec)

/-- 'barrowlaw10.TombLives', WHERE WHAT IT READS IS OF BULK AT MOST 1048576: true; the input reads as it did. -/
def tombLivesUptoRow : OpenClaim := { program := "ytehcehhfdhiomaagreat", sum := "bb04606a89d0409f12f92ef1577e51a74cca8b18d78d3ddb41053826c0add868", func := "barrow/barrowlaw10.TombLives", spec := "tombLives", inPlace := ["internal/bytealg.abigen_runtime_cmpstring"], unfollowed := true, recurses := true, apart := false, narrowed := true }
def TombLivesUptoSaid : Prop := tombLivesUptoRow.holds Tryz.pinned (OpenSpec.upto tombLivesSpec)

/-- 'barrowlaw10.TombHears', WHERE WHAT IT READS IS OF BULK AT MOST 1048576: true; the input reads as it did. -/
def tombHearsUptoRow : OpenClaim := { program := "ytehcehhfdhiomaagreat", sum := "bb04606a89d0409f12f92ef1577e51a74cca8b18d78d3ddb41053826c0add868", func := "barrow/barrowlaw10.TombHears", spec := "tombHears", inPlace := ["internal/bytealg.abigen_runtime_cmpstring"], unfollowed := true, recurses := true, apart := false, narrowed := true }
def TombHearsUptoSaid : Prop := tombHearsUptoRow.holds Tryz.pinned (OpenSpec.upto tombHearsSpec)

end Rows
end Go.Proofs.YtehcehhfdhiomaaGreat
