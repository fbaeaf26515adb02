/-
  No cell of these rows narrows 'for every input' (looked for: loops, veiled, ifaces, maps, wideKeys, modest, calm, conditions, laid).
  DERIVED. THE GIVEN ROWS OF THIS SEAT. 2 by the template 'for every input the law returns true; each argument reads behind the call as it read before'; 0 by the template 'total and deterministic' (their statements: YtgnclfeicgbjpaaTotals.lean).
  GIVEN WITH THE SEED: the statements are not yours to turn. If you find one false, say at which input.
  Laid BY PROGRAM, IN A SANDBOX (cutbox-rows.mjs): the forced cells as the released guide's own fill.sh prints them over the translation 0da4cfc5e22fc996… (all of the seat's roots in one cut). By AI agents, Wed Nov 11 2026. No macro, syntax, notation, axiom, sorry.
-/
import Derived.Test.YtgnclfeicgbjpaaChecked
import GoSem.Claim
import GoSem.ClaimJoined
import GoSem.ClaimMapViews
import Derived.JoinedTies
import Derived.KernelRfl
namespace Go.Proofs.Ytgnclfeicgbjpaa
/- THE CELL 'sum', in the pinned program and in every row, IS THE sha256 OF THE DUMP (.gsa) THAT YtgnclfeicgbjpaaProg.lean LOADS. Nothing in Lean hashes anything: it is a label: what it is worth is what the hold of that sum in a sandbox is worth. -/
noncomputable def Try.pinned : Pinned := { name := "ytgnclfeicgbjpaa", sum := "0da4cfc5e22fc9969136b98a24f3a5486a395f95ca0afb451a609872e14fa515", checked := Try.checked }
namespace Rows
def none {H : Type} : Left H := { results := [], args := [] }

/-- 'barrowlaw16.DlogAnswers': WHATEVER THE INPUT: true; the input reads as it did. -/
def dlogAnswersSpec : ChangeSpec := { name := "dlogAnswers", fn := fun _ => fun
  | [d] => { results := [.lit (.bool true)], args := [d] }
  | _ => none }
def dlogAnswersRow : OpenClaim := { program := "ytgnclfeicgbjpaa", sum := "0da4cfc5e22fc9969136b98a24f3a5486a395f95ca0afb451a609872e14fa515", func := "barrow/barrowlaw16.DlogAnswers", spec := "dlogAnswers", unfollowed := true, recurses := true, apart := false }
def DlogAnswersSaid : Prop := dlogAnswersRow.holds Try.pinned (OpenSpec.ofChange dlogAnswersSpec)

/-- ITS FALSE NEIGHBOUR: 'it returns false'. Refute it at one input. -/
def dlogAnswersWrong : ChangeSpec := { name := "dlogAnswers", fn := fun _ => fun
  | [d] => { results := [.lit (.bool false)], args := [d] }
  | _ => none }
def DlogAnswersWrongFalsely : Prop := dlogAnswersRow.holds Try.pinned (OpenSpec.ofChange dlogAnswersWrong)

/-- 'barrowlaw16.DlogWalks': WHATEVER THE INPUT: true; the input reads as it did. -/
def dlogWalksSpec : ChangeSpec := { name := "dlogWalks", fn := fun _ => fun
  | [d] => { results := [.lit (.bool true)], args := [d] }
  | _ => none }
def dlogWalksRow : OpenClaim := { program := "ytgnclfeicgbjpaa", sum := "0da4cfc5e22fc9969136b98a24f3a5486a395f95ca0afb451a609872e14fa515", func := "barrow/barrowlaw16.DlogWalks", spec := "dlogWalks", unfollowed := true, recurses := true, apart := false }
def DlogWalksSaid : Prop := dlogWalksRow.holds Try.pinned (OpenSpec.ofChange dlogWalksSpec)

/-- ITS FALSE NEIGHBOUR: 'it returns false'. Refute it at one input. -/
def dlogWalksWrong : ChangeSpec := { name := "dlogWalks", fn := fun _ => fun
  | [d] => { results := [.lit (.bool false)], args := [d] }
  | _ => none }
def DlogWalksWrongFalsely : Prop := dlogWalksRow.holds Try.pinned (OpenSpec.ofChange dlogWalksWrong)

/- THE SECOND FORM. 'bulk': how many values and letters a reading holds, each counted each time it is reached (what is shared counts as often as it is met; a slice's spare places count too). A statement '..UptoSaid' is the law's where the arguments, and the package variables that the reading takes, are together of bulk at most 1048576: NARROWER than '..Said'. Prove '..Said' where nothing that the law and all that it calls make is longer than what came in: it says more and counts as full. Else prove '..UptoSaid'. A law counts once. -/
mutual
def uptoBulk {H : Type} : DataW H → Nat
  | .lit (.string bytes) => bytes.length + 1
  | .lit _ => 1
  | .nil => 1
  | .ptr d => uptoBulk d + 1
  | .slice elems spare => uptoBulkAll elems + uptoBulkAll spare + 1
  | .agg parts => uptoBulkAll parts + 1
  | .iface _ d => uptoBulk d + 1
  | .map entries => uptoBulkEntries entries + 1
  | .held _ => 1
def uptoBulkAll {H : Type} : List (DataW H) → Nat
  | [] => 0
  | d :: r => uptoBulk d + uptoBulkAll r
def uptoBulkEntries {H : Type} : List (Lit × DataW H) → Nat
  | [] => 0
  | x :: r => uptoBulkEntry x + uptoBulkEntries r
def uptoBulkEntry {H : Type} : Lit × DataW H → Nat
  | (.string bytes, d) => bytes.length + uptoBulk d + 1
  | (_, d) => uptoBulk d + 1
 end
def uptoSmall : (H : Type) → List (DataW H) → Bool := fun _ ds => decide (uptoBulkAll ds ≤ 1048576)
def OpenSpec.upto (s : _root_.Go.ChangeSpec) : _root_.Go.OpenSpec := { _root_.Go.OpenSpec.ofChange s with cond := some uptoSmall }

/-- 'barrowlaw16.DlogAnswers', WHERE WHAT IT READS IS OF BULK AT MOST 1048576: true; the input reads as it did. -/
def dlogAnswersUptoRow : OpenClaim := { program := "ytgnclfeicgbjpaa", sum := "0da4cfc5e22fc9969136b98a24f3a5486a395f95ca0afb451a609872e14fa515", func := "barrow/barrowlaw16.DlogAnswers", spec := "dlogAnswers", unfollowed := true, recurses := true, apart := false, narrowed := true }
def DlogAnswersUptoSaid : Prop := dlogAnswersUptoRow.holds Try.pinned (OpenSpec.upto dlogAnswersSpec)

/-- 'barrowlaw16.DlogWalks', WHERE WHAT IT READS IS OF BULK AT MOST 1048576: true; the input reads as it did. -/
def dlogWalksUptoRow : OpenClaim := { program := "ytgnclfeicgbjpaa", sum := "0da4cfc5e22fc9969136b98a24f3a5486a395f95ca0afb451a609872e14fa515", func := "barrow/barrowlaw16.DlogWalks", spec := "dlogWalks", unfollowed := true, recurses := true, apart := false, narrowed := true }
def DlogWalksUptoSaid : Prop := dlogWalksUptoRow.holds Try.pinned (OpenSpec.upto dlogWalksSpec)

end Rows
end Go.Proofs.Ytgnclfeicgbjpaa
