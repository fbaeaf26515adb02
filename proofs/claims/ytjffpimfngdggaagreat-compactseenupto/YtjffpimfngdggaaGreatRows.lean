/-
  No cell of these rows narrows 'for every input' (looked for: loops, veiled, ifaces, maps, wideKeys, modest, calm, conditions, laid).
  DERIVED. THE GIVEN ROWS OF THIS SEAT. 3 by the template 'for every input the law returns true; each argument reads behind the call as it read before'; 0 by the template 'total and deterministic' (their statements: YtjffpimfngdggaaGreatTotals.lean).
  GIVEN WITH THE SEED: the statements are not yours to turn. If you find one false, say at which input.
  Laid BY PROGRAM, IN A SANDBOX (cutbox-rows.mjs): the forced cells as the released guide's own fill.sh prints them over the translation 50c06d4c4903581b… (all of the seat's roots in one cut). By AI agents, Wed Nov 11 2026. No macro, syntax, notation, axiom, sorry.
-/
import Derived.Test.YtjffpimfngdggaaGreatChecked
import GoSem.Claim
import GoSem.ClaimJoined
import GoSem.ClaimMapViews
import Derived.JoinedTies
import Derived.KernelRfl
namespace Go.Proofs.YtjffpimfngdggaaGreat
/- THE CELL 'sum', in the pinned program and in every row, IS THE sha256 OF THE DUMP (.gsa) THAT YtjffpimfngdggaaGreatProg.lean LOADS. Nothing in Lean hashes anything: it is a label: what it is worth is what the hold of that sum in a sandbox is worth. -/
noncomputable def Tryz.pinned : Pinned := { name := "ytjffpimfngdggaagreat", sum := "50c06d4c4903581bf5b3102ef37fc81eb8fd41e9cc39459acd9117da9e2bf765", checked := Tryz.checked }
namespace Rows
def none {H : Type} : Left H := { results := [], args := [] }

/-- 'barrowlaw13.CompactStates': WHATEVER THE INPUT: true; the input reads as it did. -/
def compactStatesSpec : ChangeSpec := { name := "compactStates", fn := fun _ => fun
  | [d] => { results := [.lit (.bool true)], args := [d] }
  | _ => none }
def compactStatesRow : OpenClaim := { program := "ytjffpimfngdggaagreat", sum := "50c06d4c4903581bf5b3102ef37fc81eb8fd41e9cc39459acd9117da9e2bf765", func := "barrow/barrowlaw13.CompactStates", spec := "compactStates", inPlace := ["internal/bytealg.abigen_runtime_cmpstring"], unfollowed := true, recurses := true, apart := false }
def CompactStatesSaid : Prop := compactStatesRow.holds Tryz.pinned (OpenSpec.ofChange compactStatesSpec)

/-- ITS FALSE NEIGHBOUR: 'it returns false'. Refute it at one input. -/
def compactStatesWrong : ChangeSpec := { name := "compactStates", fn := fun _ => fun
  | [d] => { results := [.lit (.bool false)], args := [d] }
  | _ => none }
def CompactStatesWrongFalsely : Prop := compactStatesRow.holds Tryz.pinned (OpenSpec.ofChange compactStatesWrong)

/-- 'barrowlaw13.CompactFates': WHATEVER THE INPUT: true; the input reads as it did. -/
def compactFatesSpec : ChangeSpec := { name := "compactFates", fn := fun _ => fun
  | [d] => { results := [.lit (.bool true)], args := [d] }
  | _ => none }
def compactFatesRow : OpenClaim := { program := "ytjffpimfngdggaagreat", sum := "50c06d4c4903581bf5b3102ef37fc81eb8fd41e9cc39459acd9117da9e2bf765", func := "barrow/barrowlaw13.CompactFates", spec := "compactFates", inPlace := ["internal/bytealg.abigen_runtime_cmpstring"], unfollowed := true, recurses := true, apart := false }
def CompactFatesSaid : Prop := compactFatesRow.holds Tryz.pinned (OpenSpec.ofChange compactFatesSpec)

/-- ITS FALSE NEIGHBOUR: 'it returns false'. Refute it at one input. -/
def compactFatesWrong : ChangeSpec := { name := "compactFates", fn := fun _ => fun
  | [d] => { results := [.lit (.bool false)], args := [d] }
  | _ => none }
def CompactFatesWrongFalsely : Prop := compactFatesRow.holds Tryz.pinned (OpenSpec.ofChange compactFatesWrong)

/-- 'barrowlaw13.CompactSeen': WHATEVER THE INPUT: true; the input reads as it did. -/
def compactSeenSpec : ChangeSpec := { name := "compactSeen", fn := fun _ => fun
  | [d] => { results := [.lit (.bool true)], args := [d] }
  | _ => none }
def compactSeenRow : OpenClaim := { program := "ytjffpimfngdggaagreat", sum := "50c06d4c4903581bf5b3102ef37fc81eb8fd41e9cc39459acd9117da9e2bf765", func := "barrow/barrowlaw13.CompactSeen", spec := "compactSeen", inPlace := ["internal/bytealg.abigen_runtime_cmpstring"], unfollowed := true, recurses := true, apart := false }
def CompactSeenSaid : Prop := compactSeenRow.holds Tryz.pinned (OpenSpec.ofChange compactSeenSpec)

/-- ITS FALSE NEIGHBOUR: 'it returns false'. Refute it at one input. -/
def compactSeenWrong : ChangeSpec := { name := "compactSeen", fn := fun _ => fun
  | [d] => { results := [.lit (.bool false)], args := [d] }
  | _ => none }
def CompactSeenWrongFalsely : Prop := compactSeenRow.holds Tryz.pinned (OpenSpec.ofChange compactSeenWrong)

/- THE SECOND FORM. 'bulk': how many values and letters a reading holds, each counted each time it is reached (what is shared counts as often as it is met; a slice's spare places count too). A statement '..UptoSaid' is the law's where the arguments, and the package variables that the reading takes, are together of bulk at most 1048576: NARROWER than '..Said'. Prove '..Said' where nothing that the law and all that it calls make is longer than what came in: it says more and counts as full. Else prove '..UptoSaid'. A law counts once. -/
mutual
def uptoBulk {H : Type} : DataW H → Nat
  | .lit (.string bytes) => bytes.length + 1
  | .lit _ => 1
  | .nil => 1
  | .ptr d => uptoBulk d + 1
  | .slice elems spare => uptoBulkAll elems + uptoBulkAll spare + 1
  | .agg parts => uptoBulkAll parts + 1
  | .iface _ d => uptoBulk d + 1
  | .map entries => uptoBulkEntries entries + 1
  | .held _ => 1
def uptoBulkAll {H : Type} : List (DataW H) → Nat
  | [] => 0
  | d :: r => uptoBulk d + uptoBulkAll r
def uptoBulkEntries {H : Type} : List (Lit × DataW H) → Nat
  | [] => 0
  | x :: r => uptoBulkEntry x + uptoBulkEntries r
def uptoBulkEntry {H : Type} : Lit × DataW H → Nat
  | (.string bytes, d) => bytes.length + uptoBulk d + 1
  | (_, d) => uptoBulk d + 1
 end
def uptoSmall : (H : Type) → List (DataW H) → Bool := fun _ ds => decide (uptoBulkAll ds ≤ 1048576)
def OpenSpec.upto (s : _root_.Go.ChangeSpec) : _root_.Go.OpenSpec := { _root_.Go.OpenSpec.ofChange s with cond := some uptoSmall }

/-- 'barrowlaw13.CompactStates', WHERE WHAT IT READS IS OF BULK AT MOST 1048576: true; the input reads as it did. -/
def compactStatesUptoRow : OpenClaim := { program := "ytjffpimfngdggaagreat", sum := "50c06d4c4903581bf5b3102ef37fc81eb8fd41e9cc39459acd9117da9e2bf765", func := "barrow/barrowlaw13.CompactStates", spec := "compactStates", inPlace := ["internal/bytealg.abigen_runtime_cmpstring"], unfollowed := true, recurses := true, apart := false, narrowed := true }
def CompactStatesUptoSaid : Prop := compactStatesUptoRow.holds Tryz.pinned (OpenSpec.upto compactStatesSpec)

/-- 'barrowlaw13.CompactFates', WHERE WHAT IT READS IS OF BULK AT MOST 1048576: true; the input reads as it did. -/
def compactFatesUptoRow : OpenClaim := { program := "ytjffpimfngdggaagreat", sum := "50c06d4c4903581bf5b3102ef37fc81eb8fd41e9cc39459acd9117da9e2bf765", func := "barrow/barrowlaw13.CompactFates", spec := "compactFates", inPlace := ["internal/bytealg.abigen_runtime_cmpstring"], unfollowed := true, recurses := true, apart := false, narrowed := true }
def CompactFatesUptoSaid : Prop := compactFatesUptoRow.holds Tryz.pinned (OpenSpec.upto compactFatesSpec)

/-- 'barrowlaw13.CompactSeen', WHERE WHAT IT READS IS OF BULK AT MOST 1048576: true; the input reads as it did. -/
def compactSeenUptoRow : OpenClaim := { program := "ytjffpimfngdggaagreat", sum := "50c06d4c4903581bf5b3102ef37fc81eb8fd41e9cc39459acd9117da9e2bf765", func := "barrow/barrowlaw13.CompactSeen", spec := "compactSeen", inPlace := ["internal/bytealg.abigen_runtime_cmpstring"], unfollowed := true, recurses := true, apart := false, narrowed := true }
def CompactSeenUptoSaid : Prop := compactSeenUptoRow.holds Tryz.pinned (OpenSpec.upto compactSeenSpec)

end Rows
end Go.Proofs.YtjffpimfngdggaaGreat
