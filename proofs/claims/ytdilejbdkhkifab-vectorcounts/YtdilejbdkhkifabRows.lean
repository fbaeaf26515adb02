/-
  No cell of these rows narrows 'for every input' (looked for: loops, veiled, ifaces, maps, wideKeys, modest, calm, conditions, laid).
  DERIVED. THE GIVEN ROWS OF THIS SEAT. 3 by the template 'for every input the law returns true; each argument reads behind the call as it read before'; 0 by the template 'total and deterministic' (their statements: YtdilejbdkhkifabTotals.lean).
  GIVEN WITH THE SEED: the statements are not yours to turn. If you find one false, say at which input.
  Laid BY PROGRAM, IN A SANDBOX (cutbox-rows.mjs): the forced cells as the released guide's own fill.sh prints them over the translation 68faceffef2e1187… (all of the seat's roots in one cut). By AI agents, Wed Nov 11 2026. No macro, syntax, notation, axiom, sorry.
-/
import Derived.Test.YtdilejbdkhkifabChecked
import GoSem.Claim
import GoSem.ClaimJoined
import GoSem.ClaimMapViews
import Derived.JoinedTies
import Derived.KernelRfl
namespace Go.Proofs.Ytdilejbdkhkifab
/- THE CELL 'sum', in the pinned program and in every row, IS THE sha256 OF THE DUMP (.gsa) THAT YtdilejbdkhkifabProg.lean LOADS. Nothing in Lean hashes anything: it is a label: what it is worth is what the hold of that sum in a sandbox is worth. -/
noncomputable def Try.pinned : Pinned := { name := "ytdilejbdkhkifab", sum := "68faceffef2e11878f7c0448f07387762bde55a2e44f72cfbfb21602657cd53a", checked := Try.checked }
namespace Rows
def none {H : Type} : Left H := { results := [], args := [] }

/-- 'barrowlaw03.VectorLeast': WHATEVER THE INPUT: true; the input reads as it did. -/
def vectorLeastSpec : ChangeSpec := { name := "vectorLeast", fn := fun _ => fun
  | [d1, d2, d3] => { results := [.lit (.bool true)], args := [d1, d2, d3] }
  | _ => none }
def vectorLeastRow : OpenClaim := { program := "ytdilejbdkhkifab", sum := "68faceffef2e11878f7c0448f07387762bde55a2e44f72cfbfb21602657cd53a", func := "barrow/barrowlaw03.VectorLeast", spec := "vectorLeast", apart := false }
def VectorLeastSaid : Prop := vectorLeastRow.holds Try.pinned (OpenSpec.ofChange vectorLeastSpec)

/-- ITS FALSE NEIGHBOUR: 'it returns false'. Refute it at one input. -/
def vectorLeastWrong : ChangeSpec := { name := "vectorLeast", fn := fun _ => fun
  | [d1, d2, d3] => { results := [.lit (.bool false)], args := [d1, d2, d3] }
  | _ => none }
def VectorLeastWrongFalsely : Prop := vectorLeastRow.holds Try.pinned (OpenSpec.ofChange vectorLeastWrong)

/-- 'barrowlaw03.VectorTotal': WHATEVER THE INPUT: true; the input reads as it did. -/
def vectorTotalSpec : ChangeSpec := { name := "vectorTotal", fn := fun _ => fun
  | [d1, d2, d3] => { results := [.lit (.bool true)], args := [d1, d2, d3] }
  | _ => none }
def vectorTotalRow : OpenClaim := { program := "ytdilejbdkhkifab", sum := "68faceffef2e11878f7c0448f07387762bde55a2e44f72cfbfb21602657cd53a", func := "barrow/barrowlaw03.VectorTotal", spec := "vectorTotal", apart := false }
def VectorTotalSaid : Prop := vectorTotalRow.holds Try.pinned (OpenSpec.ofChange vectorTotalSpec)

/-- ITS FALSE NEIGHBOUR: 'it returns false'. Refute it at one input. -/
def vectorTotalWrong : ChangeSpec := { name := "vectorTotal", fn := fun _ => fun
  | [d1, d2, d3] => { results := [.lit (.bool false)], args := [d1, d2, d3] }
  | _ => none }
def VectorTotalWrongFalsely : Prop := vectorTotalRow.holds Try.pinned (OpenSpec.ofChange vectorTotalWrong)

/-- 'barrowlaw03.VectorCounts': WHATEVER THE INPUT: true; the input reads as it did. -/
def vectorCountsSpec : ChangeSpec := { name := "vectorCounts", fn := fun _ => fun
  | [d1, d2, d3] => { results := [.lit (.bool true)], args := [d1, d2, d3] }
  | _ => none }
def vectorCountsRow : OpenClaim := { program := "ytdilejbdkhkifab", sum := "68faceffef2e11878f7c0448f07387762bde55a2e44f72cfbfb21602657cd53a", func := "barrow/barrowlaw03.VectorCounts", spec := "vectorCounts", apart := false }
def VectorCountsSaid : Prop := vectorCountsRow.holds Try.pinned (OpenSpec.ofChange vectorCountsSpec)

/-- ITS FALSE NEIGHBOUR: 'it returns false'. Refute it at one input. -/
def vectorCountsWrong : ChangeSpec := { name := "vectorCounts", fn := fun _ => fun
  | [d1, d2, d3] => { results := [.lit (.bool false)], args := [d1, d2, d3] }
  | _ => none }
def VectorCountsWrongFalsely : Prop := vectorCountsRow.holds Try.pinned (OpenSpec.ofChange vectorCountsWrong)

/- THE SECOND FORM. 'bulk': how many values and letters a reading holds, each counted each time it is reached (what is shared counts as often as it is met; a slice's spare places count too). A statement '..UptoSaid' is the law's where the arguments, and the package variables that the reading takes, are together of bulk at most 1048576: NARROWER than '..Said'. Prove '..Said' where nothing that the law and all that it calls make is longer than what came in: it says more and counts as full. Else prove '..UptoSaid'. A law counts once. -/
mutual
def uptoBulk {H : Type} : DataW H → Nat
  | .lit (.string bytes) => bytes.length + 1
  | .lit _ => 1
  | .nil => 1
  | .ptr d => uptoBulk d + 1
  | .slice elems spare => uptoBulkAll elems + uptoBulkAll spare + 1
  | .agg parts => uptoBulkAll parts + 1
  | .iface _ d => uptoBulk d + 1
  | .map entries => uptoBulkEntries entries + 1
  | .held _ => 1
def uptoBulkAll {H : Type} : List (DataW H) → Nat
  | [] => 0
  | d :: r => uptoBulk d + uptoBulkAll r
def uptoBulkEntries {H : Type} : List (Lit × DataW H) → Nat
  | [] => 0
  | x :: r => uptoBulkEntry x + uptoBulkEntries r
def uptoBulkEntry {H : Type} : Lit × DataW H → Nat
  | (.string bytes, d) => bytes.length + uptoBulk d + 1
  | (_, d) => uptoBulk d + 1
 end
def uptoSmall : (H : Type) → List (DataW H) → Bool := fun _ ds => decide (uptoBulkAll ds ≤ 1048576)
def OpenSpec.upto (s : _root_.Go.ChangeSpec) : _root_.Go.OpenSpec := { _root_.Go.OpenSpec.ofChange s with cond := some uptoSmall }

/-- 'barrowlaw03.VectorLeast', WHERE WHAT IT READS IS OF BULK AT MOST 1048576: true; the input reads as it did. -/
def vectorLeastUptoRow : OpenClaim := { program := "ytdilejbdkhkifab", sum := "68faceffef2e11878f7c0448f07387762bde55a2e44f72cfbfb21602657cd53a", func := "barrow/barrowlaw03.VectorLeast", spec := "vectorLeast", apart := false, narrowed := true }
def VectorLeastUptoSaid : Prop := vectorLeastUptoRow.holds Try.pinned (OpenSpec.upto vectorLeastSpec)

/-- 'barrowlaw03.VectorTotal', WHERE WHAT IT READS IS OF BULK AT MOST 1048576: true; the input reads as it did. -/
def vectorTotalUptoRow : OpenClaim := { program := "ytdilejbdkhkifab", sum := "68faceffef2e11878f7c0448f07387762bde55a2e44f72cfbfb21602657cd53a", func := "barrow/barrowlaw03.VectorTotal", spec := "vectorTotal", apart := false, narrowed := true }
def VectorTotalUptoSaid : Prop := vectorTotalUptoRow.holds Try.pinned (OpenSpec.upto vectorTotalSpec)

/-- 'barrowlaw03.VectorCounts', WHERE WHAT IT READS IS OF BULK AT MOST 1048576: true; the input reads as it did. -/
def vectorCountsUptoRow : OpenClaim := { program := "ytdilejbdkhkifab", sum := "68faceffef2e11878f7c0448f07387762bde55a2e44f72cfbfb21602657cd53a", func := "barrow/barrowlaw03.VectorCounts", spec := "vectorCounts", apart := false, narrowed := true }
def VectorCountsUptoSaid : Prop := vectorCountsUptoRow.holds Try.pinned (OpenSpec.upto vectorCountsSpec)

end Rows
end Go.Proofs.Ytdilejbdkhkifab
