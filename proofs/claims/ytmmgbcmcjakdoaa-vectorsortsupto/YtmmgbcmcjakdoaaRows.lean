/-
  No cell of these rows narrows 'for every input' (looked for: loops, veiled, ifaces, maps, wideKeys, modest, calm, conditions, laid).
  DERIVED. THE GIVEN ROWS OF THIS SEAT. 3 by the template 'for every input the law returns true; each argument reads behind the call as it read before'; 0 by the template 'total and deterministic' (their statements: YtmmgbcmcjakdoaaTotals.lean).
  GIVEN WITH THE SEED: the statements are not yours to turn. If you find one false, say at which input.
  Laid BY PROGRAM, IN A SANDBOX (cutbox-rows.mjs): the forced cells as the released guide's own fill.sh prints them over the translation 20c6768903c87eb5… (all of the seat's roots in one cut). By AI agents, Wed Nov 11 2026. No macro, syntax, notation, axiom, sorry.
-/
import Derived.Test.YtmmgbcmcjakdoaaChecked
import GoSem.Claim
import GoSem.ClaimJoined
import GoSem.ClaimMapViews
import Derived.JoinedTies
import Derived.KernelRfl
namespace Go.Proofs.Ytmmgbcmcjakdoaa
/- THE CELL 'sum', in the pinned program and in every row, IS THE sha256 OF THE DUMP (.gsa) THAT YtmmgbcmcjakdoaaProg.lean LOADS. Nothing in Lean hashes anything: it is a label: what it is worth is what the hold of that sum in a sandbox is worth. -/
noncomputable def Try.pinned : Pinned := { name := "ytmmgbcmcjakdoaa", sum := "20c6768903c87eb5f3864cdd73bab42d005cdff44abdaa49c0b354cd227afed4", checked := Try.checked }
namespace Rows
def none {H : Type} : Left H := { results := [], args := [] }

/-- 'barrowlaw03.VectorSorts': WHATEVER THE INPUT: true; the input reads as it did. -/
def vectorSortsSpec : ChangeSpec := { name := "vectorSorts", fn := fun _ => fun
  | [d] => { results := [.lit (.bool true)], args := [d] }
  | _ => none }
def vectorSortsRow : OpenClaim := { program := "ytmmgbcmcjakdoaa", sum := "20c6768903c87eb5f3864cdd73bab42d005cdff44abdaa49c0b354cd227afed4", func := "barrow/barrowlaw03.VectorSorts", spec := "vectorSorts", unfollowed := true, recurses := true, apart := false }
def VectorSortsSaid : Prop := vectorSortsRow.holds Try.pinned (OpenSpec.ofChange vectorSortsSpec)

/-- ITS FALSE NEIGHBOUR: 'it returns false'. Refute it at one input. -/
def vectorSortsWrong : ChangeSpec := { name := "vectorSorts", fn := fun _ => fun
  | [d] => { results := [.lit (.bool false)], args := [d] }
  | _ => none }
def VectorSortsWrongFalsely : Prop := vectorSortsRow.holds Try.pinned (OpenSpec.ofChange vectorSortsWrong)

/-- 'barrowlaw03.VectorRanked': WHATEVER THE INPUT: true; the input reads as it did. -/
def vectorRankedSpec : ChangeSpec := { name := "vectorRanked", fn := fun _ => fun
  | [d] => { results := [.lit (.bool true)], args := [d] }
  | _ => none }
def vectorRankedRow : OpenClaim := { program := "ytmmgbcmcjakdoaa", sum := "20c6768903c87eb5f3864cdd73bab42d005cdff44abdaa49c0b354cd227afed4", func := "barrow/barrowlaw03.VectorRanked", spec := "vectorRanked", unfollowed := true, recurses := true, apart := false }
def VectorRankedSaid : Prop := vectorRankedRow.holds Try.pinned (OpenSpec.ofChange vectorRankedSpec)

/-- ITS FALSE NEIGHBOUR: 'it returns false'. Refute it at one input. -/
def vectorRankedWrong : ChangeSpec := { name := "vectorRanked", fn := fun _ => fun
  | [d] => { results := [.lit (.bool false)], args := [d] }
  | _ => none }
def VectorRankedWrongFalsely : Prop := vectorRankedRow.holds Try.pinned (OpenSpec.ofChange vectorRankedWrong)

/-- 'barrowlaw03.VectorLatest': WHATEVER THE INPUT: true; the input reads as it did. -/
def vectorLatestSpec : ChangeSpec := { name := "vectorLatest", fn := fun _ => fun
  | [d] => { results := [.lit (.bool true)], args := [d] }
  | _ => none }
def vectorLatestRow : OpenClaim := { program := "ytmmgbcmcjakdoaa", sum := "20c6768903c87eb5f3864cdd73bab42d005cdff44abdaa49c0b354cd227afed4", func := "barrow/barrowlaw03.VectorLatest", spec := "vectorLatest", unfollowed := true, recurses := true, apart := false }
def VectorLatestSaid : Prop := vectorLatestRow.holds Try.pinned (OpenSpec.ofChange vectorLatestSpec)

/-- ITS FALSE NEIGHBOUR: 'it returns false'. Refute it at one input. -/
def vectorLatestWrong : ChangeSpec := { name := "vectorLatest", fn := fun _ => fun
  | [d] => { results := [.lit (.bool false)], args := [d] }
  | _ => none }
def VectorLatestWrongFalsely : Prop := vectorLatestRow.holds Try.pinned (OpenSpec.ofChange vectorLatestWrong)

/- THE SECOND FORM. 'bulk': how many values and letters a reading holds, each counted each time it is reached (what is shared counts as often as it is met; a slice's spare places count too). A statement '..UptoSaid' is the law's where the arguments, and the package variables that the reading takes, are together of bulk at most 1048576: NARROWER than '..Said'. Prove '..Said' where nothing that the law and all that it calls make is longer than what came in: it says more and counts as full. Else prove '..UptoSaid'. A law counts once. -/
mutual
def uptoBulk {H : Type} : DataW H → Nat
  | .lit (.string bytes) => bytes.length + 1
  | .lit _ => 1
  | .nil => 1
  | .ptr d => uptoBulk d + 1
  | .slice elems spare => uptoBulkAll elems + uptoBulkAll spare + 1
  | .agg parts => uptoBulkAll parts + 1
  | .iface _ d => uptoBulk d + 1
  | .map entries => uptoBulkEntries entries + 1
  | .held _ => 1
def uptoBulkAll {H : Type} : List (DataW H) → Nat
  | [] => 0
  | d :: r => uptoBulk d + uptoBulkAll r
def uptoBulkEntries {H : Type} : List (Lit × DataW H) → Nat
  | [] => 0
  | x :: r => uptoBulkEntry x + uptoBulkEntries r
def uptoBulkEntry {H : Type} : Lit × DataW H → Nat
  | (.string bytes, d) => bytes.length + uptoBulk d + 1
  | (_, d) => uptoBulk d + 1
 end
def uptoSmall : (H : Type) → List (DataW H) → Bool := fun _ ds => decide (uptoBulkAll ds ≤ 1048576)
def OpenSpec.upto (s : _root_.Go.ChangeSpec) : _root_.Go.OpenSpec := { _root_.Go.OpenSpec.ofChange s with cond := some uptoSmall }

/-- 'barrowlaw03.VectorSorts', WHERE WHAT IT READS IS OF BULK AT MOST 1048576: true; the input reads as it did. -/
def vectorSortsUptoRow : OpenClaim := { program := "ytmmgbcmcjakdoaa", sum := "20c6768903c87eb5f3864cdd73bab42d005cdff44abdaa49c0b354cd227afed4", func := "barrow/barrowlaw03.VectorSorts", spec := "vectorSorts", unfollowed := true, recurses := true, apart := false, narrowed := true }
def VectorSortsUptoSaid : Prop := vectorSortsUptoRow.holds Try.pinned (OpenSpec.upto vectorSortsSpec)

/-- 'barrowlaw03.VectorRanked', WHERE WHAT IT READS IS OF BULK AT MOST 1048576: true; the input reads as it did. -/
def vectorRankedUptoRow : OpenClaim := { program := "ytmmgbcmcjakdoaa", sum := "20c6768903c87eb5f3864cdd73bab42d005cdff44abdaa49c0b354cd227afed4", func := "barrow/barrowlaw03.VectorRanked", spec := "vectorRanked", unfollowed := true, recurses := true, apart := false, narrowed := true }
def VectorRankedUptoSaid : Prop := vectorRankedUptoRow.holds Try.pinned (OpenSpec.upto vectorRankedSpec)

/-- 'barrowlaw03.VectorLatest', WHERE WHAT IT READS IS OF BULK AT MOST 1048576: true; the input reads as it did. -/
def vectorLatestUptoRow : OpenClaim := { program := "ytmmgbcmcjakdoaa", sum := "20c6768903c87eb5f3864cdd73bab42d005cdff44abdaa49c0b354cd227afed4", func := "barrow/barrowlaw03.VectorLatest", spec := "vectorLatest", unfollowed := true, recurses := true, apart := false, narrowed := true }
def VectorLatestUptoSaid : Prop := vectorLatestUptoRow.holds Try.pinned (OpenSpec.upto vectorLatestSpec)

end Rows
end Go.Proofs.Ytmmgbcmcjakdoaa
