/-
  No cell of these rows narrows 'for every input' (looked for: loops, veiled, ifaces, maps, wideKeys, modest, calm, conditions, laid).
  DERIVED. THE GIVEN ROWS OF THIS SEAT. 5 by the template 'for every input the law returns true; each argument reads behind the call as it read before'; 0 by the template 'total and deterministic' (their statements: YtmhdhedjeaaciaaTotals.lean).
  GIVEN WITH THE SEED: the statements are not yours to turn. If you find one false, say at which input.
  Laid BY PROGRAM, IN A SANDBOX (cutbox-rows.mjs): the forced cells as the released guide's own fill.sh prints them over the translation b5835d5f8fd62d06… (all of the seat's roots in one cut). By AI agents, Wed Nov 11 2026. No macro, syntax, notation, axiom, sorry.
-/
import Derived.Test.YtmhdhedjeaaciaaChecked
import GoSem.Claim
import GoSem.ClaimJoined
import GoSem.ClaimMapViews
import Derived.JoinedTies
import Derived.KernelRfl
namespace Go.Proofs.Ytmhdhedjeaaciaa
/- THE CELL 'sum', in the pinned program and in every row, IS THE sha256 OF THE DUMP (.gsa) THAT YtmhdhedjeaaciaaProg.lean LOADS. Nothing in Lean hashes anything: it is a label: what it is worth is what the hold of that sum in a sandbox is worth. -/
noncomputable def Try.pinned : Pinned := { name := "ytmhdhedjeaaciaa", sum := "b5835d5f8fd62d068315922a646731210c8d9e19ede70dfb1a86afd0ce276382", checked := Try.checked }
namespace Rows
def none {H : Type} : Left H := { results := [], args := [] }

/-- 'barrowlaw06.LinesReads': WHATEVER THE INPUT: true; the input reads as it did. -/
def linesReadsSpec : ChangeSpec := { name := "linesReads", fn := fun _ => fun
  | [d1, d2] => { results := [.lit (.bool true)], args := [d1, d2] }
  | _ => none }
def linesReadsRow : OpenClaim := { program := "ytmhdhedjeaaciaa", sum := "b5835d5f8fd62d068315922a646731210c8d9e19ede70dfb1a86afd0ce276382", func := "barrow/barrowlaw06.LinesReads", spec := "linesReads", unfollowed := true, recurses := true, apart := false }
def LinesReadsSaid : Prop := linesReadsRow.holds Try.pinned (OpenSpec.ofChange linesReadsSpec)

/-- ITS FALSE NEIGHBOUR: 'it returns false'. Refute it at one input. -/
def linesReadsWrong : ChangeSpec := { name := "linesReads", fn := fun _ => fun
  | [d1, d2] => { results := [.lit (.bool false)], args := [d1, d2] }
  | _ => none }
def LinesReadsWrongFalsely : Prop := linesReadsRow.holds Try.pinned (OpenSpec.ofChange linesReadsWrong)

/-- 'barrowlaw06.LinesAdds': WHATEVER THE INPUT: true; the input reads as it did. -/
def linesAddsSpec : ChangeSpec := { name := "linesAdds", fn := fun _ => fun
  | [d] => { results := [.lit (.bool true)], args := [d] }
  | _ => none }
def linesAddsRow : OpenClaim := { program := "ytmhdhedjeaaciaa", sum := "b5835d5f8fd62d068315922a646731210c8d9e19ede70dfb1a86afd0ce276382", func := "barrow/barrowlaw06.LinesAdds", spec := "linesAdds", unfollowed := true, recurses := true, apart := false }
def LinesAddsSaid : Prop := linesAddsRow.holds Try.pinned (OpenSpec.ofChange linesAddsSpec)

/-- ITS FALSE NEIGHBOUR: 'it returns false'. Refute it at one input. -/
def linesAddsWrong : ChangeSpec := { name := "linesAdds", fn := fun _ => fun
  | [d] => { results := [.lit (.bool false)], args := [d] }
  | _ => none }
def LinesAddsWrongFalsely : Prop := linesAddsRow.holds Try.pinned (OpenSpec.ofChange linesAddsWrong)

/-- 'barrowlaw06.LinesFolds': WHATEVER THE INPUT: true; the input reads as it did. -/
def linesFoldsSpec : ChangeSpec := { name := "linesFolds", fn := fun _ => fun
  | [d1, d2] => { results := [.lit (.bool true)], args := [d1, d2] }
  | _ => none }
def linesFoldsRow : OpenClaim := { program := "ytmhdhedjeaaciaa", sum := "b5835d5f8fd62d068315922a646731210c8d9e19ede70dfb1a86afd0ce276382", func := "barrow/barrowlaw06.LinesFolds", spec := "linesFolds", unfollowed := true, recurses := true, apart := false }
def LinesFoldsSaid : Prop := linesFoldsRow.holds Try.pinned (OpenSpec.ofChange linesFoldsSpec)

/-- ITS FALSE NEIGHBOUR: 'it returns false'. Refute it at one input. -/
def linesFoldsWrong : ChangeSpec := { name := "linesFolds", fn := fun _ => fun
  | [d1, d2] => { results := [.lit (.bool false)], args := [d1, d2] }
  | _ => none }
def LinesFoldsWrongFalsely : Prop := linesFoldsRow.holds Try.pinned (OpenSpec.ofChange linesFoldsWrong)

/-- 'barrowlaw06.LinesSettles': WHATEVER THE INPUT: true; the input reads as it did. -/
def linesSettlesSpec : ChangeSpec := { name := "linesSettles", fn := fun _ => fun
  | [d1, d2] => { results := [.lit (.bool true)], args := [d1, d2] }
  | _ => none }
def linesSettlesRow : OpenClaim := { program := "ytmhdhedjeaaciaa", sum := "b5835d5f8fd62d068315922a646731210c8d9e19ede70dfb1a86afd0ce276382", func := "barrow/barrowlaw06.LinesSettles", spec := "linesSettles", unfollowed := true, recurses := true, apart := false }
def LinesSettlesSaid : Prop := linesSettlesRow.holds Try.pinned (OpenSpec.ofChange linesSettlesSpec)

/-- ITS FALSE NEIGHBOUR: 'it returns false'. Refute it at one input. -/
def linesSettlesWrong : ChangeSpec := { name := "linesSettles", fn := fun _ => fun
  | [d1, d2] => { results := [.lit (.bool false)], args := [d1, d2] }
  | _ => none }
def LinesSettlesWrongFalsely : Prop := linesSettlesRow.holds Try.pinned (OpenSpec.ofChange linesSettlesWrong)

/-- 'barrowtop.BarrowLinesAnyOrder': WHATEVER THE INPUT: true; the input reads as it did. -/
def barrowLinesAnyOrderSpec : ChangeSpec := { name := "barrowLinesAnyOrder", fn := fun _ => fun
  | [d1, d2] => { results := [.lit (.bool true)], args := [d1, d2] }
  | _ => none }
def barrowLinesAnyOrderRow : OpenClaim := { program := "ytmhdhedjeaaciaa", sum := "b5835d5f8fd62d068315922a646731210c8d9e19ede70dfb1a86afd0ce276382", func := "barrow/barrowtop.BarrowLinesAnyOrder", spec := "barrowLinesAnyOrder", unfollowed := true, recurses := true, apart := false }
def BarrowLinesAnyOrderSaid : Prop := barrowLinesAnyOrderRow.holds Try.pinned (OpenSpec.ofChange barrowLinesAnyOrderSpec)

/-- ITS FALSE NEIGHBOUR: 'it returns false'. Refute it at one input. -/
def barrowLinesAnyOrderWrong : ChangeSpec := { name := "barrowLinesAnyOrder", fn := fun _ => fun
  | [d1, d2] => { results := [.lit (.bool false)], args := [d1, d2] }
  | _ => none }
def BarrowLinesAnyOrderWrongFalsely : Prop := barrowLinesAnyOrderRow.holds Try.pinned (OpenSpec.ofChange barrowLinesAnyOrderWrong)

/- THE SECOND FORM. 'bulk': how many values and letters a reading holds, each counted each time it is reached (what is shared counts as often as it is met; a slice's spare places count too). A statement '..UptoSaid' is the law's where the arguments, and the package variables that the reading takes, are together of bulk at most 1048576: NARROWER than '..Said'. Prove '..Said' where nothing that the law and all that it calls make is longer than what came in: it says more and counts as full. Else prove '..UptoSaid'. A law counts once. -/
mutual
def uptoBulk {H : Type} : DataW H → Nat
  | .lit (.string bytes) => bytes.length + 1
  | .lit _ => 1
  | .nil => 1
  | .ptr d => uptoBulk d + 1
  | .slice elems spare => uptoBulkAll elems + uptoBulkAll spare + 1
  | .agg parts => uptoBulkAll parts + 1
  | .iface _ d => uptoBulk d + 1
  | .map entries => uptoBulkEntries entries + 1
  | .held _ => 1
def uptoBulkAll {H : Type} : List (DataW H) → Nat
  | [] => 0
  | d :: r => uptoBulk d + uptoBulkAll r
def uptoBulkEntries {H : Type} : List (Lit × DataW H) → Nat
  | [] => 0
  | x :: r => uptoBulkEntry x + uptoBulkEntries r
def uptoBulkEntry {H : Type} : Lit × DataW H → Nat
  | (.string bytes, d) => bytes.length + uptoBulk d + 1
  | (_, d) => uptoBulk d + 1
 end
def uptoSmall : (H : Type) → List (DataW H) → Bool := fun _ ds => decide (uptoBulkAll ds ≤ 1048576)
def OpenSpec.upto (s : _root_.Go.ChangeSpec) : _root_.Go.OpenSpec := { _root_.Go.OpenSpec.ofChange s with cond := some uptoSmall }

/-- 'barrowlaw06.LinesReads', WHERE WHAT IT READS IS OF BULK AT MOST 1048576: true; the input reads as it did. -/
def linesReadsUptoRow : OpenClaim := { program := "ytmhdhedjeaaciaa", sum := "b5835d5f8fd62d068315922a646731210c8d9e19ede70dfb1a86afd0ce276382", func := "barrow/barrowlaw06.LinesReads", spec := "linesReads", unfollowed := true, recurses := true, apart := false, narrowed := true }
def LinesReadsUptoSaid : Prop := linesReadsUptoRow.holds Try.pinned (OpenSpec.upto linesReadsSpec)

/-- 'barrowlaw06.LinesAdds', WHERE WHAT IT READS IS OF BULK AT MOST 1048576: true; the input reads as it did. -/
def linesAddsUptoRow : OpenClaim := { program := "ytmhdhedjeaaciaa", sum := "b5835d5f8fd62d068315922a646731210c8d9e19ede70dfb1a86afd0ce276382", func := "barrow/barrowlaw06.LinesAdds", spec := "linesAdds", unfollowed := true, recurses := true, apart := false, narrowed := true }
def LinesAddsUptoSaid : Prop := linesAddsUptoRow.holds Try.pinned (OpenSpec.upto linesAddsSpec)

/-- 'barrowlaw06.LinesFolds', WHERE WHAT IT READS IS OF BULK AT MOST 1048576: true; the input reads as it did. -/
def linesFoldsUptoRow : OpenClaim := { program := "ytmhdhedjeaaciaa", sum := "b5835d5f8fd62d068315922a646731210c8d9e19ede70dfb1a86afd0ce276382", func := "barrow/barrowlaw06.LinesFolds", spec := "linesFolds", unfollowed := true, recurses := true, apart := false, narrowed := true }
def LinesFoldsUptoSaid : Prop := linesFoldsUptoRow.holds Try.pinned (OpenSpec.upto linesFoldsSpec)

/-- 'barrowlaw06.LinesSettles', WHERE WHAT IT READS IS OF BULK AT MOST 1048576: true; the input reads as it did. -/
def linesSettlesUptoRow : OpenClaim := { program := "ytmhdhedjeaaciaa", sum := "b5835d5f8fd62d068315922a646731210c8d9e19ede70dfb1a86afd0ce276382", func := "barrow/barrowlaw06.LinesSettles", spec := "linesSettles", unfollowed := true, recurses := true, apart := false, narrowed := true }
def LinesSettlesUptoSaid : Prop := linesSettlesUptoRow.holds Try.pinned (OpenSpec.upto linesSettlesSpec)

/-- 'barrowtop.BarrowLinesAnyOrder', WHERE WHAT IT READS IS OF BULK AT MOST 1048576: true; the input reads as it did. -/
def barrowLinesAnyOrderUptoRow : OpenClaim := { program := "ytmhdhedjeaaciaa", sum := "b5835d5f8fd62d068315922a646731210c8d9e19ede70dfb1a86afd0ce276382", func := "barrow/barrowtop.BarrowLinesAnyOrder", spec := "barrowLinesAnyOrder", unfollowed := true, recurses := true, apart := false, narrowed := true }
def BarrowLinesAnyOrderUptoSaid : Prop := barrowLinesAnyOrderUptoRow.holds Try.pinned (OpenSpec.upto barrowLinesAnyOrderSpec)

end Rows
end Go.Proofs.Ytmhdhedjeaaciaa
