/-
  No cell of these rows narrows 'for every input' (looked for: loops, veiled, ifaces, maps, wideKeys, modest, calm, conditions, laid).
  DERIVED. THE GIVEN ROWS OF THIS SEAT. 3 by the template 'for every input the law returns true; each argument reads behind the call as it read before'; 0 by the template 'total and deterministic' (their statements: YtopgmkonigaalaaTotals.lean).
  GIVEN WITH THE SEED: the statements are not yours to turn. If you find one false, say at which input.
  Laid BY PROGRAM, IN A SANDBOX (cutbox-rows.mjs): the forced cells as the released guide's own fill.sh prints them over the translation 4108ef3835cff88f… (all of the seat's roots in one cut). By AI agents, Wed Nov 11 2026. No macro, syntax, notation, axiom, sorry.
-/
import Derived.Test.YtopgmkonigaalaaChecked
import GoSem.Claim
import GoSem.ClaimJoined
import GoSem.ClaimMapViews
import Derived.JoinedTies
import Derived.KernelRfl
namespace Go.Proofs.Ytopgmkonigaalaa
/- THE CELL 'sum', in the pinned program and in every row, IS THE sha256 OF THE DUMP (.gsa) THAT YtopgmkonigaalaaProg.lean LOADS. Nothing in Lean hashes anything: it is a label: what it is worth is what the hold of that sum in a sandbox is worth. -/
noncomputable def Try.pinned : Pinned := { name := "ytopgmkonigaalaa", sum := "4108ef3835cff88f9856eccc69d63815091b77e303ce19023cf754048c992ff5", checked := Try.checked }
namespace Rows
def none {H : Type} : Left H := { results := [], args := [] }

/-- 'barrowlaw06.LinesChecks': WHATEVER THE INPUT: true; the input reads as it did. -/
def linesChecksSpec : ChangeSpec := { name := "linesChecks", fn := fun _ => fun
  | [d] => { results := [.lit (.bool true)], args := [d] }
  | _ => none }
def linesChecksRow : OpenClaim := { program := "ytopgmkonigaalaa", sum := "4108ef3835cff88f9856eccc69d63815091b77e303ce19023cf754048c992ff5", func := "barrow/barrowlaw06.LinesChecks", spec := "linesChecks", apart := false }
def LinesChecksSaid : Prop := linesChecksRow.holds Try.pinned (OpenSpec.ofChange linesChecksSpec)

/-- ITS FALSE NEIGHBOUR: 'it returns false'. Refute it at one input. -/
def linesChecksWrong : ChangeSpec := { name := "linesChecks", fn := fun _ => fun
  | [d] => { results := [.lit (.bool false)], args := [d] }
  | _ => none }
def LinesChecksWrongFalsely : Prop := linesChecksRow.holds Try.pinned (OpenSpec.ofChange linesChecksWrong)

/-- 'barrowlaw06.LinesPicks': WHATEVER THE INPUT: true; the input reads as it did. -/
def linesPicksSpec : ChangeSpec := { name := "linesPicks", fn := fun _ => fun
  | [d] => { results := [.lit (.bool true)], args := [d] }
  | _ => none }
def linesPicksRow : OpenClaim := { program := "ytopgmkonigaalaa", sum := "4108ef3835cff88f9856eccc69d63815091b77e303ce19023cf754048c992ff5", func := "barrow/barrowlaw06.LinesPicks", spec := "linesPicks", unfollowed := true, recurses := true, apart := false }
def LinesPicksSaid : Prop := linesPicksRow.holds Try.pinned (OpenSpec.ofChange linesPicksSpec)

/-- ITS FALSE NEIGHBOUR: 'it returns false'. Refute it at one input. -/
def linesPicksWrong : ChangeSpec := { name := "linesPicks", fn := fun _ => fun
  | [d] => { results := [.lit (.bool false)], args := [d] }
  | _ => none }
def LinesPicksWrongFalsely : Prop := linesPicksRow.holds Try.pinned (OpenSpec.ofChange linesPicksWrong)

/-- 'barrowlaw06.LinesOwners': WHATEVER THE INPUT: true; the input reads as it did. -/
def linesOwnersSpec : ChangeSpec := { name := "linesOwners", fn := fun _ => fun
  | [d1, d2] => { results := [.lit (.bool true)], args := [d1, d2] }
  | _ => none }
def linesOwnersRow : OpenClaim := { program := "ytopgmkonigaalaa", sum := "4108ef3835cff88f9856eccc69d63815091b77e303ce19023cf754048c992ff5", func := "barrow/barrowlaw06.LinesOwners", spec := "linesOwners", unfollowed := true, recurses := true, apart := false }
def LinesOwnersSaid : Prop := linesOwnersRow.holds Try.pinned (OpenSpec.ofChange linesOwnersSpec)

/-- ITS FALSE NEIGHBOUR: 'it returns false'. Refute it at one input. -/
def linesOwnersWrong : ChangeSpec := { name := "linesOwners", fn := fun _ => fun
  | [d1, d2] => { results := [.lit (.bool false)], args := [d1, d2] }
  | _ => none }
def LinesOwnersWrongFalsely : Prop := linesOwnersRow.holds Try.pinned (OpenSpec.ofChange linesOwnersWrong)

/- THE SECOND FORM. 'bulk': how many values and letters a reading holds, each counted each time it is reached (what is shared counts as often as it is met; a slice's spare places count too). A statement '..UptoSaid' is the law's where the arguments, and the package variables that the reading takes, are together of bulk at most 1048576: NARROWER than '..Said'. Prove '..Said' where nothing that the law and all that it calls make is longer than what came in: it says more and counts as full. Else prove '..UptoSaid'. A law counts once. -/
mutual
def uptoBulk {H : Type} : DataW H → Nat
  | .lit (.string bytes) => bytes.length + 1
  | .lit _ => 1
  | .nil => 1
  | .ptr d => uptoBulk d + 1
  | .slice elems spare => uptoBulkAll elems + uptoBulkAll spare + 1
  | .agg parts => uptoBulkAll parts + 1
  | .iface _ d => uptoBulk d + 1
  | .map entries => uptoBulkEntries entries + 1
  | .held _ => 1
def uptoBulkAll {H : Type} : List (DataW H) → Nat
  | [] => 0
  | d :: r => uptoBulk d + uptoBulkAll r
def uptoBulkEntries {H : Type} : List (Lit × DataW H) → Nat
  | [] => 0
  | x :: r => uptoBulkEntry x + uptoBulkEntries r
def uptoBulkEntry {H : Type} : Lit × DataW H → Nat
  | (.string bytes, d) => bytes.length + uptoBulk d + 1
  | (_, d) => uptoBulk d + 1
 end
def uptoSmall : (H : Type) → List (DataW H) → Bool := fun _ ds => decide (uptoBulkAll ds ≤ 1048576)
def OpenSpec.upto (s : _root_.Go.ChangeSpec) : _root_.Go.OpenSpec := { _root_.Go.OpenSpec.ofChange s with cond := some uptoSmall }

/-- 'barrowlaw06.LinesChecks', WHERE WHAT IT READS IS OF BULK AT MOST 1048576: true; the input reads as it did. -/
def linesChecksUptoRow : OpenClaim := { program := "ytopgmkonigaalaa", sum := "4108ef3835cff88f9856eccc69d63815091b77e303ce19023cf754048c992ff5", func := "barrow/barrowlaw06.LinesChecks", spec := "linesChecks", apart := false, narrowed := true }
def LinesChecksUptoSaid : Prop := linesChecksUptoRow.holds Try.pinned (OpenSpec.upto linesChecksSpec)

/-- 'barrowlaw06.LinesPicks', WHERE WHAT IT READS IS OF BULK AT MOST 1048576: true; the input reads as it did. -/
def linesPicksUptoRow : OpenClaim := { program := "ytopgmkonigaalaa", sum := "4108ef3835cff88f9856eccc69d63815091b77e303ce19023cf754048c992ff5", func := "barrow/barrowlaw06.LinesPicks", spec := "linesPicks", unfollowed := true, recurses := true, apart := false, narrowed := true }
def LinesPicksUptoSaid : Prop := linesPicksUptoRow.holds Try.pinned (OpenSpec.upto linesPicksSpec)

/-- 'barrowlaw06.LinesOwners', WHERE WHAT IT READS IS OF BULK AT MOST 1048576: true; the input reads as it did. -/
def linesOwnersUptoRow : OpenClaim := { program := "ytopgmkonigaalaa", sum := "4108ef3835cff88f9856eccc69d63815091b77e303ce19023cf754048c992ff5", func := "barrow/barrowlaw06.LinesOwners", spec := "linesOwners", unfollowed := true, recurses := true, apart := false, narrowed := true }
def LinesOwnersUptoSaid : Prop := linesOwnersUptoRow.holds Try.pinned (OpenSpec.upto linesOwnersSpec)

end Rows
end Go.Proofs.Ytopgmkonigaalaa
