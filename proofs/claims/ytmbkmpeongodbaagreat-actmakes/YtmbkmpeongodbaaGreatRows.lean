/-
  No cell of these rows narrows 'for every input' (looked for: loops, veiled, ifaces, maps, wideKeys, modest, calm, conditions, laid).
  DERIVED. THE GIVEN ROWS OF THIS SEAT. 3 by the template 'for every input the law returns true; each argument reads behind the call as it read before'; 0 by the template 'total and deterministic' (their statements: YtmbkmpeongodbaaGreatTotals.lean).
  GIVEN WITH THE SEED: the statements are not yours to turn. If you find one false, say at which input.
  Laid BY PROGRAM, IN A SANDBOX (cutbox-rows.mjs): the forced cells as the released guide's own fill.sh prints them over the translation 8b62ca55a5bb2e89… (all of the seat's roots in one cut). By AI agents, Wed Nov 11 2026. No macro, syntax, notation, axiom, sorry.
-/
import Derived.Test.YtmbkmpeongodbaaGreatChecked
import GoSem.Claim
import GoSem.ClaimJoined
import GoSem.ClaimMapViews
import Derived.JoinedTies
import Derived.KernelRfl
namespace Go.Proofs.YtmbkmpeongodbaaGreat
/- THE CELL 'sum', in the pinned program and in every row, IS THE sha256 OF THE DUMP (.gsa) THAT YtmbkmpeongodbaaGreatProg.lean LOADS. Nothing in Lean hashes anything: it is a label: what it is worth is what the hold of that sum in a sandbox is worth. -/
noncomputable def Tryz.pinned : Pinned := { name := "ytmbkmpeongodbaagreat", sum := "8b62ca55a5bb2e89ea18d26130bdf4e5b4c101544e0ab53665a242c1d44845e9", checked := Tryz.checked }
namespace Rows
def none {H : Type} : Left H := { results := [], args := [] }

/-- 'barrowlaw08.ActDecides': WHATEVER THE INPUT: true; the input reads as it did. -/
def actDecidesSpec : ChangeSpec := { name := "actDecides", fn := fun _ => fun
  | [d] => { results := [.lit (.bool true)], args := [d] }
  | _ => none }
def actDecidesRow : OpenClaim := { program := "ytmbkmpeongodbaagreat", sum := "8b62ca55a5bb2e89ea18d26130bdf4e5b4c101544e0ab53665a242c1d44845e9", func := "barrow/barrowlaw08.ActDecides", spec := "actDecides", inPlace := ["internal/bytealg.abigen_runtime_cmpstring"], unfollowed := true, recurses := true, apart := false }
def ActDecidesSaid : Prop := actDecidesRow.holds Tryz.pinned (OpenSpec.ofChange actDecidesSpec)

/-- ITS FALSE NEIGHBOUR: 'it returns false'. Refute it at one input. -/
def actDecidesWrong : ChangeSpec := { name := "actDecides", fn := fun _ => fun
  | [d] => { results := [.lit (.bool false)], args := [d] }
  | _ => none }
def ActDecidesWrongFalsely : Prop := actDecidesRow.holds Tryz.pinned (OpenSpec.ofChange actDecidesWrong)

/-- 'barrowlaw08.ActReads': WHATEVER THE INPUT: true; the input reads as it did. -/
def actReadsSpec : ChangeSpec := { name := "actReads", fn := fun _ => fun
  | [d] => { results := [.lit (.bool true)], args := [d] }
  | _ => none }
def actReadsRow : OpenClaim := { program := "ytmbkmpeongodbaagreat", sum := "8b62ca55a5bb2e89ea18d26130bdf4e5b4c101544e0ab53665a242c1d44845e9", func := "barrow/barrowlaw08.ActReads", spec := "actReads", inPlace := ["internal/bytealg.abigen_runtime_cmpstring"], unfollowed := true, recurses := true, apart := false }
def ActReadsSaid : Prop := actReadsRow.holds Tryz.pinned (OpenSpec.ofChange actReadsSpec)

/-- ITS FALSE NEIGHBOUR: 'it returns false'. Refute it at one input. -/
def actReadsWrong : ChangeSpec := { name := "actReads", fn := fun _ => fun
  | [d] => { results := [.lit (.bool false)], args := [d] }
  | _ => none }
def ActReadsWrongFalsely : Prop := actReadsRow.holds Tryz.pinned (OpenSpec.ofChange actReadsWrong)

/-- 'barrowlaw08.ActMakes': WHATEVER THE INPUT: true; the input reads as it did. -/
def actMakesSpec : ChangeSpec := { name := "actMakes", fn := fun _ => fun
  | [d1, d2] => { results := [.lit (.bool true)], args := [d1, d2] }
  | _ => none }
def actMakesRow : OpenClaim := { program := "ytmbkmpeongodbaagreat", sum := "8b62ca55a5bb2e89ea18d26130bdf4e5b4c101544e0ab53665a242c1d44845e9", func := "barrow/barrowlaw08.ActMakes", spec := "actMakes", inPlace := ["internal/bytealg.abigen_runtime_cmpstring"], unfollowed := true, recurses := true, apart := false }
def ActMakesSaid : Prop := actMakesRow.holds Tryz.pinned (OpenSpec.ofChange actMakesSpec)

/-- ITS FALSE NEIGHBOUR: 'it returns false'. Refute it at one input. -/
def actMakesWrong : ChangeSpec := { name := "actMakes", fn := fun _ => fun
  | [d1, d2] => { results := [.lit (.bool false)], args := [d1, d2] }
  | _ => none }
def ActMakesWrongFalsely : Prop := actMakesRow.holds Tryz.pinned (OpenSpec.ofChange actMakesWrong)

/- THE SECOND FORM. 'bulk': how many values and letters a reading holds, each counted each time it is reached (what is shared counts as often as it is met; a slice's spare places count too). A statement '..UptoSaid' is the law's where the arguments, and the package variables that the reading takes, are together of bulk at most 1048576: NARROWER than '..Said'. Prove '..Said' where nothing that the law and all that it calls make is longer than what came in: it says more and counts as full. Else prove '..UptoSaid'. A law counts once. -/
mutual
def uptoBulk {H : Type} : DataW H → Nat
  | .lit (.string bytes) => bytes.length + 1
  | .lit _ => 1
  | .nil => 1
  | .ptr d => uptoBulk d + 1
  | .slice elems spare => uptoBulkAll elems + uptoBulkAll spare + 1
  | .agg parts => uptoBulkAll parts + 1
  | .iface _ d => uptoBulk d + 1
  | .map entries => uptoBulkEntries entries + 1
  | .held _ => 1
def uptoBulkAll {H : Type} : List (DataW H) → Nat
  | [] => 0
  | d :: r => uptoBulk d + uptoBulkAll r
def uptoBulkEntries {H : Type} : List (Lit × DataW H) → Nat
  | [] => 0
  | x :: r => uptoBulkEntry x + uptoBulkEntries r
def uptoBulkEntry {H : Type} : Lit × DataW H → Nat
  | (.string bytes, d) => bytes.length + uptoBulk d + 1
  | (_, d) => uptoBulk d + 1
 end
def uptoSmall : (H : Type) → List (DataW H) → Bool := fun _ ds => decide (uptoBulkAll ds ≤ 1048576)
def OpenSpec.upto (s : _root_.Go.ChangeSpec) : _root_.Go.OpenSpec := { _root_.Go.OpenSpec.ofChange s with cond := some uptoSmall }

/-- 'barrowlaw08.ActDecides', WHERE WHAT IT READS IS OF BULK AT MOST 1048576: true; the input reads as it did. -/
def actDecidesUptoRow : OpenClaim := { program := "ytmbkmpeongodbaagreat", sum := "8b62ca55a5bb2e89ea18d26130bdf4e5b4c101544e0ab53665a242c1d44845e9", func := "barrow/barrowlaw08.ActDecides", spec := "actDecides", inPlace := ["internal/bytealg.abigen_runtime_cmpstring"], unfollowed := true, recurses := true, apart := false, narrowed := true }
def ActDecidesUptoSaid : Prop := actDecidesUptoRow.holds Tryz.pinned (OpenSpec.upto actDecidesSpec)

/-- 'barrowlaw08.ActReads', WHERE WHAT IT READS IS OF BULK AT MOST 1048576: true; the input reads as it did. -/
def actReadsUptoRow : OpenClaim := { program := "ytmbkmpeongodbaagreat", sum := "8b62ca55a5bb2e89ea18d26130bdf4e5b4c101544e0ab53665a242c1d44845e9", func := "barrow/barrowlaw08.ActReads", spec := "actReads", inPlace := ["internal/bytealg.abigen_runtime_cmpstring"], unfollowed := true, recurses := true, apart := false, narrowed := true }
def ActReadsUptoSaid : Prop := actReadsUptoRow.holds Tryz.pinned (OpenSpec.upto actReadsSpec)

/-- 'barrowlaw08.ActMakes', WHERE WHAT IT READS IS OF BULK AT MOST 1048576: true; the input reads as it did. -/
def actMakesUptoRow : OpenClaim := { program := "ytmbkmpeongodbaagreat", sum := "8b62ca55a5bb2e89ea18d26130bdf4e5b4c101544e0ab53665a242c1d44845e9", func := "barrow/barrowlaw08.ActMakes", spec := "actMakes", inPlace := ["internal/bytealg.abigen_runtime_cmpstring"], unfollowed := true, recurses := true, apart := false, narrowed := true }
def ActMakesUptoSaid : Prop := actMakesUptoRow.holds Tryz.pinned (OpenSpec.upto actMakesSpec)

end Rows
end Go.Proofs.YtmbkmpeongodbaaGreat
