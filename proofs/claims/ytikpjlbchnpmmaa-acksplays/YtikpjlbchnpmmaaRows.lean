/-
  No cell of these rows narrows 'for every input' (looked for: loops, veiled, ifaces, maps, wideKeys, modest, calm, conditions, laid).
  DERIVED. THE GIVEN ROWS OF THIS SEAT. 4 by the template 'for every input the law returns true; each argument reads behind the call as it read before'; 0 by the template 'total and deterministic' (their statements: YtikpjlbchnpmmaaTotals.lean).
  GIVEN WITH THE SEED: the statements are not yours to turn. If you find one false, say at which input.
  Laid BY PROGRAM, IN A SANDBOX (cutbox-rows.mjs): the forced cells as the released guide's own fill.sh prints them over the translation f2622e853e0b155d… (all of the seat's roots in one cut). By AI agents, Wed Nov 11 2026. No macro, syntax, notation, axiom, sorry.
-/
import Derived.Test.YtikpjlbchnpmmaaChecked
import GoSem.Claim
import GoSem.ClaimJoined
import GoSem.ClaimMapViews
import Derived.JoinedTies
import Derived.KernelRfl
namespace Go.Proofs.Ytikpjlbchnpmmaa
/- THE CELL 'sum', in the pinned program and in every row, IS THE sha256 OF THE DUMP (.gsa) THAT YtikpjlbchnpmmaaProg.lean LOADS. Nothing in Lean hashes anything: it is a label: what it is worth is what the hold of that sum in a sandbox is worth. -/
noncomputable def Try.pinned : Pinned := { name := "ytikpjlbchnpmmaa", sum := "f2622e853e0b155d68a6f6dbef7a3a0fc977167633b1424b3747451cf59805fb", checked := Try.checked }
namespace Rows
def none {H : Type} : Left H := { results := [], args := [] }

/-- 'barrowlaw17.AcksPlays': WHATEVER THE INPUT: true; the input reads as it did. -/
def acksPlaysSpec : ChangeSpec := { name := "acksPlays", fn := fun _ => fun
  | [d] => { results := [.lit (.bool true)], args := [d] }
  | _ => none }
def acksPlaysRow : OpenClaim := { program := "ytikpjlbchnpmmaa", sum := "f2622e853e0b155d68a6f6dbef7a3a0fc977167633b1424b3747451cf59805fb", func := "barrow/barrowlaw17.AcksPlays", spec := "acksPlays", apart := false }
def AcksPlaysSaid : Prop := acksPlaysRow.holds Try.pinned (OpenSpec.ofChange acksPlaysSpec)

/-- ITS FALSE NEIGHBOUR: 'it returns false'. Refute it at one input. -/
def acksPlaysWrong : ChangeSpec := { name := "acksPlays", fn := fun _ => fun
  | [d] => { results := [.lit (.bool false)], args := [d] }
  | _ => none }
def AcksPlaysWrongFalsely : Prop := acksPlaysRow.holds Try.pinned (OpenSpec.ofChange acksPlaysWrong)

/-- 'barrowlaw17.AcksKeeps': WHATEVER THE INPUT: true; the input reads as it did. -/
def acksKeepsSpec : ChangeSpec := { name := "acksKeeps", fn := fun _ => fun
  | [d1, d2, d3] => { results := [.lit (.bool true)], args := [d1, d2, d3] }
  | _ => none }
def acksKeepsRow : OpenClaim := { program := "ytikpjlbchnpmmaa", sum := "f2622e853e0b155d68a6f6dbef7a3a0fc977167633b1424b3747451cf59805fb", func := "barrow/barrowlaw17.AcksKeeps", spec := "acksKeeps", apart := false }
def AcksKeepsSaid : Prop := acksKeepsRow.holds Try.pinned (OpenSpec.ofChange acksKeepsSpec)

/-- ITS FALSE NEIGHBOUR: 'it returns false'. Refute it at one input. -/
def acksKeepsWrong : ChangeSpec := { name := "acksKeeps", fn := fun _ => fun
  | [d1, d2, d3] => { results := [.lit (.bool false)], args := [d1, d2, d3] }
  | _ => none }
def AcksKeepsWrongFalsely : Prop := acksKeepsRow.holds Try.pinned (OpenSpec.ofChange acksKeepsWrong)

/-- 'barrowlaw17.AcksPlansAll': WHATEVER THE INPUT: true; the input reads as it did. -/
def acksPlansAllSpec : ChangeSpec := { name := "acksPlansAll", fn := fun _ => fun
  | [d1, d2, d3] => { results := [.lit (.bool true)], args := [d1, d2, d3] }
  | _ => none }
def acksPlansAllRow : OpenClaim := { program := "ytikpjlbchnpmmaa", sum := "f2622e853e0b155d68a6f6dbef7a3a0fc977167633b1424b3747451cf59805fb", func := "barrow/barrowlaw17.AcksPlansAll", spec := "acksPlansAll", apart := false }
def AcksPlansAllSaid : Prop := acksPlansAllRow.holds Try.pinned (OpenSpec.ofChange acksPlansAllSpec)

/-- ITS FALSE NEIGHBOUR: 'it returns false'. Refute it at one input. -/
def acksPlansAllWrong : ChangeSpec := { name := "acksPlansAll", fn := fun _ => fun
  | [d1, d2, d3] => { results := [.lit (.bool false)], args := [d1, d2, d3] }
  | _ => none }
def AcksPlansAllWrongFalsely : Prop := acksPlansAllRow.holds Try.pinned (OpenSpec.ofChange acksPlansAllWrong)

/-- 'barrowlaw17.AcksApart': WHATEVER THE INPUT: true; the input reads as it did. -/
def acksApartSpec : ChangeSpec := { name := "acksApart", fn := fun _ => fun
  | [d] => { results := [.lit (.bool true)], args := [d] }
  | _ => none }
def acksApartRow : OpenClaim := { program := "ytikpjlbchnpmmaa", sum := "f2622e853e0b155d68a6f6dbef7a3a0fc977167633b1424b3747451cf59805fb", func := "barrow/barrowlaw17.AcksApart", spec := "acksApart", apart := false }
def AcksApartSaid : Prop := acksApartRow.holds Try.pinned (OpenSpec.ofChange acksApartSpec)

/-- ITS FALSE NEIGHBOUR: 'it returns false'. Refute it at one input. -/
def acksApartWrong : ChangeSpec := { name := "acksApart", fn := fun _ => fun
  | [d] => { results := [.lit (.bool false)], args := [d] }
  | _ => none }
def AcksApartWrongFalsely : Prop := acksApartRow.holds Try.pinned (OpenSpec.ofChange acksApartWrong)

/- THE SECOND FORM. 'bulk': how many values and letters a reading holds, each counted each time it is reached (what is shared counts as often as it is met; a slice's spare places count too). A statement '..UptoSaid' is the law's where the arguments, and the package variables that the reading takes, are together of bulk at most 1048576: NARROWER than '..Said'. Prove '..Said' where nothing that the law and all that it calls make is longer than what came in: it says more and counts as full. Else prove '..UptoSaid'. A law counts once. -/
mutual
def uptoBulk {H : Type} : DataW H → Nat
  | .lit (.string bytes) => bytes.length + 1
  | .lit _ => 1
  | .nil => 1
  | .ptr d => uptoBulk d + 1
  | .slice elems spare => uptoBulkAll elems + uptoBulkAll spare + 1
  | .agg parts => uptoBulkAll parts + 1
  | .iface _ d => uptoBulk d + 1
  | .map entries => uptoBulkEntries entries + 1
  | .held _ => 1
def uptoBulkAll {H : Type} : List (DataW H) → Nat
  | [] => 0
  | d :: r => uptoBulk d + uptoBulkAll r
def uptoBulkEntries {H : Type} : List (Lit × DataW H) → Nat
  | [] => 0
  | x :: r => uptoBulkEntry x + uptoBulkEntries r
def uptoBulkEntry {H : Type} : Lit × DataW H → Nat
  | (.string bytes, d) => bytes.length + uptoBulk d + 1
  | (_, d) => uptoBulk d + 1
 end
def uptoSmall : (H : Type) → List (DataW H) → Bool := fun _ ds => decide (uptoBulkAll ds ≤ 1048576)
def OpenSpec.upto (s : _root_.Go.ChangeSpec) : _root_.Go.OpenSpec := { _root_.Go.OpenSpec.ofChange s with cond := some uptoSmall }

/-- 'barrowlaw17.AcksPlays', WHERE WHAT IT READS IS OF BULK AT MOST 1048576: true; the input reads as it did. -/
def acksPlaysUptoRow : OpenClaim := { program := "ytikpjlbchnpmmaa", sum := "f2622e853e0b155d68a6f6dbef7a3a0fc977167633b1424b3747451cf59805fb", func := "barrow/barrowlaw17.AcksPlays", spec := "acksPlays", apart := false, narrowed := true }
def AcksPlaysUptoSaid : Prop := acksPlaysUptoRow.holds Try.pinned (OpenSpec.upto acksPlaysSpec)

/-- 'barrowlaw17.AcksKeeps', WHERE WHAT IT READS IS OF BULK AT MOST 1048576: true; the input reads as it did. -/
def acksKeepsUptoRow : OpenClaim := { program := "ytikpjlbchnpmmaa", sum := "f2622e853e0b155d68a6f6dbef7a3a0fc977167633b1424b3747451cf59805fb", func := "barrow/barrowlaw17.AcksKeeps", spec := "acksKeeps", apart := false, narrowed := true }
def AcksKeepsUptoSaid : Prop := acksKeepsUptoRow.holds Try.pinned (OpenSpec.upto acksKeepsSpec)

/-- 'barrowlaw17.AcksPlansAll', WHERE WHAT IT READS IS OF BULK AT MOST 1048576: true; the input reads as it did. -/
def acksPlansAllUptoRow : OpenClaim := { program := "ytikpjlbchnpmmaa", sum := "f2622e853e0b155d68a6f6dbef7a3a0fc977167633b1424b3747451cf59805fb", func := "barrow/barrowlaw17.AcksPlansAll", spec := "acksPlansAll", apart := false, narrowed := true }
def AcksPlansAllUptoSaid : Prop := acksPlansAllUptoRow.holds Try.pinned (OpenSpec.upto acksPlansAllSpec)

/-- 'barrowlaw17.AcksApart', WHERE WHAT IT READS IS OF BULK AT MOST 1048576: true; the input reads as it did. -/
def acksApartUptoRow : OpenClaim := { program := "ytikpjlbchnpmmaa", sum := "f2622e853e0b155d68a6f6dbef7a3a0fc977167633b1424b3747451cf59805fb", func := "barrow/barrowlaw17.AcksApart", spec := "acksApart", apart := false, narrowed := true }
def AcksApartUptoSaid : Prop := acksApartUptoRow.holds Try.pinned (OpenSpec.upto acksApartSpec)

end Rows
end Go.Proofs.Ytikpjlbchnpmmaa
