/-
  No cell of these rows narrows 'for every input' (looked for: loops, veiled, ifaces, maps, wideKeys, modest, calm, conditions, laid).
  DERIVED. THE GIVEN ROWS OF THIS SEAT. 3 by the template 'for every input the law returns true; each argument reads behind the call as it read before'; 0 by the template 'total and deterministic' (their statements: YtlnhafjpmkopgaaTotals.lean).
  GIVEN WITH THE SEED: the statements are not yours to turn. If you find one false, say at which input.
  Laid BY PROGRAM, IN A SANDBOX (cutbox-rows.mjs): the forced cells as the released guide's own fill.sh prints them over the translation afd256184854565f… (all of the seat's roots in one cut). By AI agents, Wed Nov 11 2026. No macro, syntax, notation, axiom, sorry.
-/
import Derived.Test.YtlnhafjpmkopgaaChecked
import GoSem.Claim
import GoSem.ClaimJoined
import GoSem.ClaimMapViews
import Derived.JoinedTies
import Derived.KernelRfl
namespace Go.Proofs.Ytlnhafjpmkopgaa
/- THE CELL 'sum', in the pinned program and in every row, IS THE sha256 OF THE DUMP (.gsa) THAT YtlnhafjpmkopgaaProg.lean LOADS. Nothing in Lean hashes anything: it is a label: what it is worth is what the hold of that sum in a sandbox is worth. -/
noncomputable def Try.pinned : Pinned := { name := "ytlnhafjpmkopgaa", sum := "afd256184854565f647f4b5470c0ad25862f3e31c195bdfe3989ba37caf19c7f", checked := Try.checked }
namespace Rows
def none {H : Type} : Left H := { results := [], args := [] }

/-- 'barrowlaw04.PastPoints': WHATEVER THE INPUT: true; the input reads as it did. -/
def pastPointsSpec : ChangeSpec := { name := "pastPoints", fn := fun _ => fun
  | [d] => { results := [.lit (.bool true)], args := [d] }
  | _ => none }
def pastPointsRow : OpenClaim := { program := "ytlnhafjpmkopgaa", sum := "afd256184854565f647f4b5470c0ad25862f3e31c195bdfe3989ba37caf19c7f", func := "barrow/barrowlaw04.PastPoints", spec := "pastPoints", unfollowed := true, recurses := true, apart := false }
def PastPointsSaid : Prop := pastPointsRow.holds Try.pinned (OpenSpec.ofChange pastPointsSpec)

/-- ITS FALSE NEIGHBOUR: 'it returns false'. Refute it at one input. -/
def pastPointsWrong : ChangeSpec := { name := "pastPoints", fn := fun _ => fun
  | [d] => { results := [.lit (.bool false)], args := [d] }
  | _ => none }
def PastPointsWrongFalsely : Prop := pastPointsRow.holds Try.pinned (OpenSpec.ofChange pastPointsWrong)

/-- 'barrowlaw04.PastOrders': WHATEVER THE INPUT: true; the input reads as it did. -/
def pastOrdersSpec : ChangeSpec := { name := "pastOrders", fn := fun _ => fun
  | [d] => { results := [.lit (.bool true)], args := [d] }
  | _ => none }
def pastOrdersRow : OpenClaim := { program := "ytlnhafjpmkopgaa", sum := "afd256184854565f647f4b5470c0ad25862f3e31c195bdfe3989ba37caf19c7f", func := "barrow/barrowlaw04.PastOrders", spec := "pastOrders", unfollowed := true, recurses := true, apart := false }
def PastOrdersSaid : Prop := pastOrdersRow.holds Try.pinned (OpenSpec.ofChange pastOrdersSpec)

/-- ITS FALSE NEIGHBOUR: 'it returns false'. Refute it at one input. -/
def pastOrdersWrong : ChangeSpec := { name := "pastOrders", fn := fun _ => fun
  | [d] => { results := [.lit (.bool false)], args := [d] }
  | _ => none }
def PastOrdersWrongFalsely : Prop := pastOrdersRow.holds Try.pinned (OpenSpec.ofChange pastOrdersWrong)

/-- 'barrowlaw04.PastGrows': WHATEVER THE INPUT: true; the input reads as it did. -/
def pastGrowsSpec : ChangeSpec := { name := "pastGrows", fn := fun _ => fun
  | [d] => { results := [.lit (.bool true)], args := [d] }
  | _ => none }
def pastGrowsRow : OpenClaim := { program := "ytlnhafjpmkopgaa", sum := "afd256184854565f647f4b5470c0ad25862f3e31c195bdfe3989ba37caf19c7f", func := "barrow/barrowlaw04.PastGrows", spec := "pastGrows", unfollowed := true, recurses := true, apart := false }
def PastGrowsSaid : Prop := pastGrowsRow.holds Try.pinned (OpenSpec.ofChange pastGrowsSpec)

/-- ITS FALSE NEIGHBOUR: 'it returns false'. Refute it at one input. -/
def pastGrowsWrong : ChangeSpec := { name := "pastGrows", fn := fun _ => fun
  | [d] => { results := [.lit (.bool false)], args := [d] }
  | _ => none }
def PastGrowsWrongFalsely : Prop := pastGrowsRow.holds Try.pinned (OpenSpec.ofChange pastGrowsWrong)

/- THE SECOND FORM. 'bulk': how many values and letters a reading holds, each counted each time it is reached (what is shared counts as often as it is met; a slice's spare places count too). A statement '..UptoSaid' is the law's where the arguments, and the package variables that the reading takes, are together of bulk at most 1048576: NARROWER than '..Said'. Prove '..Said' where nothing that the law and all that it calls make is longer than what came in: it says more and counts as full. Else prove '..UptoSaid'. A law counts once. -/
mutual
def uptoBulk {H : Type} : DataW H → Nat
  | .lit (.string bytes) => bytes.length + 1
  | .lit _ => 1
  | .nil => 1
  | .ptr d => uptoBulk d + 1
  | .slice elems spare => uptoBulkAll elems + uptoBulkAll spare + 1
  | .agg parts => uptoBulkAll parts + 1
  | .iface _ d => uptoBulk d + 1
  | .map entries => uptoBulkEntries entries + 1
  | .held _ => 1
def uptoBulkAll {H : Type} : List (DataW H) → Nat
  | [] => 0
  | d :: r => uptoBulk d + uptoBulkAll r
def uptoBulkEntries {H : Type} : List (Lit × DataW H) → Nat
  | [] => 0
  | x :: r => uptoBulkEntry x + uptoBulkEntries r
def uptoBulkEntry {H : Type} : Lit × DataW H → Nat
  | (.string bytes, d) => bytes.length + uptoBulk d + 1
  | (_, d) => uptoBulk d + 1
 end
def uptoSmall : (H : Type) → List (DataW H) → Bool := fun _ ds => decide (uptoBulkAll ds ≤ 1048576)
def OpenSpec.upto (s : _root_.Go.ChangeSpec) : _root_.Go.OpenSpec := { _root_.Go.OpenSpec.ofChange s with cond := some uptoSmall }

/-- 'barrowlaw04.PastPoints', WHERE WHAT IT READS IS OF BULK AT MOST 1048576: true; the input reads as it did. -/
def pastPointsUptoRow : OpenClaim := { program := "ytlnhafjpmkopgaa", sum := "afd256184854565f647f4b5470c0ad25862f3e31c195bdfe3989ba37caf19c7f", func := "barrow/barrowlaw04.PastPoints", spec := "pastPoints", unfollowed := true, recurses := true, apart := false, narrowed := true }
def PastPointsUptoSaid : Prop := pastPointsUptoRow.holds Try.pinned (OpenSpec.upto pastPointsSpec)

/-- 'barrowlaw04.PastOrders', WHERE WHAT IT READS IS OF BULK AT MOST 1048576: true; the input reads as it did. -/
def pastOrdersUptoRow : OpenClaim := { program := "ytlnhafjpmkopgaa", sum := "afd256184854565f647f4b5470c0ad25862f3e31c195bdfe3989ba37caf19c7f", func := "barrow/barrowlaw04.PastOrders", spec := "pastOrders", unfollowed := true, recurses := true, apart := false, narrowed := true }
def PastOrdersUptoSaid : Prop := pastOrdersUptoRow.holds Try.pinned (OpenSpec.upto pastOrdersSpec)

/-- 'barrowlaw04.PastGrows', WHERE WHAT IT READS IS OF BULK AT MOST 1048576: true; the input reads as it did. -/
def pastGrowsUptoRow : OpenClaim := { program := "ytlnhafjpmkopgaa", sum := "afd256184854565f647f4b5470c0ad25862f3e31c195bdfe3989ba37caf19c7f", func := "barrow/barrowlaw04.PastGrows", spec := "pastGrows", unfollowed := true, recurses := true, apart := false, narrowed := true }
def PastGrowsUptoSaid : Prop := pastGrowsUptoRow.holds Try.pinned (OpenSpec.upto pastGrowsSpec)

end Rows
end Go.Proofs.Ytlnhafjpmkopgaa
