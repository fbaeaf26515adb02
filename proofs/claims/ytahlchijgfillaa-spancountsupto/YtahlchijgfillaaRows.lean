/-
  No cell of these rows narrows 'for every input' (looked for: loops, veiled, ifaces, maps, wideKeys, modest, calm, conditions, laid).
  DERIVED. THE GIVEN ROWS OF THIS SEAT. 4 by the template 'for every input the law returns true; each argument reads behind the call as it read before'; 0 by the template 'total and deterministic' (their statements: YtahlchijgfillaaTotals.lean).
  GIVEN WITH THE SEED: the statements are not yours to turn. If you find one false, say at which input.
  Laid BY PROGRAM, IN A SANDBOX (cutbox-rows.mjs): the forced cells as the released guide's own fill.sh prints them over the translation 8c9b29600eb4fe6e… (all of the seat's roots in one cut). By AI agents, Wed Nov 11 2026. No macro, syntax, notation, axiom, sorry.
-/
import Derived.Test.YtahlchijgfillaaChecked
import GoSem.Claim
import GoSem.ClaimJoined
import GoSem.ClaimMapViews
import Derived.JoinedTies
import Derived.KernelRfl
namespace Go.Proofs.Ytahlchijgfillaa
/- THE CELL 'sum', in the pinned program and in every row, IS THE sha256 OF THE DUMP (.gsa) THAT YtahlchijgfillaaProg.lean LOADS. Nothing in Lean hashes anything: it is a label: what it is worth is what the hold of that sum in a sandbox is worth. -/
noncomputable def Try.pinned : Pinned := { name := "ytahlchijgfillaa", sum := "8c9b29600eb4fe6ec9a76e9bc96301cd416a346b5030e891bd86f40bbc9bae02", checked := Try.checked }
namespace Rows
def none {H : Type} : Left H := { results := [], args := [] }

/-- 'barrowlaw01.SpanMembers': WHATEVER THE INPUT: true; the input reads as it did. -/
def spanMembersSpec : ChangeSpec := { name := "spanMembers", fn := fun _ => fun
  | [d1, d2, d3] => { results := [.lit (.bool true)], args := [d1, d2, d3] }
  | _ => none }
def spanMembersRow : OpenClaim := { program := "ytahlchijgfillaa", sum := "8c9b29600eb4fe6ec9a76e9bc96301cd416a346b5030e891bd86f40bbc9bae02", func := "barrow/barrowlaw01.SpanMembers", spec := "spanMembers", unfollowed := true, recurses := true, apart := false }
def SpanMembersSaid : Prop := spanMembersRow.holds Try.pinned (OpenSpec.ofChange spanMembersSpec)

/-- ITS FALSE NEIGHBOUR: 'it returns false'. Refute it at one input. -/
def spanMembersWrong : ChangeSpec := { name := "spanMembers", fn := fun _ => fun
  | [d1, d2, d3] => { results := [.lit (.bool false)], args := [d1, d2, d3] }
  | _ => none }
def SpanMembersWrongFalsely : Prop := spanMembersRow.holds Try.pinned (OpenSpec.ofChange spanMembersWrong)

/-- 'barrowlaw01.SpanUnique': WHATEVER THE INPUT: true; the input reads as it did. -/
def spanUniqueSpec : ChangeSpec := { name := "spanUnique", fn := fun _ => fun
  | [d1, d2] => { results := [.lit (.bool true)], args := [d1, d2] }
  | _ => none }
def spanUniqueRow : OpenClaim := { program := "ytahlchijgfillaa", sum := "8c9b29600eb4fe6ec9a76e9bc96301cd416a346b5030e891bd86f40bbc9bae02", func := "barrow/barrowlaw01.SpanUnique", spec := "spanUnique", unfollowed := true, recurses := true, apart := false }
def SpanUniqueSaid : Prop := spanUniqueRow.holds Try.pinned (OpenSpec.ofChange spanUniqueSpec)

/-- ITS FALSE NEIGHBOUR: 'it returns false'. Refute it at one input. -/
def spanUniqueWrong : ChangeSpec := { name := "spanUnique", fn := fun _ => fun
  | [d1, d2] => { results := [.lit (.bool false)], args := [d1, d2] }
  | _ => none }
def SpanUniqueWrongFalsely : Prop := spanUniqueRow.holds Try.pinned (OpenSpec.ofChange spanUniqueWrong)

/-- 'barrowlaw01.SpanCounts': WHATEVER THE INPUT: true; the input reads as it did. -/
def spanCountsSpec : ChangeSpec := { name := "spanCounts", fn := fun _ => fun
  | [d1, d2, d3] => { results := [.lit (.bool true)], args := [d1, d2, d3] }
  | _ => none }
def spanCountsRow : OpenClaim := { program := "ytahlchijgfillaa", sum := "8c9b29600eb4fe6ec9a76e9bc96301cd416a346b5030e891bd86f40bbc9bae02", func := "barrow/barrowlaw01.SpanCounts", spec := "spanCounts", unfollowed := true, recurses := true, apart := false }
def SpanCountsSaid : Prop := spanCountsRow.holds Try.pinned (OpenSpec.ofChange spanCountsSpec)

/-- ITS FALSE NEIGHBOUR: 'it returns false'. Refute it at one input. -/
def spanCountsWrong : ChangeSpec := { name := "spanCounts", fn := fun _ => fun
  | [d1, d2, d3] => { results := [.lit (.bool false)], args := [d1, d2, d3] }
  | _ => none }
def SpanCountsWrongFalsely : Prop := spanCountsRow.holds Try.pinned (OpenSpec.ofChange spanCountsWrong)

/-- 'barrowlaw01.SpanGalois': WHATEVER THE INPUT: true; the input reads as it did. -/
def spanGaloisSpec : ChangeSpec := { name := "spanGalois", fn := fun _ => fun
  | [d1, d2, d3] => { results := [.lit (.bool true)], args := [d1, d2, d3] }
  | _ => none }
def spanGaloisRow : OpenClaim := { program := "ytahlchijgfillaa", sum := "8c9b29600eb4fe6ec9a76e9bc96301cd416a346b5030e891bd86f40bbc9bae02", func := "barrow/barrowlaw01.SpanGalois", spec := "spanGalois", unfollowed := true, recurses := true, apart := false }
def SpanGaloisSaid : Prop := spanGaloisRow.holds Try.pinned (OpenSpec.ofChange spanGaloisSpec)

/-- ITS FALSE NEIGHBOUR: 'it returns false'. Refute it at one input. -/
def spanGaloisWrong : ChangeSpec := { name := "spanGalois", fn := fun _ => fun
  | [d1, d2, d3] => { results := [.lit (.bool false)], args := [d1, d2, d3] }
  | _ => none }
def SpanGaloisWrongFalsely : Prop := spanGaloisRow.holds Try.pinned (OpenSpec.ofChange spanGaloisWrong)

/- THE SECOND FORM. 'bulk': how many values and letters a reading holds, each counted each time it is reached (what is shared counts as often as it is met; a slice's spare places count too). A statement '..UptoSaid' is the law's where the arguments, and the package variables that the reading takes, are together of bulk at most 1048576: NARROWER than '..Said'. Prove '..Said' where nothing that the law and all that it calls make is longer than what came in: it says more and counts as full. Else prove '..UptoSaid'. A law counts once. -/
mutual
def uptoBulk {H : Type} : DataW H → Nat
  | .lit (.string bytes) => bytes.length + 1
  | .lit _ => 1
  | .nil => 1
  | .ptr d => uptoBulk d + 1
  | .slice elems spare => uptoBulkAll elems + uptoBulkAll spare + 1
  | .agg parts => uptoBulkAll parts + 1
  | .iface _ d => uptoBulk d + 1
  | .map entries => uptoBulkEntries entries + 1
  | .held _ => 1
def uptoBulkAll {H : Type} : List (DataW H) → Nat
  | [] => 0
  | d :: r => uptoBulk d + uptoBulkAll r
def uptoBulkEntries {H : Type} : List (Lit × DataW H) → Nat
  | [] => 0
  | x :: r => uptoBulkEntry x + uptoBulkEntries r
def uptoBulkEntry {H : Type} : Lit × DataW H → Nat
  | (.string bytes, d) => bytes.length + uptoBulk d + 1
  | (_, d) => uptoBulk d + 1
 end
def uptoSmall : (H : Type) → List (DataW H) → Bool := fun _ ds => decide (uptoBulkAll ds ≤ 1048576)
def OpenSpec.upto (s : _root_.Go.ChangeSpec) : _root_.Go.OpenSpec := { _root_.Go.OpenSpec.ofChange s with cond := some uptoSmall }

/-- 'barrowlaw01.SpanMembers', WHERE WHAT IT READS IS OF BULK AT MOST 1048576: true; the input reads as it did. -/
def spanMembersUptoRow : OpenClaim := { program := "ytahlchijgfillaa", sum := "8c9b29600eb4fe6ec9a76e9bc96301cd416a346b5030e891bd86f40bbc9bae02", func := "barrow/barrowlaw01.SpanMembers", spec := "spanMembers", unfollowed := true, recurses := true, apart := false, narrowed := true }
def SpanMembersUptoSaid : Prop := spanMembersUptoRow.holds Try.pinned (OpenSpec.upto spanMembersSpec)

/-- 'barrowlaw01.SpanUnique', WHERE WHAT IT READS IS OF BULK AT MOST 1048576: true; the input reads as it did. -/
def spanUniqueUptoRow : OpenClaim := { program := "ytahlchijgfillaa", sum := "8c9b29600eb4fe6ec9a76e9bc96301cd416a346b5030e891bd86f40bbc9bae02", func := "barrow/barrowlaw01.SpanUnique", spec := "spanUnique", unfollowed := true, recurses := true, apart := false, narrowed := true }
def SpanUniqueUptoSaid : Prop := spanUniqueUptoRow.holds Try.pinned (OpenSpec.upto spanUniqueSpec)

/-- 'barrowlaw01.SpanCounts', WHERE WHAT IT READS IS OF BULK AT MOST 1048576: true; the input reads as it did. -/
def spanCountsUptoRow : OpenClaim := { program := "ytahlchijgfillaa", sum := "8c9b29600eb4fe6ec9a76e9bc96301cd416a346b5030e891bd86f40bbc9bae02", func := "barrow/barrowlaw01.SpanCounts", spec := "spanCounts", unfollowed := true, recurses := true, apart := false, narrowed := true }
def SpanCountsUptoSaid : Prop := spanCountsUptoRow.holds Try.pinned (OpenSpec.upto spanCountsSpec)

/-- 'barrowlaw01.SpanGalois', WHERE WHAT IT READS IS OF BULK AT MOST 1048576: true; the input reads as it did. -/
def spanGaloisUptoRow : OpenClaim := { program := "ytahlchijgfillaa", sum := "8c9b29600eb4fe6ec9a76e9bc96301cd416a346b5030e891bd86f40bbc9bae02", func := "barrow/barrowlaw01.SpanGalois", spec := "spanGalois", unfollowed := true, recurses := true, apart := false, narrowed := true }
def SpanGaloisUptoSaid : Prop := spanGaloisUptoRow.holds Try.pinned (OpenSpec.upto spanGaloisSpec)

end Rows
end Go.Proofs.Ytahlchijgfillaa
