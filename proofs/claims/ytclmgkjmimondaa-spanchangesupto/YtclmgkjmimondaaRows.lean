/-
  No cell of these rows narrows 'for every input' (looked for: loops, veiled, ifaces, maps, wideKeys, modest, calm, conditions, laid).
  DERIVED. THE GIVEN ROWS OF THIS SEAT. 6 by the template 'for every input the law returns true; each argument reads behind the call as it read before'; 0 by the template 'total and deterministic' (their statements: YtclmgkjmimondaaTotals.lean).
  GIVEN WITH THE SEED: the statements are not yours to turn. If you find one false, say at which input.
  Laid BY PROGRAM, IN A SANDBOX (cutbox-rows.mjs): the forced cells as the released guide's own fill.sh prints them over the translation 1207c98d8046f687… (all of the seat's roots in one cut). By AI agents, Wed Nov 11 2026. No macro, syntax, notation, axiom, sorry.
-/
import Derived.Test.YtclmgkjmimondaaChecked
import GoSem.Claim
import GoSem.ClaimJoined
import GoSem.ClaimMapViews
import Derived.JoinedTies
import Derived.KernelRfl
namespace Go.Proofs.Ytclmgkjmimondaa
/- THE CELL 'sum', in the pinned program and in every row, IS THE sha256 OF THE DUMP (.gsa) THAT YtclmgkjmimondaaProg.lean LOADS. Nothing in Lean hashes anything: it is a label: what it is worth is what the hold of that sum in a sandbox is worth. -/
noncomputable def Try.pinned : Pinned := { name := "ytclmgkjmimondaa", sum := "1207c98d8046f68788614356bac28d42efae9fc7c3f2f2ae1a8558976eefd84b", checked := Try.checked }
namespace Rows
def none {H : Type} : Left H := { results := [], args := [] }

/-- 'barrowlaw01.SpanForms': WHATEVER THE INPUT: true; the input reads as it did. -/
def spanFormsSpec : ChangeSpec := { name := "spanForms", fn := fun _ => fun
  | [d] => { results := [.lit (.bool true)], args := [d] }
  | _ => none }
def spanFormsRow : OpenClaim := { program := "ytclmgkjmimondaa", sum := "1207c98d8046f68788614356bac28d42efae9fc7c3f2f2ae1a8558976eefd84b", func := "barrow/barrowlaw01.SpanForms", spec := "spanForms", unfollowed := true, recurses := true, apart := false }
def SpanFormsSaid : Prop := spanFormsRow.holds Try.pinned (OpenSpec.ofChange spanFormsSpec)

/-- ITS FALSE NEIGHBOUR: 'it returns false'. Refute it at one input. -/
def spanFormsWrong : ChangeSpec := { name := "spanForms", fn := fun _ => fun
  | [d] => { results := [.lit (.bool false)], args := [d] }
  | _ => none }
def SpanFormsWrongFalsely : Prop := spanFormsRow.holds Try.pinned (OpenSpec.ofChange spanFormsWrong)

/-- 'barrowlaw01.SpanFinds': WHATEVER THE INPUT: true; the input reads as it did. -/
def spanFindsSpec : ChangeSpec := { name := "spanFinds", fn := fun _ => fun
  | [d1, d2] => { results := [.lit (.bool true)], args := [d1, d2] }
  | _ => none }
def spanFindsRow : OpenClaim := { program := "ytclmgkjmimondaa", sum := "1207c98d8046f68788614356bac28d42efae9fc7c3f2f2ae1a8558976eefd84b", func := "barrow/barrowlaw01.SpanFinds", spec := "spanFinds", unfollowed := true, recurses := true, apart := false }
def SpanFindsSaid : Prop := spanFindsRow.holds Try.pinned (OpenSpec.ofChange spanFindsSpec)

/-- ITS FALSE NEIGHBOUR: 'it returns false'. Refute it at one input. -/
def spanFindsWrong : ChangeSpec := { name := "spanFinds", fn := fun _ => fun
  | [d1, d2] => { results := [.lit (.bool false)], args := [d1, d2] }
  | _ => none }
def SpanFindsWrongFalsely : Prop := spanFindsRow.holds Try.pinned (OpenSpec.ofChange spanFindsWrong)

/-- 'barrowlaw01.SpanHalves': WHATEVER THE INPUT: true; the input reads as it did. -/
def spanHalvesSpec : ChangeSpec := { name := "spanHalves", fn := fun _ => fun
  | [d1, d2] => { results := [.lit (.bool true)], args := [d1, d2] }
  | _ => none }
def spanHalvesRow : OpenClaim := { program := "ytclmgkjmimondaa", sum := "1207c98d8046f68788614356bac28d42efae9fc7c3f2f2ae1a8558976eefd84b", func := "barrow/barrowlaw01.SpanHalves", spec := "spanHalves", unfollowed := true, recurses := true, apart := false }
def SpanHalvesSaid : Prop := spanHalvesRow.holds Try.pinned (OpenSpec.ofChange spanHalvesSpec)

/-- ITS FALSE NEIGHBOUR: 'it returns false'. Refute it at one input. -/
def spanHalvesWrong : ChangeSpec := { name := "spanHalves", fn := fun _ => fun
  | [d1, d2] => { results := [.lit (.bool false)], args := [d1, d2] }
  | _ => none }
def SpanHalvesWrongFalsely : Prop := spanHalvesRow.holds Try.pinned (OpenSpec.ofChange spanHalvesWrong)

/-- 'barrowlaw01.SpanRanks': WHATEVER THE INPUT: true; the input reads as it did. -/
def spanRanksSpec : ChangeSpec := { name := "spanRanks", fn := fun _ => fun
  | [d1, d2] => { results := [.lit (.bool true)], args := [d1, d2] }
  | _ => none }
def spanRanksRow : OpenClaim := { program := "ytclmgkjmimondaa", sum := "1207c98d8046f68788614356bac28d42efae9fc7c3f2f2ae1a8558976eefd84b", func := "barrow/barrowlaw01.SpanRanks", spec := "spanRanks", unfollowed := true, recurses := true, apart := false }
def SpanRanksSaid : Prop := spanRanksRow.holds Try.pinned (OpenSpec.ofChange spanRanksSpec)

/-- ITS FALSE NEIGHBOUR: 'it returns false'. Refute it at one input. -/
def spanRanksWrong : ChangeSpec := { name := "spanRanks", fn := fun _ => fun
  | [d1, d2] => { results := [.lit (.bool false)], args := [d1, d2] }
  | _ => none }
def SpanRanksWrongFalsely : Prop := spanRanksRow.holds Try.pinned (OpenSpec.ofChange spanRanksWrong)

/-- 'barrowlaw01.SpanChanges': WHATEVER THE INPUT: true; the input reads as it did. -/
def spanChangesSpec : ChangeSpec := { name := "spanChanges", fn := fun _ => fun
  | [d1, d2] => { results := [.lit (.bool true)], args := [d1, d2] }
  | _ => none }
def spanChangesRow : OpenClaim := { program := "ytclmgkjmimondaa", sum := "1207c98d8046f68788614356bac28d42efae9fc7c3f2f2ae1a8558976eefd84b", func := "barrow/barrowlaw01.SpanChanges", spec := "spanChanges", unfollowed := true, recurses := true, apart := false }
def SpanChangesSaid : Prop := spanChangesRow.holds Try.pinned (OpenSpec.ofChange spanChangesSpec)

/-- ITS FALSE NEIGHBOUR: 'it returns false'. Refute it at one input. -/
def spanChangesWrong : ChangeSpec := { name := "spanChanges", fn := fun _ => fun
  | [d1, d2] => { results := [.lit (.bool false)], args := [d1, d2] }
  | _ => none }
def SpanChangesWrongFalsely : Prop := spanChangesRow.holds Try.pinned (OpenSpec.ofChange spanChangesWrong)

/-- 'barrowlaw01.SpanSets': WHATEVER THE INPUT: true; the input reads as it did. -/
def spanSetsSpec : ChangeSpec := { name := "spanSets", fn := fun _ => fun
  | [d1, d2] => { results := [.lit (.bool true)], args := [d1, d2] }
  | _ => none }
def spanSetsRow : OpenClaim := { program := "ytclmgkjmimondaa", sum := "1207c98d8046f68788614356bac28d42efae9fc7c3f2f2ae1a8558976eefd84b", func := "barrow/barrowlaw01.SpanSets", spec := "spanSets", unfollowed := true, recurses := true, apart := false }
def SpanSetsSaid : Prop := spanSetsRow.holds Try.pinned (OpenSpec.ofChange spanSetsSpec)

/-- ITS FALSE NEIGHBOUR: 'it returns false'. Refute it at one input. -/
def spanSetsWrong : ChangeSpec := { name := "spanSets", fn := fun _ => fun
  | [d1, d2] => { results := [.lit (.bool false)], args := [d1, d2] }
  | _ => none }
def SpanSetsWrongFalsely : Prop := spanSetsRow.holds Try.pinned (OpenSpec.ofChange spanSetsWrong)

/- THE SECOND FORM. 'bulk': how many values and letters a reading holds, each counted each time it is reached (what is shared counts as often as it is met; a slice's spare places count too). A statement '..UptoSaid' is the law's where the arguments, and the package variables that the reading takes, are together of bulk at most 1048576: NARROWER than '..Said'. Prove '..Said' where nothing that the law and all that it calls make is longer than what came in: it says more and counts as full. Else prove '..UptoSaid'. A law counts once. -/
mutual
def uptoBulk {H : Type} : DataW H → Nat
  | .lit (.string bytes) => bytes.length + 1
  | .lit _ => 1
  | .nil => 1
  | .ptr d => uptoBulk d + 1
  | .slice elems spare => uptoBulkAll elems + uptoBulkAll spare + 1
  | .agg parts => uptoBulkAll parts + 1
  | .iface _ d => uptoBulk d + 1
  | .map entries => uptoBulkEntries entries + 1
  | .held _ => 1
def uptoBulkAll {H : Type} : List (DataW H) → Nat
  | [] => 0
  | d :: r => uptoBulk d + uptoBulkAll r
def uptoBulkEntries {H : Type} : List (Lit × DataW H) → Nat
  | [] => 0
  | x :: r => uptoBulkEntry x + uptoBulkEntries r
def uptoBulkEntry {H : Type} : Lit × DataW H → Nat
  | (.string bytes, d) => bytes.length + uptoBulk d + 1
  | (_, d) => uptoBulk d + 1
 end
def uptoSmall : (H : Type) → List (DataW H) → Bool := fun _ ds => decide (uptoBulkAll ds ≤ 1048576)
def OpenSpec.upto (s : _root_.Go.ChangeSpec) : _root_.Go.OpenSpec := { _root_.Go.OpenSpec.ofChange s with cond := some uptoSmall }

/-- 'barrowlaw01.SpanForms', WHERE WHAT IT READS IS OF BULK AT MOST 1048576: true; the input reads as it did. -/
def spanFormsUptoRow : OpenClaim := { program := "ytclmgkjmimondaa", sum := "1207c98d8046f68788614356bac28d42efae9fc7c3f2f2ae1a8558976eefd84b", func := "barrow/barrowlaw01.SpanForms", spec := "spanForms", unfollowed := true, recurses := true, apart := false, narrowed := true }
def SpanFormsUptoSaid : Prop := spanFormsUptoRow.holds Try.pinned (OpenSpec.upto spanFormsSpec)

/-- 'barrowlaw01.SpanFinds', WHERE WHAT IT READS IS OF BULK AT MOST 1048576: true; the input reads as it did. -/
def spanFindsUptoRow : OpenClaim := { program := "ytclmgkjmimondaa", sum := "1207c98d8046f68788614356bac28d42efae9fc7c3f2f2ae1a8558976eefd84b", func := "barrow/barrowlaw01.SpanFinds", spec := "spanFinds", unfollowed := true, recurses := true, apart := false, narrowed := true }
def SpanFindsUptoSaid : Prop := spanFindsUptoRow.holds Try.pinned (OpenSpec.upto spanFindsSpec)

/-- 'barrowlaw01.SpanHalves', WHERE WHAT IT READS IS OF BULK AT MOST 1048576: true; the input reads as it did. -/
def spanHalvesUptoRow : OpenClaim := { program := "ytclmgkjmimondaa", sum := "1207c98d8046f68788614356bac28d42efae9fc7c3f2f2ae1a8558976eefd84b", func := "barrow/barrowlaw01.SpanHalves", spec := "spanHalves", unfollowed := true, recurses := true, apart := false, narrowed := true }
def SpanHalvesUptoSaid : Prop := spanHalvesUptoRow.holds Try.pinned (OpenSpec.upto spanHalvesSpec)

/-- 'barrowlaw01.SpanRanks', WHERE WHAT IT READS IS OF BULK AT MOST 1048576: true; the input reads as it did. -/
def spanRanksUptoRow : OpenClaim := { program := "ytclmgkjmimondaa", sum := "1207c98d8046f68788614356bac28d42efae9fc7c3f2f2ae1a8558976eefd84b", func := "barrow/barrowlaw01.SpanRanks", spec := "spanRanks", unfollowed := true, recurses := true, apart := false, narrowed := true }
def SpanRanksUptoSaid : Prop := spanRanksUptoRow.holds Try.pinned (OpenSpec.upto spanRanksSpec)

/-- 'barrowlaw01.SpanChanges', WHERE WHAT IT READS IS OF BULK AT MOST 1048576: true; the input reads as it did. -/
def spanChangesUptoRow : OpenClaim := { program := "ytclmgkjmimondaa", sum := "1207c98d8046f68788614356bac28d42efae9fc7c3f2f2ae1a8558976eefd84b", func := "barrow/barrowlaw01.SpanChanges", spec := "spanChanges", unfollowed := true, recurses := true, apart := false, narrowed := true }
def SpanChangesUptoSaid : Prop := spanChangesUptoRow.holds Try.pinned (OpenSpec.upto spanChangesSpec)

/-- 'barrowlaw01.SpanSets', WHERE WHAT IT READS IS OF BULK AT MOST 1048576: true; the input reads as it did. -/
def spanSetsUptoRow : OpenClaim := { program := "ytclmgkjmimondaa", sum := "1207c98d8046f68788614356bac28d42efae9fc7c3f2f2ae1a8558976eefd84b", func := "barrow/barrowlaw01.SpanSets", spec := "spanSets", unfollowed := true, recurses := true, apart := false, narrowed := true }
def SpanSetsUptoSaid : Prop := spanSetsUptoRow.holds Try.pinned (OpenSpec.upto spanSetsSpec)

end Rows
end Go.Proofs.Ytclmgkjmimondaa
