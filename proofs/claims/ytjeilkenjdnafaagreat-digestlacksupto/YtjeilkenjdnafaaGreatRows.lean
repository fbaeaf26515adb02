/-
  No cell of these rows narrows 'for every input' (looked for: loops, veiled, ifaces, maps, wideKeys, modest, calm, conditions, laid).
  DERIVED. THE GIVEN ROWS OF THIS SEAT. 6 by the template 'for every input the law returns true; each argument reads behind the call as it read before'; 0 by the template 'total and deterministic' (their statements: YtjeilkenjdnafaaGreatTotals.lean).
  GIVEN WITH THE SEED: the statements are not yours to turn. If you find one false, say at which input.
  Laid BY PROGRAM, IN A SANDBOX (cutbox-rows.mjs): the forced cells as the released guide's own fill.sh prints them over the translation ff1b8493a4197299… (all of the seat's roots in one cut). By AI agents, Wed Nov 11 2026. No macro, syntax, notation, axiom, sorry.
-/
import Derived.Test.YtjeilkenjdnafaaGreatChecked
import GoSem.Claim
import GoSem.ClaimJoined
import GoSem.ClaimMapViews
import Derived.JoinedTies
import Derived.KernelRfl
namespace Go.Proofs.YtjeilkenjdnafaaGreat
/- THE CELL 'sum', in the pinned program and in every row, IS THE sha256 OF THE DUMP (.gsa) THAT YtjeilkenjdnafaaGreatProg.lean LOADS. Nothing in Lean hashes anything: it is a label: what it is worth is what the hold of that sum in a sandbox is worth. -/
noncomputable def Tryz.pinned : Pinned := { name := "ytjeilkenjdnafaagreat", sum := "ff1b8493a41972992c4c121de1cdc8cc666378a311bfa2a75de91b4a138ab0fa", checked := Tryz.checked }
namespace Rows
def none {H : Type} : Left H := { results := [], args := [] }

/-- 'barrowlaw14.DigestTells': WHATEVER THE INPUT: true; the input reads as it did. -/
def digestTellsSpec : ChangeSpec := { name := "digestTells", fn := fun _ => fun
  | [d1, d2, d3] => { results := [.lit (.bool true)], args := [d1, d2, d3] }
  | _ => none }
def digestTellsRow : OpenClaim := { program := "ytjeilkenjdnafaagreat", sum := "ff1b8493a41972992c4c121de1cdc8cc666378a311bfa2a75de91b4a138ab0fa", func := "barrow/barrowlaw14.DigestTells", spec := "digestTells", inPlace := ["internal/bytealg.abigen_runtime_cmpstring"], unfollowed := true, recurses := true, apart := false }
def DigestTellsSaid : Prop := digestTellsRow.holds Tryz.pinned (OpenSpec.ofChange digestTellsSpec)

/-- ITS FALSE NEIGHBOUR: 'it returns false'. Refute it at one input. -/
def digestTellsWrong : ChangeSpec := { name := "digestTells", fn := fun _ => fun
  | [d1, d2, d3] => { results := [.lit (.bool false)], args := [d1, d2, d3] }
  | _ => none }
def DigestTellsWrongFalsely : Prop := digestTellsRow.holds Tryz.pinned (OpenSpec.ofChange digestTellsWrong)

/-- 'barrowlaw14.DigestLacks': WHATEVER THE INPUT: true; the input reads as it did. -/
def digestLacksSpec : ChangeSpec := { name := "digestLacks", fn := fun _ => fun
  | [d1, d2, d3] => { results := [.lit (.bool true)], args := [d1, d2, d3] }
  | _ => none }
def digestLacksRow : OpenClaim := { program := "ytjeilkenjdnafaagreat", sum := "ff1b8493a41972992c4c121de1cdc8cc666378a311bfa2a75de91b4a138ab0fa", func := "barrow/barrowlaw14.DigestLacks", spec := "digestLacks", inPlace := ["internal/bytealg.abigen_runtime_cmpstring"], unfollowed := true, recurses := true, apart := false }
def DigestLacksSaid : Prop := digestLacksRow.holds Tryz.pinned (OpenSpec.ofChange digestLacksSpec)

/-- ITS FALSE NEIGHBOUR: 'it returns false'. Refute it at one input. -/
def digestLacksWrong : ChangeSpec := { name := "digestLacks", fn := fun _ => fun
  | [d1, d2, d3] => { results := [.lit (.bool false)], args := [d1, d2, d3] }
  | _ => none }
def DigestLacksWrongFalsely : Prop := digestLacksRow.holds Tryz.pinned (OpenSpec.ofChange digestLacksWrong)

/-- 'barrowlaw14.DigestPictures': WHATEVER THE INPUT: true; the input reads as it did. -/
def digestPicturesSpec : ChangeSpec := { name := "digestPictures", fn := fun _ => fun
  | [d1, d2] => { results := [.lit (.bool true)], args := [d1, d2] }
  | _ => none }
def digestPicturesRow : OpenClaim := { program := "ytjeilkenjdnafaagreat", sum := "ff1b8493a41972992c4c121de1cdc8cc666378a311bfa2a75de91b4a138ab0fa", func := "barrow/barrowlaw14.DigestPictures", spec := "digestPictures", inPlace := ["internal/bytealg.abigen_runtime_cmpstring"], unfollowed := true, recurses := true, apart := false }
def DigestPicturesSaid : Prop := digestPicturesRow.holds Tryz.pinned (OpenSpec.ofChange digestPicturesSpec)

/-- ITS FALSE NEIGHBOUR: 'it returns false'. Refute it at one input. -/
def digestPicturesWrong : ChangeSpec := { name := "digestPictures", fn := fun _ => fun
  | [d1, d2] => { results := [.lit (.bool false)], args := [d1, d2] }
  | _ => none }
def DigestPicturesWrongFalsely : Prop := digestPicturesRow.holds Tryz.pinned (OpenSpec.ofChange digestPicturesWrong)

/-- 'barrowlaw14.DigestSpares': WHATEVER THE INPUT: true; the input reads as it did. -/
def digestSparesSpec : ChangeSpec := { name := "digestSpares", fn := fun _ => fun
  | [d1, d2] => { results := [.lit (.bool true)], args := [d1, d2] }
  | _ => none }
def digestSparesRow : OpenClaim := { program := "ytjeilkenjdnafaagreat", sum := "ff1b8493a41972992c4c121de1cdc8cc666378a311bfa2a75de91b4a138ab0fa", func := "barrow/barrowlaw14.DigestSpares", spec := "digestSpares", inPlace := ["internal/bytealg.abigen_runtime_cmpstring"], unfollowed := true, recurses := true, apart := false }
def DigestSparesSaid : Prop := digestSparesRow.holds Tryz.pinned (OpenSpec.ofChange digestSparesSpec)

/-- ITS FALSE NEIGHBOUR: 'it returns false'. Refute it at one input. -/
def digestSparesWrong : ChangeSpec := { name := "digestSpares", fn := fun _ => fun
  | [d1, d2] => { results := [.lit (.bool false)], args := [d1, d2] }
  | _ => none }
def DigestSparesWrongFalsely : Prop := digestSparesRow.holds Tryz.pinned (OpenSpec.ofChange digestSparesWrong)

/-- 'barrowlaw14.DigestHeals': WHATEVER THE INPUT: true; the input reads as it did. -/
def digestHealsSpec : ChangeSpec := { name := "digestHeals", fn := fun _ => fun
  | [d1, d2] => { results := [.lit (.bool true)], args := [d1, d2] }
  | _ => none }
def digestHealsRow : OpenClaim := { program := "ytjeilkenjdnafaagreat", sum := "ff1b8493a41972992c4c121de1cdc8cc666378a311bfa2a75de91b4a138ab0fa", func := "barrow/barrowlaw14.DigestHeals", spec := "digestHeals", inPlace := ["internal/bytealg.abigen_runtime_cmpstring"], unfollowed := true, recurses := true, apart := false }
def DigestHealsSaid : Prop := digestHealsRow.holds Tryz.pinned (OpenSpec.ofChange digestHealsSpec)

/-- ITS FALSE NEIGHBOUR: 'it returns false'. Refute it at one input. -/
def digestHealsWrong : ChangeSpec := { name := "digestHeals", fn := fun _ => fun
  | [d1, d2] => { results := [.lit (.bool false)], args := [d1, d2] }
  | _ => none }
def DigestHealsWrongFalsely : Prop := digestHealsRow.holds Tryz.pinned (OpenSpec.ofChange digestHealsWrong)

/-- 'barrowlaw14.DigestHealsFacts': WHATEVER THE INPUT: true; the input reads as it did. -/
def digestHealsFactsSpec : ChangeSpec := { name := "digestHealsFacts", fn := fun _ => fun
  | [d1, d2] => { results := [.lit (.bool true)], args := [d1, d2] }
  | _ => none }
def digestHealsFactsRow : OpenClaim := { program := "ytjeilkenjdnafaagreat", sum := "ff1b8493a41972992c4c121de1cdc8cc666378a311bfa2a75de91b4a138ab0fa", func := "barrow/barrowlaw14.DigestHealsFacts", spec := "digestHealsFacts", inPlace := ["internal/bytealg.abigen_runtime_cmpstring"], unfollowed := true, recurses := true, apart := false }
def DigestHealsFactsSaid : Prop := digestHealsFactsRow.holds Tryz.pinned (OpenSpec.ofChange digestHealsFactsSpec)

/-- ITS FALSE NEIGHBOUR: 'it returns false'. Refute it at one input. -/
def digestHealsFactsWrong : ChangeSpec := { name := "digestHealsFacts", fn := fun _ => fun
  | [d1, d2] => { results := [.lit (.bool false)], args := [d1, d2] }
  | _ => none }
def DigestHealsFactsWrongFalsely : Prop := digestHealsFactsRow.holds Tryz.pinned (OpenSpec.ofChange digestHealsFactsWrong)

/- THE SECOND FORM. 'bulk': how many values and letters a reading holds, each counted each time it is reached (what is shared counts as often as it is met; a slice's spare places count too). A statement '..UptoSaid' is the law's where the arguments, and the package variables that the reading takes, are together of bulk at most 1048576: NARROWER than '..Said'. Prove '..Said' where nothing that the law and all that it calls make is longer than what came in: it says more and counts as full. Else prove '..UptoSaid'. A law counts once. -/
mutual
def uptoBulk {H : Type} : DataW H → Nat
  | .lit (.string bytes) => bytes.length + 1
  | .lit _ => 1
  | .nil => 1
  | .ptr d => uptoBulk d + 1
  | .slice elems spare => uptoBulkAll elems + uptoBulkAll spare + 1
  | .agg parts => uptoBulkAll parts + 1
  | .iface _ d => uptoBulk d + 1
  | .map entries => uptoBulkEntries entries + 1
  | .held _ => 1
def uptoBulkAll {H : Type} : List (DataW H) → Nat
  | [] => 0
  | d :: r => uptoBulk d + uptoBulkAll r
def uptoBulkEntries {H : Type} : List (Lit × DataW H) → Nat
  | [] => 0
  | x :: r => uptoBulkEntry x + uptoBulkEntries r
def uptoBulkEntry {H : Type} : Lit × DataW H → Nat
  | (.string bytes, d) => bytes.length + uptoBulk d + 1
  | (_, d) => uptoBulk d + 1
 end
def uptoSmall : (H : Type) → List (DataW H) → Bool := fun _ ds => decide (uptoBulkAll ds ≤ 1048576)
def OpenSpec.upto (s : _root_.Go.ChangeSpec) : _root_.Go.OpenSpec := { _root_.Go.OpenSpec.ofChange s with cond := some uptoSmall }

/-- 'barrowlaw14.DigestTells', WHERE WHAT IT READS IS OF BULK AT MOST 1048576: true; the input reads as it did. -/
def digestTellsUptoRow : OpenClaim := { program := "ytjeilkenjdnafaagreat", sum := "ff1b8493a41972992c4c121de1cdc8cc666378a311bfa2a75de91b4a138ab0fa", func := "barrow/barrowlaw14.DigestTells", spec := "digestTells", inPlace := ["internal/bytealg.abigen_runtime_cmpstring"], unfollowed := true, recurses := true, apart := false, narrowed := true }
def DigestTellsUptoSaid : Prop := digestTellsUptoRow.holds Tryz.pinned (OpenSpec.upto digestTellsSpec)

/-- 'barrowlaw14.DigestLacks', WHERE WHAT IT READS IS OF BULK AT MOST 1048576: true; the input reads as it did. -/
def digestLacksUptoRow : OpenClaim := { program := "ytjeilkenjdnafaagreat", sum := "ff1b8493a41972992c4c121de1cdc8cc666378a311bfa2a75de91b4a138ab0fa", func := "barrow/barrowlaw14.DigestLacks", spec := "digestLacks", inPlace := ["internal/bytealg.abigen_runtime_cmpstring"], unfollowed := true, recurses := true, apart := false, narrowed := true }
def DigestLacksUptoSaid : Prop := digestLacksUptoRow.holds Tryz.pinned (OpenSpec.upto digestLacksSpec)

/-- 'barrowlaw14.DigestPictures', WHERE WHAT IT READS IS OF BULK AT MOST 1048576: true; the input reads as it did. -/
def digestPicturesUptoRow : OpenClaim := { program := "ytjeilkenjdnafaagreat", sum := "ff1b8493a41972992c4c121de1cdc8cc666378a311bfa2a75de91b4a138ab0fa", func := "barrow/barrowlaw14.DigestPictures", spec := "digestPictures", inPlace := ["internal/bytealg.abigen_runtime_cmpstring"], unfollowed := true, recurses := true, apart := false, narrowed := true }
def DigestPicturesUptoSaid : Prop := digestPicturesUptoRow.holds Tryz.pinned (OpenSpec.upto digestPicturesSpec)

/-- 'barrowlaw14.DigestSpares', WHERE WHAT IT READS IS OF BULK AT MOST 1048576: true; the input reads as it did. -/
def digestSparesUptoRow : OpenClaim := { program := "ytjeilkenjdnafaagreat", sum := "ff1b8493a41972992c4c121de1cdc8cc666378a311bfa2a75de91b4a138ab0fa", func := "barrow/barrowlaw14.DigestSpares", spec := "digestSpares", inPlace := ["internal/bytealg.abigen_runtime_cmpstring"], unfollowed := true, recurses := true, apart := false, narrowed := true }
def DigestSparesUptoSaid : Prop := digestSparesUptoRow.holds Tryz.pinned (OpenSpec.upto digestSparesSpec)

/-- 'barrowlaw14.DigestHeals', WHERE WHAT IT READS IS OF BULK AT MOST 1048576: true; the input reads as it did. -/
def digestHealsUptoRow : OpenClaim := { program := "ytjeilkenjdnafaagreat", sum := "ff1b8493a41972992c4c121de1cdc8cc666378a311bfa2a75de91b4a138ab0fa", func := "barrow/barrowlaw14.DigestHeals", spec := "digestHeals", inPlace := ["internal/bytealg.abigen_runtime_cmpstring"], unfollowed := true, recurses := true, apart := false, narrowed := true }
def DigestHealsUptoSaid : Prop := digestHealsUptoRow.holds Tryz.pinned (OpenSpec.upto digestHealsSpec)

/-- 'barrowlaw14.DigestHealsFacts', WHERE WHAT IT READS IS OF BULK AT MOST 1048576: true; the input reads as it did. -/
def digestHealsFactsUptoRow : OpenClaim := { program := "ytjeilkenjdnafaagreat", sum := "ff1b8493a41972992c4c121de1cdc8cc666378a311bfa2a75de91b4a138ab0fa", func := "barrow/barrowlaw14.DigestHealsFacts", spec := "digestHealsFacts", inPlace := ["internal/bytealg.abigen_runtime_cmpstring"], unfollowed := true, recurses := true, apart := false, narrowed := true }
def DigestHealsFactsUptoSaid : Prop := digestHealsFactsUptoRow.holds Tryz.pinned (OpenSpec.upto digestHealsFactsSpec)

end Rows
end Go.Proofs.YtjeilkenjdnafaaGreat
