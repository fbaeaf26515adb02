/-
  No cell of these rows narrows 'for every input' (looked for: loops, veiled, ifaces, maps, wideKeys, modest, calm, conditions, laid).
  DERIVED. THE GIVEN ROWS OF THIS SEAT. 5 by the template 'for every input the law returns true; each argument reads behind the call as it read before'; 0 by the template 'total and deterministic' (their statements: YtakeckpfblinpaaTotals.lean).
  GIVEN WITH THE SEED: the statements are not yours to turn. If you find one false, say at which input.
  Laid BY PROGRAM, IN A SANDBOX (cutbox-rows.mjs): the forced cells as the released guide's own fill.sh prints them over the translation c48a58c4a9882e59… (all of the seat's roots in one cut). By AI agents, Wed Nov 11 2026. No macro, syntax, notation, axiom, sorry.
-/
import Derived.Test.YtakeckpfblinpaaChecked
import GoSem.Claim
import GoSem.ClaimJoined
import GoSem.ClaimMapViews
import Derived.JoinedTies
import Derived.KernelRfl
namespace Go.Proofs.Ytakeckpfblinpaa
/- THE CELL 'sum', in the pinned program and in every row, IS THE sha256 OF THE DUMP (.gsa) THAT YtakeckpfblinpaaProg.lean LOADS. Nothing in Lean hashes anything: it is a label: what it is worth is what the hold of that sum in a sandbox is worth. -/
noncomputable def Try.pinned : Pinned := { name := "ytakeckpfblinpaa", sum := "c48a58c4a9882e5901f23f24ea2fb23e55169d7477fd9ac16fce1fba35403998", checked := Try.checked }
namespace Rows
def none {H : Type} : Left H := { results := [], args := [] }

/-- 'barrowlaw02.GoodsCleansOnce': WHATEVER THE INPUT: true; the input reads as it did. -/
def goodsCleansOnceSpec : ChangeSpec := { name := "goodsCleansOnce", fn := fun _ => fun
  | [d1, d2] => { results := [.lit (.bool true)], args := [d1, d2] }
  | _ => none }
def goodsCleansOnceRow : OpenClaim := { program := "ytakeckpfblinpaa", sum := "c48a58c4a9882e5901f23f24ea2fb23e55169d7477fd9ac16fce1fba35403998", func := "barrow/barrowlaw02.GoodsCleansOnce", spec := "goodsCleansOnce", apart := false }
def GoodsCleansOnceSaid : Prop := goodsCleansOnceRow.holds Try.pinned (OpenSpec.ofChange goodsCleansOnceSpec)

/-- ITS FALSE NEIGHBOUR: 'it returns false'. Refute it at one input. -/
def goodsCleansOnceWrong : ChangeSpec := { name := "goodsCleansOnce", fn := fun _ => fun
  | [d1, d2] => { results := [.lit (.bool false)], args := [d1, d2] }
  | _ => none }
def GoodsCleansOnceWrongFalsely : Prop := goodsCleansOnceRow.holds Try.pinned (OpenSpec.ofChange goodsCleansOnceWrong)

/-- 'barrowlaw02.GoodsCheckDigit': WHATEVER THE INPUT: true; the input reads as it did. -/
def goodsCheckDigitSpec : ChangeSpec := { name := "goodsCheckDigit", fn := fun _ => fun
  | [d1, d2, d3] => { results := [.lit (.bool true)], args := [d1, d2, d3] }
  | _ => none }
def goodsCheckDigitRow : OpenClaim := { program := "ytakeckpfblinpaa", sum := "c48a58c4a9882e5901f23f24ea2fb23e55169d7477fd9ac16fce1fba35403998", func := "barrow/barrowlaw02.GoodsCheckDigit", spec := "goodsCheckDigit", inPlace := ["internal/abi.NoEscape", "internal/bytealg.MakeNoZero"], apart := false }
def GoodsCheckDigitSaid : Prop := goodsCheckDigitRow.holds Try.pinned (OpenSpec.ofChange goodsCheckDigitSpec)

/-- ITS FALSE NEIGHBOUR: 'it returns false'. Refute it at one input. -/
def goodsCheckDigitWrong : ChangeSpec := { name := "goodsCheckDigit", fn := fun _ => fun
  | [d1, d2, d3] => { results := [.lit (.bool false)], args := [d1, d2, d3] }
  | _ => none }
def GoodsCheckDigitWrongFalsely : Prop := goodsCheckDigitRow.holds Try.pinned (OpenSpec.ofChange goodsCheckDigitWrong)

/-- 'barrowlaw02.GoodsWidens': WHATEVER THE INPUT: true; the input reads as it did. -/
def goodsWidensSpec : ChangeSpec := { name := "goodsWidens", fn := fun _ => fun
  | [d] => { results := [.lit (.bool true)], args := [d] }
  | _ => none }
def goodsWidensRow : OpenClaim := { program := "ytakeckpfblinpaa", sum := "c48a58c4a9882e5901f23f24ea2fb23e55169d7477fd9ac16fce1fba35403998", func := "barrow/barrowlaw02.GoodsWidens", spec := "goodsWidens", inPlace := ["internal/abi.NoEscape", "internal/bytealg.MakeNoZero"], apart := false }
def GoodsWidensSaid : Prop := goodsWidensRow.holds Try.pinned (OpenSpec.ofChange goodsWidensSpec)

/-- ITS FALSE NEIGHBOUR: 'it returns false'. Refute it at one input. -/
def goodsWidensWrong : ChangeSpec := { name := "goodsWidens", fn := fun _ => fun
  | [d] => { results := [.lit (.bool false)], args := [d] }
  | _ => none }
def GoodsWidensWrongFalsely : Prop := goodsWidensRow.holds Try.pinned (OpenSpec.ofChange goodsWidensWrong)

/-- 'barrowlaw02.GoodsFits': WHATEVER THE INPUT: true; the input reads as it did. -/
def goodsFitsSpec : ChangeSpec := { name := "goodsFits", fn := fun _ => fun
  | [d1, d2, d3] => { results := [.lit (.bool true)], args := [d1, d2, d3] }
  | _ => none }
def goodsFitsRow : OpenClaim := { program := "ytakeckpfblinpaa", sum := "c48a58c4a9882e5901f23f24ea2fb23e55169d7477fd9ac16fce1fba35403998", func := "barrow/barrowlaw02.GoodsFits", spec := "goodsFits", apart := false }
def GoodsFitsSaid : Prop := goodsFitsRow.holds Try.pinned (OpenSpec.ofChange goodsFitsSpec)

/-- ITS FALSE NEIGHBOUR: 'it returns false'. Refute it at one input. -/
def goodsFitsWrong : ChangeSpec := { name := "goodsFits", fn := fun _ => fun
  | [d1, d2, d3] => { results := [.lit (.bool false)], args := [d1, d2, d3] }
  | _ => none }
def GoodsFitsWrongFalsely : Prop := goodsFitsRow.holds Try.pinned (OpenSpec.ofChange goodsFitsWrong)

/-- 'barrowlaw02.GoodsTotalAdds': WHATEVER THE INPUT: true; the input reads as it did. -/
def goodsTotalAddsSpec : ChangeSpec := { name := "goodsTotalAdds", fn := fun _ => fun
  | [d1, d2] => { results := [.lit (.bool true)], args := [d1, d2] }
  | _ => none }
def goodsTotalAddsRow : OpenClaim := { program := "ytakeckpfblinpaa", sum := "c48a58c4a9882e5901f23f24ea2fb23e55169d7477fd9ac16fce1fba35403998", func := "barrow/barrowlaw02.GoodsTotalAdds", spec := "goodsTotalAdds", apart := false }
def GoodsTotalAddsSaid : Prop := goodsTotalAddsRow.holds Try.pinned (OpenSpec.ofChange goodsTotalAddsSpec)

/-- ITS FALSE NEIGHBOUR: 'it returns false'. Refute it at one input. -/
def goodsTotalAddsWrong : ChangeSpec := { name := "goodsTotalAdds", fn := fun _ => fun
  | [d1, d2] => { results := [.lit (.bool false)], args := [d1, d2] }
  | _ => none }
def GoodsTotalAddsWrongFalsely : Prop := goodsTotalAddsRow.holds Try.pinned (OpenSpec.ofChange goodsTotalAddsWrong)

/- THE SECOND FORM. 'bulk': how many values and letters a reading holds, each counted each time it is reached (what is shared counts as often as it is met; a slice's spare places count too). A statement '..UptoSaid' is the law's where the arguments, and the package variables that the reading takes, are together of bulk at most 1048576: NARROWER than '..Said'. Prove '..Said' where nothing that the law and all that it calls make is longer than what came in: it says more and counts as full. Else prove '..UptoSaid'. A law counts once. -/
mutual
def uptoBulk {H : Type} : DataW H → Nat
  | .lit (.string bytes) => bytes.length + 1
  | .lit _ => 1
  | .nil => 1
  | .ptr d => uptoBulk d + 1
  | .slice elems spare => uptoBulkAll elems + uptoBulkAll spare + 1
  | .agg parts => uptoBulkAll parts + 1
  | .iface _ d => uptoBulk d + 1
  | .map entries => uptoBulkEntries entries + 1
  | .held _ => 1
def uptoBulkAll {H : Type} : List (DataW H) → Nat
  | [] => 0
  | d :: r => uptoBulk d + uptoBulkAll r
def uptoBulkEntries {H : Type} : List (Lit × DataW H) → Nat
  | [] => 0
  | x :: r => uptoBulkEntry x + uptoBulkEntries r
def uptoBulkEntry {H : Type} : Lit × DataW H → Nat
  | (.string bytes, d) => bytes.length + uptoBulk d + 1
  | (_, d) => uptoBulk d + 1
 end
def uptoSmall : (H : Type) → List (DataW H) → Bool := fun _ ds => decide (uptoBulkAll ds ≤ 1048576)
def OpenSpec.upto (s : _root_.Go.ChangeSpec) : _root_.Go.OpenSpec := { _root_.Go.OpenSpec.ofChange s with cond := some uptoSmall }

/-- 'barrowlaw02.GoodsCleansOnce', WHERE WHAT IT READS IS OF BULK AT MOST 1048576: true; the input reads as it did. -/
def goodsCleansOnceUptoRow : OpenClaim := { program := "ytakeckpfblinpaa", sum := "c48a58c4a9882e5901f23f24ea2fb23e55169d7477fd9ac16fce1fba35403998", func := "barrow/barrowlaw02.GoodsCleansOnce", spec := "goodsCleansOnce", apart := false, narrowed := true }
def GoodsCleansOnceUptoSaid : Prop := goodsCleansOnceUptoRow.holds Try.pinned (OpenSpec.upto goodsCleansOnceSpec)

/-- 'barrowlaw02.GoodsCheckDigit', WHERE WHAT IT READS IS OF BULK AT MOST 1048576: true; the input reads as it did. -/
def goodsCheckDigitUptoRow : OpenClaim := { program := "ytakeckpfblinpaa", sum := "c48a58c4a9882e5901f23f24ea2fb23e55169d7477fd9ac16fce1fba35403998", func := "barrow/barrowlaw02.GoodsCheckDigit", spec := "goodsCheckDigit", inPlace := ["internal/abi.NoEscape", "internal/bytealg.MakeNoZero"], apart := false, narrowed := true }
def GoodsCheckDigitUptoSaid : Prop := goodsCheckDigitUptoRow.holds Try.pinned (OpenSpec.upto goodsCheckDigitSpec)

/-- 'barrowlaw02.GoodsWidens', WHERE WHAT IT READS IS OF BULK AT MOST 1048576: true; the input reads as it did. -/
def goodsWidensUptoRow : OpenClaim := { program := "ytakeckpfblinpaa", sum := "c48a58c4a9882e5901f23f24ea2fb23e55169d7477fd9ac16fce1fba35403998", func := "barrow/barrowlaw02.GoodsWidens", spec := "goodsWidens", inPlace := ["internal/abi.NoEscape", "internal/bytealg.MakeNoZero"], apart := false, narrowed := true }
def GoodsWidensUptoSaid : Prop := goodsWidensUptoRow.holds Try.pinned (OpenSpec.upto goodsWidensSpec)

/-- 'barrowlaw02.GoodsFits', WHERE WHAT IT READS IS OF BULK AT MOST 1048576: true; the input reads as it did. -/
def goodsFitsUptoRow : OpenClaim := { program := "ytakeckpfblinpaa", sum := "c48a58c4a9882e5901f23f24ea2fb23e55169d7477fd9ac16fce1fba35403998", func := "barrow/barrowlaw02.GoodsFits", spec := "goodsFits", apart := false, narrowed := true }
def GoodsFitsUptoSaid : Prop := goodsFitsUptoRow.holds Try.pinned (OpenSpec.upto goodsFitsSpec)

/-- 'barrowlaw02.GoodsTotalAdds', WHERE WHAT IT READS IS OF BULK AT MOST 1048576: true; the input reads as it did. -/
def goodsTotalAddsUptoRow : OpenClaim := { program := "ytakeckpfblinpaa", sum := "c48a58c4a9882e5901f23f24ea2fb23e55169d7477fd9ac16fce1fba35403998", func := "barrow/barrowlaw02.GoodsTotalAdds", spec := "goodsTotalAdds", apart := false, narrowed := true }
def GoodsTotalAddsUptoSaid : Prop := goodsTotalAddsUptoRow.holds Try.pinned (OpenSpec.upto goodsTotalAddsSpec)

end Rows
end Go.Proofs.Ytakeckpfblinpaa
