/- GoodsAll: the row for every script, and its card. -/
import Derived.Test.YtnlklhjmhienkaaGreatDoorGLaw
import Derived.Test.YtnlklhjmhienkaaGreatDoorCards
import Derived.Test.YtnlklhjmhienkaaGreatDoorTie
import Derived.ProofKit
import Derived.OpenShut
import Derived.Carry
import Derived.Deep.DeepHandedRow
import Derived.Deep.DeepWitnessRowRef
import Derived.Lib.LaidTab
import Derived.Stop.LaidErr
namespace Go.Proofs.YtnlklhjmhienkaaGreatDoor
open Go.ChangeShapes Go.WideShapes Go.ChangeAt Go.RowKit

theorem own : ownKnob Tryz.prog.godebug = none := by kernel_rfl
theorem gTabType : (Tryz.prog.globals[5]?).map (·.type) = some 140 := by kernel_rfl
theorem cells134 : Tryz.prog.cellsOf 140 = 20 := by kernel_rfl
theorem cells69 : Tryz.prog.cellsOf 103 = 1 := by kernel_rfl
theorem table {W : World} (h : laidMet Tryz.prog Rows.goodsAllUptoRow.laid W) : Q.Tab W :=
  Lib.tabIs_of_head (rest := [("unicode/utf8.acceptRanges", Rows.laid_unicode_utf8_acceptRanges), ("strconv.ErrRange", Rows.laid_strconv_ErrRange), ("strconv.ErrSyntax", Rows.laid_strconv_ErrSyntax), ("unicode/utf8.first", Rows.laid_unicode_utf8_first)]) Q.gTab gTabType Tryz.underlying140 Tryz.underlying103 cells69 cells134 h.tail.tail
theorem laidOut : laidOutB Tryz.prog = true := by kernel_rfl

set_option maxRecDepth 100000 in
/-- What the walk gives. -/
theorem all_contract (H : Type) (enc : TypeId × Value → H) (W : World) (base : Nat) (args : Array Value) (ds gs : List (DataW H)) (before : List MemPlace)
    (hval : ∀ (j : Nat) t v, Tryz.f3.params[j]? = some t → args[j]? = some v → Value.okWide Tryz.prog W .any base t v)
    (hW : DataW.Whole enc Tryz.prog Tryz.f3.params.toList Rows.goodsAllSpec.vars false W args.toList ds gs before) (hk : Rows.uptoSmall H (ds ++ gs) = true) (hL : laidMet Tryz.prog Rows.goodsAllUptoRow.laid W) :
    Calls Tryz.prog 3 args W fun e W' => ∃ v, e = .returned v ∧ Rows.goodsAllSpec.post enc Tryz.prog Tryz.f3 false true false false W args v W' := by
  have hW' := hW
  obtain ⟨p, q, hA0, hV, rfl, hfz, hnd⟩ := hW
  have hA : DataW.TrodAll enc Tryz.prog W 0 (fun _ => true) true Tryz.f3.params.toList args.toList ds p := hA0
  rw [Tryz.params3] at hA hval
  obtain ⟨v0, vs0, d0, ds0, p0, q0, hargs, rfl, rfl, h0, r0⟩ := trodAll_cons hA
  obtain ⟨rfl, rfl, rfl⟩ := trodAll_nil r0
  obtain rfl : args = #[v0] := by cases args; simp_all
  obtain ⟨rfl, rfl⟩ := trodVars_none hV
  obtain ⟨a0, la, ca, rfl⟩ := okWide_slice Tryz.underlying22 (hval 0 22 v0 rfl rfl)
  have h0k := h0
  obtain ⟨fa, hfa⟩ := h0
  clear hA0
  simp only [List.append_nil] at hW' hk
  have hbk : Rows.uptoBulkAll [d0] ≤ 1048576 := of_decide_eq_true hk
  simp only [Rows.uptoBulkAll] at hbk
  have hlt : ∀ x ∈ p0, x.block < W.heap.size := fun x hx => by simpa using hW'.lt x (by simpa using hx)
  have hop : la ≤ ca ∧ ca ≤ maxLen ∧ ∀ i, i < la → ∃ p o, a0 = some p ∧ StepAt W p i o ∧ o.ll ≤ 1048576 := by
    rcases open_script hfa with hcs | ⟨p, len, cap, hcs, hl, hm, hst⟩
    · simp [Value.cells] at hcs
      obtain ⟨rfl, rfl, rfl⟩ := hcs
      exact ⟨Nat.le_refl _, Nat.zero_le _, fun i hi => absurd hi (by omega)⟩
    · simp [Value.cells] at hcs
      obtain ⟨rfl, rfl, rfl⟩ := hcs
      exact ⟨hl, hm, fun i hi => by obtain ⟨o, ho, hb⟩ := hst i hi; exact ⟨p, o, rfl, ho, by have : o.ll ≤ Rows.uptoBulk d0 := hb; omega⟩⟩
  refine (G.all_law a0 la ca W hop.1 hop.2.1 (table hL) hop.2.2).mono ?_
  rintro e W' ⟨rfl, hnx⟩
  refine ⟨_, rfl, _, _, _, [], _, [], hW', trodAll_cons_mk (shut_bool Tryz.underlying4 _) trodAll_mk0, trodAll_cons_mk (Below.trod laidOut (by kernel_rfl) (of_decide_eq_true (by kernel_rfl)) h0k hnx hlt) trodAll_mk0, rfl, hnx.frame _, fun h => by cases h⟩

/-- A block laid anew. -/
def layCells (l : Array Value) : Obj → Obj
  | .cells _ t frozen => .cells l t frozen
  | o => o
def nums (k : IntKind) (l : List Nat) : Array Value := (l.map fun (n : Nat) => Value.int k n).toArray
def t32 : List Nat := [0, 1, 28, 2, 29, 14, 24, 3, 30, 22, 20, 15, 25, 17, 4, 8, 31, 27, 13, 23, 21, 19, 16, 7, 26, 12, 18, 6, 11, 5, 10, 9]
def t64 : List Nat := [0, 1, 56, 2, 57, 49, 28, 3, 61, 58, 42, 50, 38, 29, 17, 4, 62, 47, 59, 36, 45, 43, 51, 22, 53, 39, 33, 30, 24, 18, 12, 5, 63, 55, 48, 27, 60, 41, 37, 16, 46, 35, 44, 21, 52, 32, 23, 11, 54, 26, 40, 15, 34, 20, 31, 10, 25, 14, 19, 9, 13, 8, 7, 6]
def p10 : List Nat := (List.range 20).map fun i => 10 ^ i
def acc : List Nat := [128, 191, 160, 191, 128, 159, 144, 191, 128, 143] ++ List.replicate 22 0
def outOfRange : ByteArray := ⟨#[118, 97, 108, 117, 101, 32, 111, 117, 116, 32, 111, 102, 32, 114, 97, 110, 103, 101]⟩
def invalidSyntax : ByteArray := ⟨#[105, 110, 118, 97, 108, 105, 100, 32, 115, 121, 110, 116, 97, 120]⟩

set_option maxRecDepth 100000 in
/-- A world for the witness: the settled one, the seven variables holding what their initialisers lay. -/
theorem laid_world (os : Os) : ∃ w0 : World, w0.os = os ∧
    (w0.forCall (fun _ _ => 0) ⟨#[], #[.slice none 0 0], []⟩).variablesRefB Tryz.prog = true ∧
    ((w0.forCall (fun _ _ => 0) ⟨#[], #[.slice none 0 0], []⟩).heap.toList.drop Tryz.prog.globals.size).take ((begin Tryz.prog (fun _ _ => 0) default).world.heap.size - Tryz.prog.globals.size) =
      (begin Tryz.prog (fun _ _ => 0) default).world.heap.toList.drop Tryz.prog.globals.size ∧
    Input.okWideB Tryz.prog (w0.forCall (fun _ _ => 0) ⟨#[], #[.slice none 0 0], []⟩) 3 ⟨#[], #[.slice none 0 0], []⟩ = true ∧
    laidMet Tryz.prog Rows.goodsAllUptoRow.laid (w0.forCall (fun _ _ => 0) ⟨#[], #[.slice none 0 0], []⟩).memory ∧
    (∀ (H : Type) (enc : TypeId × Value → H), DataW.whole enc Tryz.prog (w0.forCall (fun _ _ => 0) ⟨#[], #[.slice none 0 0], []⟩).memory Tryz.f3.params.toList Rows.goodsAllSpec.vars false #[Value.slice none 0 0].toList 8 = some ([.nil], [], [])) := by
  refine ⟨{ World.holding Tryz.prog os ⟨#[.cells #[.string outOfRange] 138, .cells #[.string invalidSyntax] 138], #[], []⟩ with heap := (((((((World.holding Tryz.prog os ⟨#[.cells #[.string outOfRange] 138, .cells #[.string invalidSyntax] 138], #[], []⟩).heap.modify 6 (layCells (nums .u8 t32))).modify 7 (layCells (nums .u8 t64))).modify 5 (layCells (nums .u64 p10))).modify 4 (layCells (nums .u8 acc))).modify 3 (layCells (nums .u8 Pinned.utf8FirstZ))).modify 2 (layCells #[.iface 136 (.pointer (some ⟨(World.settled Tryz.prog os).heap.size, 0, none⟩))])).modify 1 (layCells #[.iface 136 (.pointer (some ⟨(World.settled Tryz.prog os).heap.size + 1, 0, none⟩))]) }, rfl, by kernel_rfl, by kernel_rfl, by kernel_rfl, laidMet_of_run' 10 (by kernel_rfl) (by kernel_rfl), fun H enc => by kernel_rfl⟩

set_option maxRecDepth 100000 in
theorem all_lifted (os : Os) (started : os.Started) (H : Type) (enc : TypeId × Value → H) (F : Stop.Interp) :
    ReturnsInHanded {} Tryz.checked os 3 .any ((Rows.OpenSpec.upto Rows.goodsAllSpec).preRow enc Tryz.prog Tryz.f3 Rows.goodsAllUptoRow.domain false Rows.goodsAllUptoRow.laid) (((Rows.OpenSpec.upto Rows.goodsAllSpec).at F).post enc Tryz.prog Tryz.f3 false true false false) := by
  obtain ⟨w0, hos, hv, hr, hok, hlm, hx⟩ := laid_world os
  refine returnsInHanded_of_row (C := Tryz.checked) (s := Rows.OpenSpec.upto Rows.goodsAllSpec) own started (by kernel_rfl) Tryz.func3
    (witness_row_atRef (enc := enc) (C := Tryz.checked) false w0 #[.slice none 0 0] hos hv hr hok
      (OpenSpec.preRow_of_cond 8 (hx H enc) (by kernel_rfl) (fun k hk => by cases hk; kernel_rfl) (by kernel_rfl) hlm)) ?_
  intro W base args ds gs before hval hW _ hk _ hL _ _
  exact all_contract H enc W base args ds gs before hval hW (hk _ rfl) hL

theorem all_said : Rows.GoodsAllUptoSaid :=
  OpenClaim.holds_of_cond 3 Tryz.f3 rfl rfl rfl rfl rfl rfl rfl ⟨rfl, rfl, rfl, rfl, rfl⟩ rfl rfl rfl rfl rfl (by kernel_rfl) Tryz.func3 (by kernel_rfl)
    (of_decide_eq_true (by kernel_rfl)) (by unfold Func.isWrapper; first | (rw [if_pos (by decide +kernel)]; kernel_rfl) | (rw [if_neg (by decide +kernel)]; exact ⟨rfl, rfl⟩))
    (fun os started H enc _ F => by rw [OpenClaim.pre_eq_preRow]; exact all_lifted os started H enc F)

theorem all_plain (f : FuncId) (fn : Func) (hf : Tryz.pinned.checked.prog.funcNamed "barrow/barrowlaw02.GoodsAll" = some f) (hfn : Tryz.pinned.checked.prog.funcs[f]? = some fn) :
    true = Tryz.pinned.checked.prog.looks [] ∧ ∀ (j : Nat) t, fn.params[j]? = some t → Tryz.pinned.checked.prog.wantsStandIn t = false := by
  obtain rfl : f = 3 := Option.some.inj ((show Tryz.prog.funcNamed "barrow/barrowlaw02.GoodsAll" = some 3 by kernel_rfl).symm.trans hf) |>.symm
  obtain rfl : fn = Tryz.f3 := (Option.some.inj (Tryz.func3.symm.trans hfn)).symm
  refine ⟨by kernel_rfl, fun j t ht => ?_⟩
  rw [Tryz.params3] at ht
  obtain rfl : t = 22 := by simpa using Array.mem_of_getElem? ht
  exact (show Tryz.prog.wantsStandIn 22 = false by kernel_rfl)

/-- The card. -/
theorem goodsAllUpto_holds : Rows.GoodsAllUptoCardSaid :=
  Claim7.holds_tied_plain_at .later [] _ _ _ _ all_said (fun _ h => by cases h) (by kernel_rfl) (fun _ h => by cases h) goodsAllUpto_row_tie rfl ⟨rfl, rfl⟩ (by kernel_rfl) rfl all_plain (by kernel_rfl)
#print axioms goodsAllUpto_holds
end Go.Proofs.YtnlklhjmhienkaaGreatDoor
