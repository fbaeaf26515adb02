/- ScriptOps: the row where what comes in is small, and its card. -/
import Derived.Test.YtpnnlfhknnnfhaaGreatDoorKLq
import Derived.Test.YtpnnlfhknnnfhaaGreatDoorKUn
namespace Go.Proofs.YtpnnlfhknnnfhaaGreatDoor.ScriptOps
open T Y
open Go.ChangeShapes Go.WideShapes Go.ChangeAt Go.RowKit Go.Joins
open Go.ChangeMaps (open_string shut_string)

set_option maxRecDepth 100000 in
/-- What the walk gives. -/
theorem contract (H : Type) (enc : TypeId × Value → H) (W : World) (base : Nat) (args : Array Value) (ds gs : List (DataW H)) (before : List MemPlace)
    (hval : ∀ (j : Nat) t v, Tryz.f3.params[j]? = some t → args[j]? = some v → Value.okWide Tryz.prog W .any base t v)
    (hW : DataW.Whole enc Tryz.prog Tryz.f3.params.toList Rows.scriptOpsSpec.vars false W args.toList ds gs before) (hk : Rows.uptoSmall H (ds ++ gs) = true) (hL : laidMet Tryz.prog Rows.scriptOpsUptoRow.laid W) :
    Calls Tryz.prog 3 args W fun e W' => ∃ v, e = .returned v ∧ Rows.scriptOpsSpec.post enc Tryz.prog Tryz.f3 false true false false W args v W' := by
  have hW' := hW
  obtain ⟨p, q, hA0, hV, rfl, hfz, hnd⟩ := hW
  have hA : DataW.TrodAll enc Tryz.prog W 0 (fun _ => true) true Tryz.f3.params.toList args.toList ds p := hA0
  rw [Tryz.params3] at hA hval
  obtain ⟨v0, vs0, d0, ds0, p0, q0, hargs, rfl, rfl, h0, r0⟩ := trodAll_cons hA
  obtain ⟨rfl, rfl, rfl⟩ := trodAll_nil r0
  obtain rfl : args = #[v0] := by cases args; simp_all
  obtain ⟨rfl, rfl⟩ := trodVars_none hV
  obtain ⟨a0, rfl, rfl, rfl, w0⟩ := open_string Tryz.underlying9 (hval 0 9 v0 rfl rfl) h0
  clear hA0
  simp only [List.append_nil] at hW' hk
  have hbk : Rows.uptoBulkAll [.lit (.string a0.data.toList)] ≤ 1048576 := of_decide_eq_true hk
  simp only [Rows.uptoBulkAll] at hbk
  simp only [Rows.uptoBulk, len_at] at hbk
  have hu := un_laid hL
  refine (ops_str a0 (by omega) W hu).mono ?_
  rintro r W' ⟨rfl, hnx⟩
  exact ⟨_, rfl, _, _, _, [], _, [], hW', trodAll_cons_mk (shut_bool Tryz.underlying4 _) trodAll_mk0,
    trodAll_cons_mk (shut_string Tryz.underlying9 w0) (trodAll_mk0), rfl, hnx.frame _, fun h => by cases h⟩

set_option maxRecDepth 100000 in
/-- A world for the witness: the settled one, the eight variables holding what their initialisers lay. -/
theorem laid_world (os : Os) : ∃ w0 : World, w0.os = os ∧
    (w0.forCall (fun _ _ => 0) ⟨#[], #[.string ByteArray.empty], []⟩).variablesRefB Tryz.prog = true ∧
    ((w0.forCall (fun _ _ => 0) ⟨#[], #[.string ByteArray.empty], []⟩).heap.toList.drop Tryz.prog.globals.size).take ((begin Tryz.prog (fun _ _ => 0) default).world.heap.size - Tryz.prog.globals.size) =
      (begin Tryz.prog (fun _ _ => 0) default).world.heap.toList.drop Tryz.prog.globals.size ∧
    Input.okWideB Tryz.prog (w0.forCall (fun _ _ => 0) ⟨#[], #[.string ByteArray.empty], []⟩) 3 ⟨#[], #[.string ByteArray.empty], []⟩ = true ∧
    laidMet Tryz.prog Rows.scriptOpsUptoRow.laid (w0.forCall (fun _ _ => 0) ⟨#[], #[.string ByteArray.empty], []⟩).memory ∧
    (∀ (H : Type) (enc : TypeId × Value → H), DataW.whole enc Tryz.prog (w0.forCall (fun _ _ => 0) ⟨#[], #[.string ByteArray.empty], []⟩).memory Tryz.f3.params.toList Rows.scriptOpsSpec.vars false #[Value.string ByteArray.empty].toList 8 = some ([.lit (.string [])], [], [])) := by
  refine ⟨{ World.holding Tryz.prog os ⟨#[.cells #[.string outOfRange] 126, .cells #[.string invalidNum] 126], #[], []⟩ with heap := ((((((((World.holding Tryz.prog os ⟨#[.cells #[.string outOfRange] 126, .cells #[.string invalidNum] 126], #[], []⟩).heap.modify 7 (layCells (nums .u8 t32))).modify 8 (layCells (nums .u8 t64))).modify 6 (layCells (nums .u64 p10))).modify 3 (layCells (nums .u8 acc))).modify 2 (layCells (nums .u8 Pinned.utf8FirstZ))).modify 5 (layCells #[.iface 124 (.pointer (some ⟨(World.settled Tryz.prog os).heap.size, 0, none⟩))])).modify 4 (layCells #[.iface 124 (.pointer (some ⟨(World.settled Tryz.prog os).heap.size + 1, 0, none⟩))])).modify 0 (layCells wdsV) }, rfl, by kernel_rfl, by kernel_rfl, by kernel_rfl, laidMet_of_run' 10 (by kernel_rfl) (by kernel_rfl), fun H enc => by kernel_rfl⟩

set_option maxRecDepth 100000 in
theorem lifted (os : Os) (started : os.Started) (H : Type) (enc : TypeId × Value → H) (F : Stop.Interp) :
    ReturnsInHanded {} Tryz.checked os 3 .any ((Rows.OpenSpec.upto Rows.scriptOpsSpec).preRow enc Tryz.prog Tryz.f3 Rows.scriptOpsUptoRow.domain false Rows.scriptOpsUptoRow.laid) (((Rows.OpenSpec.upto Rows.scriptOpsSpec).at F).post enc Tryz.prog Tryz.f3 false true false false) := by
  obtain ⟨w0, hos, hv, hr, hok, hlm, hx⟩ := laid_world os
  refine returnsInHanded_of_row (C := Tryz.checked) (s := Rows.OpenSpec.upto Rows.scriptOpsSpec) own started (by kernel_rfl) Tryz.func3
    (witness_row_atRef (enc := enc) (C := Tryz.checked) false w0 #[.string ByteArray.empty] hos hv hr hok
      (OpenSpec.preRow_of_cond 8 (hx H enc) (by kernel_rfl) (fun k hk => by cases hk; kernel_rfl) (by kernel_rfl) hlm)) ?_
  intro W base args ds gs before hval hW _ hk _ hL _ _
  exact contract H enc W base args ds gs before hval hW (hk _ rfl) hL

theorem said : Rows.ScriptOpsUptoSaid :=
  OpenClaim.holds_of_cond 3 Tryz.f3 rfl rfl rfl rfl rfl rfl rfl ⟨rfl, rfl, rfl, rfl, rfl⟩ rfl rfl rfl rfl rfl (by kernel_rfl) Tryz.func3 (by kernel_rfl)
    (of_decide_eq_true (by kernel_rfl)) (by unfold Func.isWrapper; first | (rw [if_pos (by decide +kernel)]; kernel_rfl) | (rw [if_neg (by decide +kernel)]; exact ⟨rfl, rfl⟩))
    (fun os started H enc _ F => by rw [OpenClaim.pre_eq_preRow]; exact lifted os started H enc F)

theorem plainly (f : FuncId) (fn : Func) (hf : Tryz.pinned.checked.prog.funcNamed "barrow/barrowlaw24.ScriptOps" = some f) (hfn : Tryz.pinned.checked.prog.funcs[f]? = some fn) :
    true = Tryz.pinned.checked.prog.looks [] ∧ ∀ (j : Nat) t, fn.params[j]? = some t → Tryz.pinned.checked.prog.wantsStandIn t = false := by
  obtain rfl : f = 3 := Option.some.inj ((show Tryz.prog.funcNamed "barrow/barrowlaw24.ScriptOps" = some 3 by kernel_rfl).symm.trans hf) |>.symm
  obtain rfl : fn = Tryz.f3 := (Option.some.inj (Tryz.func3.symm.trans hfn)).symm
  refine ⟨by kernel_rfl, fun j t ht => ?_⟩
  rw [Tryz.params3] at ht
  have hm := Array.mem_of_getElem? ht
  simp only [List.mem_toArray, List.mem_cons, List.not_mem_nil, or_false] at hm
  subst hm
  exact (show Tryz.prog.wantsStandIn 9 = false by kernel_rfl)
end Go.Proofs.YtpnnlfhknnnfhaaGreatDoor.ScriptOps
namespace Go.Proofs.YtpnnlfhknnnfhaaGreatDoor
/-- The card. -/
theorem scriptOpsUpto_holds : Rows.ScriptOpsUptoCardSaid :=
  Claim7.holds_tied_plain_at .later [] _ _ _ _ ScriptOps.said (fun _ h => by cases h) (by kernel_rfl) (fun _ h => by cases h) scriptOpsUpto_row_tie rfl ⟨rfl, rfl⟩ (by kernel_rfl) rfl ScriptOps.plainly (by kernel_rfl)
#print axioms scriptOpsUpto_holds
end Go.Proofs.YtpnnlfhknnnfhaaGreatDoor
