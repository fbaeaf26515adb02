/- SpanShows: the row where what comes in is small, and its card. -/
import Derived.Test.YtpolleieajgheaaDoorHLw
import Derived.Test.YtpolleieajgheaaDoorRVu
import Derived.Test.YtpolleieajgheaaDoorCards
import Derived.Test.YtpolleieajgheaaDoorTie
import Derived.ProofKit
import Derived.OpenShut
import Derived.ShutString
import Derived.Deep.DeepHandedRow
import Derived.Lib.LaidTab
import Derived.Stop.LaidErr
namespace Go.Proofs.YtpolleieajgheaaDoor
open Go.ChangeShapes Go.WideShapes Go.ChangeAt Go.RowKit Go.Joins T Y

theorem gTabType : (Tryd.prog.globals[1]?).map (·.type) = some 91 := by kernel_rfl
theorem cellsTab : Tryd.prog.cellsOf 91 = 20 := by kernel_rfl
theorem cellsU64 : Tryd.prog.cellsOf 71 = 1 := by kernel_rfl
theorem table {W : World} (h : laidMet Tryd.prog Rows.spanShowsUptoRow.laid W) : Tab W :=
  ⟨Lib.tabIs_of_head (rest := []) gTab gTabType Tryd.underlying91 Tryd.underlying71 cellsU64 cellsTab h.tail.tail⟩
set_option maxRecDepth 100000 in
/-- What the walk gives. -/
theorem sw_contract (H : Type) (enc : TypeId × Value → H) (W : World) (base : Nat) (args : Array Value) (ds gs : List (DataW H)) (before : List MemPlace)
    (hval : ∀ (j : Nat) t v, Tryd.f3.params[j]? = some t → args[j]? = some v → Value.okWide Tryd.prog W .any base t v)
    (hW : DataW.Whole enc Tryd.prog Tryd.f3.params.toList Rows.spanShowsSpec.vars false W args.toList ds gs before) (hk : Rows.uptoSmall H (ds ++ gs) = true) (hL : laidMet Tryd.prog Rows.spanShowsUptoRow.laid W) :
    Calls Tryd.prog 3 args W fun e W' => ∃ v, e = .returned v ∧ Rows.spanShowsSpec.post enc Tryd.prog Tryd.f3 false true false false W args v W' := by
  have hW' := hW
  obtain ⟨p, q, hA0, hV, rfl, hfz, hnd⟩ := hW
  have hA : DataW.TrodAll enc Tryd.prog W 0 (fun _ => true) true Tryd.f3.params.toList args.toList ds p := hA0
  rw [Tryd.params3] at hA hval
  obtain ⟨v0, vs0, d0, ds0, p0, q0, hargs, rfl, rfl, h0, r0⟩ := trodAll_cons hA
  obtain ⟨rfl, rfl, rfl⟩ := trodAll_nil r0
  obtain rfl : args = #[v0] := by cases args; simp_all
  obtain ⟨rfl, rfl⟩ := trodVars_none hV
  obtain ⟨a0, l0, c0, rfl⟩ := okWide_slice Tryd.underlying22 (hval 0 22 v0 rfl rfl)
  have h0k := h0
  clear hA0
  simp only [List.append_nil] at hW' hk
  have hbk : Rows.uptoBulkAll [d0] ≤ 1048576 := of_decide_eq_true hk
  simp only [Rows.uptoBulkAll] at hbk
  obtain ⟨A0, S0, g0⟩ := viewU h0 (by omega)
  have hlt : ∀ x ∈ p0, x.block < W.heap.size := fun x hx => by simpa using hW'.lt x (by simpa using hx)
  refine (shows_any a0 l0 c0 A0 W S0 (by omega) (table hL)).mono ?_
  rintro e W' ⟨rfl, hnx⟩
  exact ⟨_, rfl, _, _, _, [], _, [], hW', trodAll_cons_mk (shut_bool Tryd.underlying4 _) trodAll_mk0,
    trodAll_cons_mk (Below.trod laidOut (by kernel_rfl) (of_decide_eq_true (by kernel_rfl)) h0k hnx hlt) trodAll_mk0, rfl, hnx.frame _, fun h => by cases h⟩

/-- A block laid anew. -/
def layCells (l : Array Value) : Obj → Obj
  | .cells _ t frozen => .cells l t frozen
  | o => o
def nums (k : IntKind) (l : List Nat) : Array Value := (l.map fun (n : Nat) => Value.int k n).toArray
def t32 : List Nat := [0, 1, 28, 2, 29, 14, 24, 3, 30, 22, 20, 15, 25, 17, 4, 8, 31, 27, 13, 23, 21, 19, 16, 7, 26, 12, 18, 6, 11, 5, 10, 9]
def t64 : List Nat := [0, 1, 56, 2, 57, 49, 28, 3, 61, 58, 42, 50, 38, 29, 17, 4, 62, 47, 59, 36, 45, 43, 51, 22, 53, 39, 33, 30, 24, 18, 12, 5, 63, 55, 48, 27, 60, 41, 37, 16, 46, 35, 44, 21, 52, 32, 23, 11, 54, 26, 40, 15, 34, 20, 31, 10, 25, 14, 19, 9, 13, 8, 7, 6]
def p10 : List Nat := (List.range 20).map fun i => 10 ^ i

set_option maxRecDepth 100000 in
/-- A world for the witness: the settled one, the three variables holding what their initialisers lay. -/
theorem laid_world (os : Os) : ∃ w0 : World, w0.os = os ∧
    (w0.forCall (fun _ _ => 0) ⟨#[], #[.slice none 0 0], []⟩).variablesB Tryd.prog = true ∧
    ((w0.forCall (fun _ _ => 0) ⟨#[], #[.slice none 0 0], []⟩).heap.toList.drop Tryd.prog.globals.size).take ((begin Tryd.prog (fun _ _ => 0) default).world.heap.size - Tryd.prog.globals.size) =
      (begin Tryd.prog (fun _ _ => 0) default).world.heap.toList.drop Tryd.prog.globals.size ∧
    Input.okWideB Tryd.prog (w0.forCall (fun _ _ => 0) ⟨#[], #[.slice none 0 0], []⟩) 3 ⟨#[], #[.slice none 0 0], []⟩ = true ∧
    laidMet Tryd.prog Rows.spanShowsUptoRow.laid (w0.forCall (fun _ _ => 0) ⟨#[], #[.slice none 0 0], []⟩).memory ∧
    (∀ (H : Type) (enc : TypeId × Value → H), DataW.whole enc Tryd.prog (w0.forCall (fun _ _ => 0) ⟨#[], #[.slice none 0 0], []⟩).memory Tryd.f3.params.toList Rows.spanShowsSpec.vars false #[Value.slice none 0 0].toList 8 = some ([.nil], [], [])) := by
  refine ⟨{ World.holding Tryd.prog os ⟨#[], #[], []⟩ with heap := (((World.holding Tryd.prog os ⟨#[], #[], []⟩).heap.modify 2 (layCells (nums .u8 t32))).modify 3 (layCells (nums .u8 t64))).modify 1 (layCells (nums .u64 p10)) }, rfl, by kernel_rfl, by kernel_rfl, by kernel_rfl, laidMet_of_run' 10 (by kernel_rfl) (by kernel_rfl), fun H enc => by kernel_rfl⟩

set_option maxRecDepth 100000 in
theorem sw_lifted (os : Os) (started : os.Started) (H : Type) (enc : TypeId × Value → H) (F : Stop.Interp) :
    ReturnsInHanded {} Tryd.checked os 3 .any ((Rows.OpenSpec.upto Rows.spanShowsSpec).preRow enc Tryd.prog Tryd.f3 Rows.spanShowsUptoRow.domain false Rows.spanShowsUptoRow.laid) (((Rows.OpenSpec.upto Rows.spanShowsSpec).at F).post enc Tryd.prog Tryd.f3 false true false false) := by
  obtain ⟨w0, hos, hv, hr, hok, hlm, hx⟩ := laid_world os
  refine returnsInHanded_of_row (C := Tryd.checked) (s := Rows.OpenSpec.upto Rows.spanShowsSpec) own started (by kernel_rfl) Tryd.func3
    (witness_row_at (enc := enc) (C := Tryd.checked) false w0 #[.slice none 0 0] hos hv hr hok
      (OpenSpec.preRow_of_cond 8 (hx H enc) (by kernel_rfl) (fun k hk => by cases hk; kernel_rfl) (by kernel_rfl) hlm)) ?_
  intro W base args ds gs before hval hW _ hk _ hL _ _
  exact sw_contract H enc W base args ds gs before hval hW (hk _ rfl) hL

theorem sw_said : Rows.SpanShowsUptoSaid :=
  OpenClaim.holds_of_cond 3 Tryd.f3 rfl rfl rfl rfl rfl rfl rfl ⟨rfl, rfl, rfl, rfl, rfl⟩ rfl rfl rfl rfl rfl (by kernel_rfl) Tryd.func3 (by kernel_rfl)
    (of_decide_eq_true (by kernel_rfl)) (by unfold Func.isWrapper; first | (rw [if_pos (by decide +kernel)]; kernel_rfl) | (rw [if_neg (by decide +kernel)]; exact ⟨rfl, rfl⟩))
    (fun os started H enc _ F => by rw [OpenClaim.pre_eq_preRow]; exact sw_lifted os started H enc F)

theorem sw_plain (f : FuncId) (fn : Func) (hf : Tryd.pinned.checked.prog.funcNamed "barrow/barrowlaw01.SpanShows" = some f) (hfn : Tryd.pinned.checked.prog.funcs[f]? = some fn) :
    false = Tryd.pinned.checked.prog.looks [] ∧ ∀ (j : Nat) t, fn.params[j]? = some t → Tryd.pinned.checked.prog.wantsStandIn t = false := by
  obtain rfl : f = 3 := Option.some.inj ((show Tryd.prog.funcNamed "barrow/barrowlaw01.SpanShows" = some 3 by kernel_rfl).symm.trans hf) |>.symm
  obtain rfl : fn = Tryd.f3 := (Option.some.inj (Tryd.func3.symm.trans hfn)).symm
  refine ⟨by kernel_rfl, fun j t ht => ?_⟩
  rw [Tryd.params3] at ht
  obtain rfl : t = 22 := by simpa using Array.mem_of_getElem? ht
  exact (show Tryd.prog.wantsStandIn 22 = false by kernel_rfl)

/-- The card. -/
theorem spanShowsUpto_holds : Rows.SpanShowsUptoCardSaid :=
  Claim7.holds_tied_plain_at .later [] _ _ _ _ sw_said (fun _ h => by cases h) (by kernel_rfl) (fun _ h => by cases h) spanShowsUpto_row_tie rfl ⟨rfl, rfl⟩ (by kernel_rfl) rfl sw_plain (by kernel_rfl)
#print axioms spanShowsUpto_holds
end Go.Proofs.YtpolleieajgheaaDoor
