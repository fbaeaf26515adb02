/- GoodsByNumber: the row for every two numbers and every two texts, and its card. -/
import Derived.Test.YtiopdoeoonepmafDoorNLaw
import Derived.Test.YtiopdoeoonepmafDoorNAgg
import Derived.Test.YtiopdoeoonepmafDoorCards
import Derived.Test.YtiopdoeoonepmafDoorTie
import Derived.ProofKit
import Derived.OpenShut
import Derived.ShutString
import Derived.SizedLaws
import Derived.Deep.DeepHandedRow
import Derived.Deep.DeepWitnessRowRef
namespace Go.Proofs.YtiopdoeoonepmafDoor.N
open Go.ChangeShapes Go.WideShapes Go.ChangeAt Go.RowKit
open Go.ChangeMaps (open_string shut_string)

theorem own : ownKnob Tryd.prog.godebug = none := by kernel_rfl
theorem cells24 : Tryd.prog.cellsOf 24 = 6 := by kernel_rfl
theorem u32_rng {n : Int} (h : (Lit.int .u32 n).wf = true) : ∃ u : Nat, n = u ∧ u < 4294967296 := by
  have h2 : 0 ≤ n ∧ n ≤ 4294967295 := by simpa [Lit.wf, IntKind.min, IntKind.max, IntKind.bits, IntKind.signed] using h
  exact ⟨n.toNat, by omega, by omega⟩

set_option maxRecDepth 100000 in
/-- What the walk gives. -/
theorem by_contract (H : Type) (enc : TypeId × Value → H) (W : World) (base : Nat) (args : Array Value) (ds gs : List (DataW H)) (before : List MemPlace)
    (hval : ∀ (j : Nat) t v, Tryd.f3.params[j]? = some t → args[j]? = some v → Value.okWide Tryd.prog W .any base t v)
    (hW : DataW.Whole enc Tryd.prog Tryd.f3.params.toList Rows.goodsByNumberSpec.vars false W args.toList ds gs before)
    (hz : (DataW.weightsEach Tryd.prog (Tryd.f3.params.toList ++ Rows.goodsByNumberSpec.plain.varTypes Tryd.prog) (ds ++ gs)).all (· ≤ reachBytes) = true) :
    Calls Tryd.prog 3 args W fun e W' => ∃ v, e = .returned v ∧ Rows.goodsByNumberSpec.post enc Tryd.prog Tryd.f3 false true false false W args v W' := by
  have hW' := hW
  obtain ⟨p, q, hA0, hV, rfl, hfz, hnd⟩ := hW
  have hA : DataW.TrodAll enc Tryd.prog W 0 (fun _ => true) true Tryd.f3.params.toList args.toList ds p := hA0
  rw [Tryd.params3] at hA hval hz
  obtain ⟨v0, vs0, d0, ds0, p0, q0, hargs, rfl, rfl, h0, r0⟩ := trodAll_cons hA
  obtain ⟨rfl, rfl, rfl⟩ := trodAll_nil r0
  obtain rfl : args = #[v0] := by cases args; simp_all
  obtain ⟨rfl, rfl⟩ := trodVars_none hV
  obtain ⟨c0, c1, c2, c3, c4, c5, y0, y1, y2, y3, y4, y5, fu, rfl, rfl, rfl, t0, t1, t2, t3, t4, t5⟩ := open_six Tryd.underlying24 (by kernel_rfl) cells24 (hval 0 24 v0 rfl rfl) h0
  obtain ⟨a0, e0, rfl, w0⟩ := DataW.trod_string Tryd.underlying9 t0
  obtain ⟨a1, e1, rfl, w1⟩ := DataW.trod_string Tryd.underlying9 t1
  obtain ⟨a2, e2, rfl, w2⟩ := DataW.trod_int Tryd.underlying22 t2
  obtain ⟨a3, e3, rfl, w3⟩ := DataW.trod_int Tryd.underlying22 t3
  obtain ⟨a4, e4, rfl, w4⟩ := DataW.trod_int Tryd.underlying3 t4
  obtain ⟨a5, e5, rfl, w5⟩ := DataW.trod_int Tryd.underlying3 t5
  simp only [List.cons.injEq, and_true] at e0 e1 e2 e3 e4 e5
  subst e0 e1 e2 e3 e4 e5
  have b0 : a0.size ≤ reachBytes := by
    have := List.all_eq_true.1 hz _ (DataW.weights_mem_each (j := 0) (t := 24) rfl rfl a0.data.toList.length (by simp [DataW.weights, Tryd.underlying24, DataW.weightsEach]))
    simpa using this
  have b1 : a1.size ≤ reachBytes := by
    have := List.all_eq_true.1 hz _ (DataW.weights_mem_each (j := 0) (t := 24) rfl rfl a1.data.toList.length (by simp [DataW.weights, Tryd.underlying24, DataW.weightsEach]))
    simpa using this
  have hr := reachBytes_lt
  obtain ⟨n, rfl, hn⟩ := u32_rng w2
  obtain ⟨m, rfl, hm⟩ := u32_rng w3
  clear hA0 hz
  simp only [List.append_nil] at hW'
  refine (by_law a0 a1 n m a4 a5 W (by omega) (by omega) hn hm).mono ?_
  rintro e W' ⟨rfl, hnx⟩
  exact ⟨_, rfl, _, _, _, [], _, [], hW', trodAll_cons_mk (shut_bool Tryd.underlying4 _) trodAll_mk0,
    trodAll_cons_mk (shut_six Tryd.underlying24 (by kernel_rfl) cells24 (Joins.field_of_Trod (shut_string Tryd.underlying9 w0) rfl) (Joins.field_of_Trod (shut_string Tryd.underlying9 w1) rfl) (Joins.field_of_Trod (shut_int Tryd.underlying22 w2) rfl) (Joins.field_of_Trod (shut_int Tryd.underlying22 w3) rfl) (Joins.field_of_Trod (shut_int Tryd.underlying3 w4) rfl) (Joins.field_of_Trod (shut_int Tryd.underlying3 w5) rfl)) trodAll_mk0, rfl, hnx.frame _, fun h => by cases h⟩

/-- A block laid anew with small numbers. -/
def layCells (l : List Nat) : Obj → Obj
  | .cells _ t frozen => .cells (l.map fun (n : Nat) => Value.int .u8 n).toArray t frozen
  | o => o
def zero : Value := .agg #[.string ByteArray.empty, .string ByteArray.empty, .int .u32 0, .int .u32 0, .int .i64 0, .int .i64 0]

set_option maxRecDepth 100000 in
/-- A world for the witness: the settled one, the two tables holding what their initialisers lay. -/
theorem laid_world (os : Os) : ∃ w0 : World, w0.os = os ∧
    (w0.forCall (fun _ _ => 0) ⟨#[], #[zero], []⟩).variablesB Tryd.prog = true ∧
    ((w0.forCall (fun _ _ => 0) ⟨#[], #[zero], []⟩).heap.toList.drop Tryd.prog.globals.size).take ((begin Tryd.prog (fun _ _ => 0) default).world.heap.size - Tryd.prog.globals.size) =
      (begin Tryd.prog (fun _ _ => 0) default).world.heap.toList.drop Tryd.prog.globals.size ∧
    Input.okWideB Tryd.prog (w0.forCall (fun _ _ => 0) ⟨#[], #[zero], []⟩) 3 ⟨#[], #[zero], []⟩ = true ∧
    laidMet Tryd.prog Rows.goodsByNumberRow.laid (w0.forCall (fun _ _ => 0) ⟨#[], #[zero], []⟩).memory ∧
    (∀ (H : Type) (enc : TypeId × Value → H), DataW.whole enc Tryd.prog (w0.forCall (fun _ _ => 0) ⟨#[], #[zero], []⟩).memory Tryd.f3.params.toList Rows.goodsByNumberSpec.vars false #[zero].toList 8 = some ([.agg [.lit (.string []), .lit (.string []), .lit (.int .u32 0), .lit (.int .u32 0), .lit (.int .i64 0), .lit (.int .i64 0)]], [], [])) := by
  refine ⟨{ World.holding Tryd.prog os ⟨#[], #[], []⟩ with heap := ((World.holding Tryd.prog os ⟨#[], #[], []⟩).heap.modify 4 (layCells Pinned.utf8FirstZ)).modify 5 (layCells ([128, 191, 160, 191, 128, 159, 144, 191, 128, 143] ++ List.replicate 22 0)) }, rfl, by kernel_rfl, by kernel_rfl, by kernel_rfl, laidMet_of_run' 8 (by kernel_rfl) (by kernel_rfl), fun H enc => by kernel_rfl⟩

set_option maxRecDepth 100000 in
theorem by_lifted (os : Os) (started : os.Started) (H : Type) (enc : TypeId × Value → H) (F : Stop.Interp) :
    ReturnsInHanded {} Tryd.checked os 3 .any ((OpenSpec.ofChange Rows.goodsByNumberSpec).preRow enc Tryd.prog Tryd.f3 Rows.goodsByNumberRow.domain false Rows.goodsByNumberRow.laid) (((OpenSpec.ofChange Rows.goodsByNumberSpec).at F).post enc Tryd.prog Tryd.f3 false true false false) := by
  obtain ⟨w0, hos, hv, hr, hok, hlm, hx⟩ := laid_world os
  refine returnsInHanded_of_row (C := Tryd.checked) (s := OpenSpec.ofChange Rows.goodsByNumberSpec) own started (by kernel_rfl) Tryd.func3
    (witness_row_at (enc := enc) (C := Tryd.checked) false w0 #[zero] hos hv hr hok
      (OpenSpec.preRow_of_cond 8 (hx H enc) (by kernel_rfl) (fun k hk => by cases hk) (by kernel_rfl) hlm)) ?_
  intro W base args ds gs before hval hW _ _ hz _ _ _
  exact by_contract H enc W base args ds gs before hval hW hz

theorem by_said : Rows.GoodsByNumberSaid :=
  OpenClaim.holds_of_cond 3 Tryd.f3 rfl rfl rfl rfl rfl rfl rfl ⟨rfl, rfl, rfl, rfl, rfl⟩ rfl rfl rfl rfl rfl (by kernel_rfl) Tryd.func3 (by kernel_rfl)
    (of_decide_eq_true (by kernel_rfl)) (by unfold Func.isWrapper; first | (rw [if_pos (by decide +kernel)]; kernel_rfl) | (rw [if_neg (by decide +kernel)]; exact ⟨rfl, rfl⟩))
    (fun os started H enc _ F => by rw [OpenClaim.pre_eq_preRow]; exact by_lifted os started H enc F)

theorem by_plain (f : FuncId) (fn : Func) (hf : Tryd.pinned.checked.prog.funcNamed "barrow/barrowlaw02.GoodsByNumber" = some f) (hfn : Tryd.pinned.checked.prog.funcs[f]? = some fn) :
    true = Tryd.pinned.checked.prog.looks [] ∧ ∀ (j : Nat) t, fn.params[j]? = some t → Tryd.pinned.checked.prog.wantsStandIn t = false := by
  obtain rfl : f = 3 := Option.some.inj ((show Tryd.prog.funcNamed "barrow/barrowlaw02.GoodsByNumber" = some 3 by kernel_rfl).symm.trans hf) |>.symm
  obtain rfl : fn = Tryd.f3 := (Option.some.inj (Tryd.func3.symm.trans hfn)).symm
  refine ⟨by kernel_rfl, fun j t ht => ?_⟩
  rw [Tryd.params3] at ht
  obtain rfl : t = 24 := by simpa using Array.mem_of_getElem? ht
  exact (show Tryd.prog.wantsStandIn 24 = false by kernel_rfl)
end Go.Proofs.YtiopdoeoonepmafDoor.N
namespace Go.Proofs.YtiopdoeoonepmafDoor
/-- The card. -/
theorem goodsByNumber_holds : Rows.GoodsByNumberCardSaid :=
  Claim7.holds_tied_plain_at .later [] _ _ _ _ N.by_said (fun _ h => by cases h) (by kernel_rfl) (fun _ h => by cases h) goodsByNumber_row_tie rfl ⟨rfl, rfl⟩ (by kernel_rfl) rfl N.by_plain (by kernel_rfl)
#print axioms goodsByNumber_holds
end Go.Proofs.YtiopdoeoonepmafDoor
