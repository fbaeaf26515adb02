/- ScriptPrints: the row where what comes in is small, and its card. -/
import Derived.Test.YtchaeokeokpejaaDoorJVw
import Derived.Test.YtchaeokeokpejaaDoorCards
import Derived.Test.YtchaeokeokpejaaDoorTie
import Derived.ProofKit
import Derived.OpenShut
import Derived.ShutString
import Derived.Deep.DeepHandedRow
import Derived.Lib.LaidTab
import Derived.Stop.LaidErr
namespace Go.Proofs.YtchaeokeokpejaaDoor
open T Y
open Go.ChangeShapes Go.WideShapes Go.ChangeAt Go.RowKit Go.Joins

theorem own : ownKnob Tryd.prog.godebug = none := by kernel_rfl
theorem gTabType : (Tryd.prog.globals[2]?).map (·.type) = some 82 := by kernel_rfl
theorem cellsTab : Tryd.prog.cellsOf 82 = 20 := by kernel_rfl
theorem cellsU64 : Tryd.prog.cellsOf 75 = 1 := by kernel_rfl
theorem table {W : World} (h : laidMet Tryd.prog Rows.scriptPrintsUptoRow.laid W) : Tab W :=
  ⟨Lib.tabIs_of_head (rest := [("barrow/script.shapes", Rows.laid_barrow_script_shapes)]) gTab gTabType Tryd.underlying82 Tryd.underlying75 cellsU64 cellsTab h.tail.tail⟩
theorem cellsSh : Tryd.prog.cellsOf 41 = 2 := by kernel_rfl
theorem sht_cells {H : Type} {enc : TypeId × Value → H} {w : World} {base : Nat} {sp : Nat → Bool} {held : Bool} {fuel : Nat} {cs : List Value} {p : List MemPlace}
    (h : DataW.trod enc Tryd.prog w base sp held fuel 55 cs = some (.agg (shp.map fun q => .agg [.lit (.string q.1), .lit (.string q.2)]), p)) : cs = tabL.map fun z => Value.string (bs z) := by
  obtain ⟨xs, m, _, hx, hcl, hxl, hf⟩ := DataW.trod_array Tryd.underlying55 h
  simp only [Prod.mk.injEq, DataW.agg.injEq] at hx
  have hcl' : cs.length = 34 := hcl.trans (by kernel_rfl)
  have key : ∀ i, i < 17 → cs[2 * i]? = some (.string (bs (shp.getD i ([], [])).1)) ∧ cs[2 * i + 1]? = some (.string (bs (shp.getD i ([], [])).2)) := by
    intro i hi
    have h1 := hf i hi
    rw [cellsSh, List.getElem?_eq_getElem (by omega)] at h1
    generalize hv : (cs.drop (i * 2)).take 2 = c2 at h1
    obtain ⟨ys, m2, _, hx2, hcl2, hxl2, hf2⟩ := DataW.trod_struct Tryd.underlying41 h1
    obtain ⟨v0, v1, rfl⟩ := list2 (hcl2.trans cellsSh)
    obtain ⟨y0, y1, rfl⟩ := list2 hxl2
    have t0 := hf2 0 _ rfl
    have t1 := hf2 1 _ rfl
    simp [cellsS] at t0 t1
    obtain ⟨a, e0, z0, _⟩ := DataW.trod_string Tryd.underlying9 t0
    obtain ⟨b, e1, z1, _⟩ := DataW.trod_string Tryd.underlying9 t1
    simp only [List.cons.injEq, and_true] at e0 e1
    subst e0 e1
    have g0 : cs[2 * i]? = some (.string a) := by
      have := congrArg (·[0]?) hv
      simpa [List.getElem?_take, List.getElem?_drop, Nat.mul_comm] using this
    have g1 : cs[2 * i + 1]? = some (.string b) := by
      have := congrArg (·[1]?) hv
      simpa [List.getElem?_take, List.getElem?_drop, Nat.mul_comm] using this
    have h3 := congrArg (·[i]?) hx.1
    simp only [List.getElem?_map, List.getElem?_eq_getElem (show i < xs.length by omega), hx2, Option.map_some, z0, z1, List.map_cons, List.map_nil] at h3
    obtain ⟨z, hz, hzz⟩ := Option.map_eq_some_iff.1 h3
    simp only [DataW.agg.injEq, List.cons.injEq, DataW.lit.injEq, Lit.string.injEq, and_true] at hzz
    have hd : shp.getD i ([], []) = z := by simp [List.getD, hz]
    rw [hd, hzz.1, hzz.2, bs_of, bs_of]
    exact ⟨g0, g1⟩
  apply List.ext_getElem?
  intro j
  by_cases hj : j < 34
  · have hk := key (j / 2) (by omega)
    have ht := tabL_at (j / 2) (by omega)
    have hl : j < tabL.length := by rw [tabL_len]; exact hj
    have hg : tabL[j]? = some (tabL.getD j []) := by simp [List.getD, hl]
    rw [List.getElem?_map, hg, Option.map_some]
    rcases Nat.mod_two_eq_zero_or_one j with e | e
    · have ej : 2 * (j / 2) = j := by omega
      rw [ej] at hk ht
      rw [ht.1]
      exact hk.1
    · have ej : 2 * (j / 2) + 1 = j := by omega
      rw [ej] at hk ht
      rw [ht.2]
      exact hk.2
  · rw [List.getElem?_eq_none (by omega), List.getElem?_eq_none (by rw [List.length_map, tabL_len]; omega)]
theorem shapes_laid : (Rows.laid_barrow_script_shapes : DataW Unit) = .agg (shp.map fun q => .agg [.lit (.string q.1), .lit (.string q.2)]) := by rfl
theorem shtable {W : World} (h : laidMet Tryd.prog Rows.scriptPrintsUptoRow.laid W) : Sht W := by
  have h3 : laidMet Tryd.prog [(shapesN, Rows.laid_barrow_script_shapes)] W := h.tail.tail.tail
  rw [shapes_laid] at h3
  obtain ⟨ps, ⟨g', t', cs, fuel, p, q, hg', ht', hvar, hd, _, _⟩, _⟩ := h3
  obtain rfl := Option.some.inj (gSht.symm.trans hg')
  obtain rfl := Option.some.inj ((show (Tryd.prog.globals[0]?).map (·.type) = some 55 by kernel_rfl).symm.trans ht')
  refine ⟨?_⟩
  rw [hvar, ← sht_cells hd]
set_option maxRecDepth 100000 in
/-- What the walk gives. -/
theorem sw_contract (H : Type) (enc : TypeId × Value → H) (W : World) (base : Nat) (args : Array Value) (ds gs : List (DataW H)) (before : List MemPlace)
    (hval : ∀ (j : Nat) t v, Tryd.f3.params[j]? = some t → args[j]? = some v → Value.okWide Tryd.prog W .any base t v)
    (hW : DataW.Whole enc Tryd.prog Tryd.f3.params.toList Rows.scriptPrintsSpec.vars false W args.toList ds gs before) (hk : Rows.uptoSmall H (ds ++ gs) = true) (hL : laidMet Tryd.prog Rows.scriptPrintsUptoRow.laid W) :
    Calls Tryd.prog 3 args W fun e W' => ∃ v, e = .returned v ∧ Rows.scriptPrintsSpec.post enc Tryd.prog Tryd.f3 false true false false W args v W' := by
  have hW' := hW
  obtain ⟨p, q, hA0, hV, rfl, hfz, hnd⟩ := hW
  have hA : DataW.TrodAll enc Tryd.prog W 0 (fun _ => true) true Tryd.f3.params.toList args.toList ds p := hA0
  rw [Tryd.params3] at hA hval
  obtain ⟨v0, vs0, d0, ds0, p0, q0, hargs, rfl, rfl, h0, r0⟩ := trodAll_cons hA
  obtain ⟨rfl, rfl, rfl⟩ := trodAll_nil r0
  obtain rfl : args = #[v0] := by cases args; simp_all
  obtain ⟨rfl, rfl⟩ := trodVars_none hV
  obtain ⟨cs, rfl, hsz⟩ := okWide_struct Tryd.underlying26 (hval 0 26 v0 rfl rfl)
  have h1k := h0
  obtain ⟨fa, hfa⟩ := h0
  have hcells : (Value.agg cs).cells = cs := by simp [Value.cells]
  rw [hcells] at hfa
  clear hA0
  simp only [List.append_nil] at hW' hk
  have hbk : Rows.uptoBulkAll [d0] ≤ 1048576 := of_decide_eq_true hk
  simp only [Rows.uptoBulkAll] at hbk
  obtain ⟨a, b, c, d, e, f, so, n, sc, Q, ecs, kR, S, hR, hw⟩ := open_script hfa (by show Rows.uptoBulk d0 ≤ _; omega)
  obtain rfl : cs = #[.int .i64 a, .int .i64 b, .int .i64 c, .int .i64 d, .int .i64 e, .int .i64 f, .slice so n sc] := by rw [← Array.toList_inj]; exact ecs
  have hlt : ∀ x ∈ p0, x.block < W.heap.size := fun x hx => by simpa using hW'.lt x (by simpa using hx)
  refine (prints_any a b c d e f so n sc Q W kR S hR (by omega) (table hL) (shtable hL)).mono ?_
  rintro r W' ⟨rfl, hnx⟩
  exact ⟨_, rfl, _, _, _, [], _, [], hW', trodAll_cons_mk (shut_bool Tryd.underlying4 _) trodAll_mk0,
    trodAll_cons_mk (Below.trod laidOut (by kernel_rfl) (of_decide_eq_true (by kernel_rfl)) h1k hnx hlt) trodAll_mk0, rfl, hnx.frame _, fun h => by cases h⟩

/-- A block laid anew. -/
def layCells (l : Array Value) : Obj → Obj
  | .cells _ t frozen => .cells l t frozen
  | o => o
def nums (k : IntKind) (l : List Nat) : Array Value := (l.map fun (n : Nat) => Value.int k n).toArray
def t32 : List Nat := [0, 1, 28, 2, 29, 14, 24, 3, 30, 22, 20, 15, 25, 17, 4, 8, 31, 27, 13, 23, 21, 19, 16, 7, 26, 12, 18, 6, 11, 5, 10, 9]
def t64 : List Nat := [0, 1, 56, 2, 57, 49, 28, 3, 61, 58, 42, 50, 38, 29, 17, 4, 62, 47, 59, 36, 45, 43, 51, 22, 53, 39, 33, 30, 24, 18, 12, 5, 63, 55, 48, 27, 60, 41, 37, 16, 46, 35, 44, 21, 52, 32, 23, 11, 54, 26, 40, 15, 34, 20, 31, 10, 25, 14, 19, 9, 13, 8, 7, 6]
def p10 : List Nat := (List.range 20).map fun i => 10 ^ i
def wdsV : Array Value := (tabL.map fun l => Value.string (bs l)).toArray

set_option maxRecDepth 100000 in
/-- A world for the witness: the settled one, the four variables holding what their initialisers lay. -/
theorem laid_world (os : Os) : ∃ w0 : World, w0.os = os ∧
    (w0.forCall (fun _ _ => 0) ⟨#[], #[.agg #[.int .i64 0, .int .i64 0, .int .i64 0, .int .i64 0, .int .i64 0, .int .i64 0, .slice none 0 0]], []⟩).variablesB Tryd.prog = true ∧
    ((w0.forCall (fun _ _ => 0) ⟨#[], #[.agg #[.int .i64 0, .int .i64 0, .int .i64 0, .int .i64 0, .int .i64 0, .int .i64 0, .slice none 0 0]], []⟩).heap.toList.drop Tryd.prog.globals.size).take ((begin Tryd.prog (fun _ _ => 0) default).world.heap.size - Tryd.prog.globals.size) =
      (begin Tryd.prog (fun _ _ => 0) default).world.heap.toList.drop Tryd.prog.globals.size ∧
    Input.okWideB Tryd.prog (w0.forCall (fun _ _ => 0) ⟨#[], #[.agg #[.int .i64 0, .int .i64 0, .int .i64 0, .int .i64 0, .int .i64 0, .int .i64 0, .slice none 0 0]], []⟩) 3 ⟨#[], #[.agg #[.int .i64 0, .int .i64 0, .int .i64 0, .int .i64 0, .int .i64 0, .int .i64 0, .slice none 0 0]], []⟩ = true ∧
    laidMet Tryd.prog Rows.scriptPrintsUptoRow.laid (w0.forCall (fun _ _ => 0) ⟨#[], #[.agg #[.int .i64 0, .int .i64 0, .int .i64 0, .int .i64 0, .int .i64 0, .int .i64 0, .slice none 0 0]], []⟩).memory ∧
    (∀ (H : Type) (enc : TypeId × Value → H), DataW.whole enc Tryd.prog (w0.forCall (fun _ _ => 0) ⟨#[], #[.agg #[.int .i64 0, .int .i64 0, .int .i64 0, .int .i64 0, .int .i64 0, .int .i64 0, .slice none 0 0]], []⟩).memory Tryd.f3.params.toList Rows.scriptPrintsSpec.vars false #[Value.agg #[.int .i64 0, .int .i64 0, .int .i64 0, .int .i64 0, .int .i64 0, .int .i64 0, .slice none 0 0]].toList 8 = some ([.agg [.agg [.lit (.int .i64 0), .lit (.int .i64 0), .lit (.int .i64 0), .lit (.int .i64 0), .lit (.int .i64 0), .lit (.int .i64 0)], .nil]], [], [])) := by
  refine ⟨{ World.holding Tryd.prog os ⟨#[], #[], []⟩ with heap := ((((World.holding Tryd.prog os ⟨#[], #[], []⟩).heap.modify 3 (layCells (nums .u8 t32))).modify 4 (layCells (nums .u8 t64))).modify 2 (layCells (nums .u64 p10))).modify 0 (layCells wdsV) }, rfl, by kernel_rfl, by kernel_rfl, by kernel_rfl, laidMet_of_run' 10 (by kernel_rfl) (by kernel_rfl), fun H enc => by kernel_rfl⟩

set_option maxRecDepth 100000 in
theorem sw_lifted (os : Os) (started : os.Started) (H : Type) (enc : TypeId × Value → H) (F : Stop.Interp) :
    ReturnsInHanded {} Tryd.checked os 3 .any ((Rows.OpenSpec.upto Rows.scriptPrintsSpec).preRow enc Tryd.prog Tryd.f3 Rows.scriptPrintsUptoRow.domain false Rows.scriptPrintsUptoRow.laid) (((Rows.OpenSpec.upto Rows.scriptPrintsSpec).at F).post enc Tryd.prog Tryd.f3 false true false false) := by
  obtain ⟨w0, hos, hv, hr, hok, hlm, hx⟩ := laid_world os
  refine returnsInHanded_of_row (C := Tryd.checked) (s := Rows.OpenSpec.upto Rows.scriptPrintsSpec) own started (by kernel_rfl) Tryd.func3
    (witness_row_at (enc := enc) (C := Tryd.checked) false w0 #[.agg #[.int .i64 0, .int .i64 0, .int .i64 0, .int .i64 0, .int .i64 0, .int .i64 0, .slice none 0 0]] hos hv hr hok
      (OpenSpec.preRow_of_cond 8 (hx H enc) (by kernel_rfl) (fun k hk => by cases hk; kernel_rfl) (by kernel_rfl) hlm)) ?_
  intro W base args ds gs before hval hW _ hk _ hL _ _
  exact sw_contract H enc W base args ds gs before hval hW (hk _ rfl) hL

theorem sw_said : Rows.ScriptPrintsUptoSaid :=
  OpenClaim.holds_of_cond 3 Tryd.f3 rfl rfl rfl rfl rfl rfl rfl ⟨rfl, rfl, rfl, rfl, rfl⟩ rfl rfl rfl rfl rfl (by kernel_rfl) Tryd.func3 (by kernel_rfl)
    (of_decide_eq_true (by kernel_rfl)) (by unfold Func.isWrapper; first | (rw [if_pos (by decide +kernel)]; kernel_rfl) | (rw [if_neg (by decide +kernel)]; exact ⟨rfl, rfl⟩))
    (fun os started H enc _ F => by rw [OpenClaim.pre_eq_preRow]; exact sw_lifted os started H enc F)

theorem sw_plain (f : FuncId) (fn : Func) (hf : Tryd.pinned.checked.prog.funcNamed "barrow/barrowlaw24.ScriptPrints" = some f) (hfn : Tryd.pinned.checked.prog.funcs[f]? = some fn) :
    false = Tryd.pinned.checked.prog.looks [] ∧ ∀ (j : Nat) t, fn.params[j]? = some t → Tryd.pinned.checked.prog.wantsStandIn t = false := by
  obtain rfl : f = 3 := Option.some.inj ((show Tryd.prog.funcNamed "barrow/barrowlaw24.ScriptPrints" = some 3 by kernel_rfl).symm.trans hf) |>.symm
  obtain rfl : fn = Tryd.f3 := (Option.some.inj (Tryd.func3.symm.trans hfn)).symm
  refine ⟨by kernel_rfl, fun j t ht => ?_⟩
  rw [Tryd.params3] at ht
  have hm := Array.mem_of_getElem? ht
  simp only [List.mem_toArray, List.mem_cons, List.not_mem_nil, or_false] at hm
  subst hm
  exact (show Tryd.prog.wantsStandIn 26 = false by kernel_rfl)

/-- The card. -/
theorem scriptPrintsUpto_holds : Rows.ScriptPrintsUptoCardSaid :=
  Claim7.holds_tied_plain_at .later [] _ _ _ _ sw_said (fun _ h => by cases h) (by kernel_rfl) (fun _ h => by cases h) scriptPrintsUpto_row_tie rfl ⟨rfl, rfl⟩ (by kernel_rfl) rfl sw_plain (by kernel_rfl)
#print axioms scriptPrintsUpto_holds
end Go.Proofs.YtchaeokeokpejaaDoor
