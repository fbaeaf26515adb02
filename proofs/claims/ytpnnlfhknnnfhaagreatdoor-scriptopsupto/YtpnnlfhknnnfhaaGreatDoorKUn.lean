/- What the listed variables hold; what the witness lays. -/
import Derived.Test.YtpnnlfhknnnfhaaGreatDoorKVz
import Derived.Test.YtpnnlfhknnnfhaaGreatDoorKAw
import Derived.Test.YtpnnlfhknnnfhaaGreatDoorCards
import Derived.Test.YtpnnlfhknnnfhaaGreatDoorTie
import Derived.ProofKit
import Derived.OpenShut
import Derived.ShutString
import Derived.Deep.DeepHandedRow
import Derived.Deep.DeepWitnessRowRef
import Derived.Lib.LaidTab
import Derived.Stop.LaidErr
namespace Go.Proofs.YtpnnlfhknnnfhaaGreatDoor
open T Y
open Go.ChangeShapes Go.WideShapes Go.ChangeAt Go.RowKit Go.Joins

theorem own : ownKnob Tryz.prog.godebug = none := by kernel_rfl
theorem gTabType : (Tryz.prog.globals[6]?).map (·.type) = some 118 := by kernel_rfl
theorem cellsTab : Tryz.prog.cellsOf 118 = 20 := by kernel_rfl
theorem cellsU64 : Tryz.prog.cellsOf 107 = 1 := by kernel_rfl
/-- the listed variables -/
def laidL : List (String × DataW Unit) := [("math/bits.deBruijn32tab", Rows.laid_math_bits_deBruijn32tab), ("math/bits.deBruijn64tab", Rows.laid_math_bits_deBruijn64tab), ("internal/strconv.uint64pow10", Rows.laid_internal_strconv_uint64pow10), ("unicode/utf8.acceptRanges", Rows.laid_unicode_utf8_acceptRanges), ("strconv.ErrRange", Rows.laid_strconv_ErrRange), ("strconv.ErrSyntax", Rows.laid_strconv_ErrSyntax), ("barrow/script.shapes", Rows.laid_barrow_script_shapes), ("unicode/utf8.first", Rows.laid_unicode_utf8_first)]
theorem table {W : World} (h : laidMet Tryz.prog laidL W) : Tab W :=
  ⟨Lib.tabIs_of_head (rest := [("unicode/utf8.acceptRanges", Rows.laid_unicode_utf8_acceptRanges), ("strconv.ErrRange", Rows.laid_strconv_ErrRange), ("strconv.ErrSyntax", Rows.laid_strconv_ErrSyntax), ("barrow/script.shapes", Rows.laid_barrow_script_shapes), ("unicode/utf8.first", Rows.laid_unicode_utf8_first)]) gTab gTabType Tryz.underlying118 Tryz.underlying107 cellsU64 cellsTab h.tail.tail⟩
theorem cellsSh : Tryz.prog.cellsOf 36 = 2 := by kernel_rfl
theorem sht_cells {H : Type} {enc : TypeId × Value → H} {w : World} {base : Nat} {sp : Nat → Bool} {held : Bool} {fuel : Nat} {cs : List Value} {p : List MemPlace}
    (h : DataW.trod enc Tryz.prog w base sp held fuel 44 cs = some (.agg (shp.map fun q => .agg [.lit (.string q.1), .lit (.string q.2)]), p)) : cs = tabL.map fun z => Value.string (bs z) := by
  obtain ⟨xs, m, _, hx, hcl, hxl, hf⟩ := DataW.trod_array Tryz.underlying44 h
  simp only [Prod.mk.injEq, DataW.agg.injEq] at hx
  have hcl' : cs.length = 34 := hcl.trans (by kernel_rfl)
  have key : ∀ i, i < 17 → cs[2 * i]? = some (.string (bs (shp.getD i ([], [])).1)) ∧ cs[2 * i + 1]? = some (.string (bs (shp.getD i ([], [])).2)) := by
    intro i hi
    have h1 := hf i hi
    rw [cellsSh, List.getElem?_eq_getElem (by omega)] at h1
    generalize hv : (cs.drop (i * 2)).take 2 = c2 at h1
    obtain ⟨ys, m2, _, hx2, hcl2, hxl2, hf2⟩ := DataW.trod_struct Tryz.underlying36 h1
    obtain ⟨v0, v1, rfl⟩ := list2 (hcl2.trans cellsSh)
    obtain ⟨y0, y1, rfl⟩ := list2 hxl2
    have t0 := hf2 0 _ rfl
    have t1 := hf2 1 _ rfl
    simp [cellsS] at t0 t1
    obtain ⟨a, e0, z0, _⟩ := DataW.trod_string Tryz.underlying9 t0
    obtain ⟨b, e1, z1, _⟩ := DataW.trod_string Tryz.underlying9 t1
    simp only [List.cons.injEq, and_true] at e0 e1
    subst e0 e1
    have g0 : cs[2 * i]? = some (.string a) := by
      have := congrArg (·[0]?) hv
      simpa [List.getElem?_take, List.getElem?_drop, Nat.mul_comm] using this
    have g1 : cs[2 * i + 1]? = some (.string b) := by
      have := congrArg (·[1]?) hv
      simpa [List.getElem?_take, List.getElem?_drop, Nat.mul_comm] using this
    have h3 := congrArg (·[i]?) hx.1
    simp only [List.getElem?_map, List.getElem?_eq_getElem (show i < xs.length by omega), hx2, Option.map_some, z0, z1, List.map_cons, List.map_nil] at h3
    obtain ⟨z, hz, hzz⟩ := Option.map_eq_some_iff.1 h3
    simp only [DataW.agg.injEq, List.cons.injEq, DataW.lit.injEq, Lit.string.injEq, and_true] at hzz
    have hd : shp.getD i ([], []) = z := by simp [List.getD, hz]
    rw [hd, hzz.1, hzz.2, bs_of, bs_of]
    exact ⟨g0, g1⟩
  apply List.ext_getElem?
  intro j
  by_cases hj : j < 34
  · have hk := key (j / 2) (by omega)
    have ht := tabL_at (j / 2) (by omega)
    have hl : j < tabL.length := by rw [tabL_len]; exact hj
    have hg : tabL[j]? = some (tabL.getD j []) := by simp [List.getD, hl]
    rw [List.getElem?_map, hg, Option.map_some]
    rcases Nat.mod_two_eq_zero_or_one j with e | e
    · have ej : 2 * (j / 2) = j := by omega
      rw [ej] at hk ht
      rw [ht.1]
      exact hk.1
    · have ej : 2 * (j / 2) + 1 = j := by omega
      rw [ej] at hk ht
      rw [ht.2]
      exact hk.2
  · rw [List.getElem?_eq_none (by omega), List.getElem?_eq_none (by rw [List.length_map, tabL_len]; omega)]
theorem shapes_laid : (Rows.laid_barrow_script_shapes : DataW Unit) = .agg (shp.map fun q => .agg [.lit (.string q.1), .lit (.string q.2)]) := by rfl
theorem shtable {W : World} (h : laidMet Tryz.prog laidL W) : Sht W := by
  have h3 : laidMet Tryz.prog [(shapesN, Rows.laid_barrow_script_shapes), ("unicode/utf8.first", Rows.laid_unicode_utf8_first)] W := h.tail.tail.tail.tail.tail.tail
  rw [shapes_laid] at h3
  obtain ⟨ps, ⟨g', t', cs, fuel, p, q, hg', ht', hvar, hd, _, _⟩, _⟩ := h3
  obtain rfl := Option.some.inj (gSht.symm.trans hg')
  obtain rfl := Option.some.inj ((show (Tryz.prog.globals[0]?).map (·.type) = some 44 by kernel_rfl).symm.trans ht')
  refine ⟨?_⟩
  rw [hvar, ← sht_cells hd]
theorem gSy : Tryz.prog.globalNamed "strconv.ErrSyntax" = some 4 := by kernel_rfl
theorem gRg : Tryz.prog.globalNamed "strconv.ErrRange" = some 5 := by kernel_rfl
theorem gSyT : (Tryz.prog.globals[4]?).map (·.type) = some 61 := by kernel_rfl
theorem gRgT : (Tryz.prog.globals[5]?).map (·.type) = some 61 := by kernel_rfl
theorem starEs : "*" ++ "errors.errorString" = "*errors.errorString" := by decide
theorem rowEs (u : TypeId) (h : Tryz.prog.typeName? 3 u = some "*errors.errorString") : u = 124 :=
  typeName_ptr_named (nm := "errors.errorString") (by rw [starEs]; kernel_rfl) (by kernel_rfl) (by decide) u (by rw [starEs]; exact h)
theorem cellsEs : Tryz.prog.cellsOf 126 = 1 := by kernel_rfl
theorem evs_laid {W : World} (h : laidMet Tryz.prog laidL W) : Evs W := by
  have h5 : laidMet Tryz.prog (("strconv.ErrRange", Rows.laid_strconv_ErrRange) :: [("strconv.ErrSyntax", Rows.laid_strconv_ErrSyntax), ("barrow/script.shapes", Rows.laid_barrow_script_shapes), ("unicode/utf8.first", Rows.laid_unicode_utf8_first)]) W := h.tail.tail.tail.tail
  obtain ⟨a1, s1, hv1, -, -, -⟩ := laid_sentinel h5 gRg gRgT Tryz.underlying61 rowEs Tryz.underlying124 Tryz.underlying126 rfl rfl Tryz.underlying9 cellsEs cellsS
  obtain ⟨a2, s2, hv2, -, -, -⟩ := laid_sentinel h5.tail gSy gSyT Tryz.underlying61 rowEs Tryz.underlying124 Tryz.underlying126 rfl rfl Tryz.underlying9 cellsEs cellsS
  exact ⟨⟨_, World.var?_cell gSy hv2 0, Or.inr ⟨_, _, rfl⟩⟩, ⟨_, World.var?_cell gRg hv1 0, Or.inr ⟨_, _, rfl⟩⟩⟩
theorem un_laid {W : World} (h : laidMet Tryz.prog laidL W) : Un W := ⟨table h, shtable h, evs_laid h⟩
/-- A block laid anew. -/
def layCells (l : Array Value) : Obj → Obj
  | .cells _ t frozen => .cells l t frozen
  | o => o
def nums (k : IntKind) (l : List Nat) : Array Value := (l.map fun (n : Nat) => Value.int k n).toArray
def t32 : List Nat := [0, 1, 28, 2, 29, 14, 24, 3, 30, 22, 20, 15, 25, 17, 4, 8, 31, 27, 13, 23, 21, 19, 16, 7, 26, 12, 18, 6, 11, 5, 10, 9]
def t64 : List Nat := [0, 1, 56, 2, 57, 49, 28, 3, 61, 58, 42, 50, 38, 29, 17, 4, 62, 47, 59, 36, 45, 43, 51, 22, 53, 39, 33, 30, 24, 18, 12, 5, 63, 55, 48, 27, 60, 41, 37, 16, 46, 35, 44, 21, 52, 32, 23, 11, 54, 26, 40, 15, 34, 20, 31, 10, 25, 14, 19, 9, 13, 8, 7, 6]
def p10 : List Nat := (List.range 20).map fun i => 10 ^ i
def wdsV : Array Value := (tabL.map fun l => Value.string (bs l)).toArray

def acc : List Nat := [128, 191, 160, 191, 128, 159, 144, 191, 128, 143] ++ List.replicate 22 0
def outOfRange : ByteArray := ⟨#[118, 97, 108, 117, 101, 32, 111, 117, 116, 32, 111, 102, 32, 114, 97, 110, 103, 101]⟩
def invalidNum : ByteArray := ⟨#[105, 110, 118, 97, 108, 105, 100, 32, 115, 121, 110, 116, 97, 120]⟩
end Go.Proofs.YtpnnlfhknnnfhaaGreatDoor
