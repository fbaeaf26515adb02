/- The words of the statuses as the package's variable holds them; the table of powers. -/
import Derived.Test.YtheiblagjeekjaaDoorSwB
import Derived.Test.YtheiblagjeekjaaDoorShf
import Derived.Lib.SmallJoins
import Derived.Lib.LaidTab
import Derived.OpenShut
import Derived.Stop.LaidErr
namespace Go.Proofs.YtheiblagjeekjaaDoor
open Go.RowKit Go.ChangeShapes

def wds : List (List UInt8) := [[111, 107], [102, 111, 114, 109], [110, 117, 109, 98, 101, 114], [114, 101, 112, 108, 105, 99, 97], [99, 97, 114, 116], [115, 107, 117], [113, 117, 97, 110, 116, 105, 116, 121], [107, 105, 110, 100], [109, 97, 108, 102, 111, 114, 109, 101, 100], [101, 120, 104, 97, 117, 115, 116, 101, 100], [99, 108, 97, 115, 104], [97, 98, 115, 101, 110, 116], [102, 117, 108, 108], [111, 118, 101, 114, 102, 108, 111, 119], [116, 111, 107, 101, 110], [109, 101, 115, 115, 97, 103, 101], [115, 101, 108, 102], [116, 101, 120, 116], [], [], [101, 109, 112, 116, 121], [108, 111, 110, 103], [98, 121, 116, 101], [100, 105, 103, 105, 116]] ++ List.replicate 26 [] ++ [[115, 104, 111, 114, 116], [119, 105, 100, 101], [114, 101, 115, 116]]
/-- the word at a place -/
def wd (i : Nat) : List UInt8 := wds.getD i []
theorem wds_len : wds.length = 53 := by decide
def wordsN : String := "barrow/shop.words"
structure Wt (w : World) : Prop where
  is : w.var? Tryd.prog wordsN = some (wds.map fun l => Value.string (bs l)).toArray
structure Tab (w : World) : Prop where
  is : Lib.TabIs Tryd.prog w "internal/strconv.uint64pow10" .u64 Lib.pow10Tab
theorem gTab : Tryd.prog.globalNamed "internal/strconv.uint64pow10" = some 1 := by kernel_rfl
theorem gWt : Tryd.prog.globalNamed wordsN = some 0 := by kernel_rfl
theorem Tab.on {w w' : World} (h : Tab w) (hb : Below w.heap.size w w') : Tab w' := ⟨Joins.tab_stays gTab h.is hb (Nat.le_refl _)⟩
theorem Wt.on {w w' : World} (h : Wt w) (hb : Below w.heap.size w w') : Wt w' := ⟨Joins.var_stays gWt h.is hb (Nat.le_refl _)⟩
theorem Wt.at {w : World} (h : Wt w) (i : Nat) (hi : i < 53) : w.cell? ⟨0, i, none⟩ = some (.string (bs (wd i))) := by
  have := World.var?_cell gWt h.is i
  rw [this]
  have hl : i < wds.length := by rw [wds_len]; exact hi
  simp [wd, List.getD, hl]
theorem below_grow (w : World) (k : Nat) (os : Array Obj) : Below w.heap.size w (Sort.grow (w.drewN k) os) :=
  ⟨rfl, rfl, rfl, by show w.heap.size ≤ (w.heap ++ os).size; simp, fun i hi => by
    show ((w.drewN k).heap ++ os)[i]? = _
    rw [Array.getElem?_append_left (by show i < w.heap.size; omega)]
    rfl⟩
theorem itoa_any (n : Int) (h0 : -9223372036854775808 ≤ n) (h1 : n ≤ 9223372036854775807) (w : World) (ht : Tab w) : Calls Tryd.prog 9 #[.int .i64 n] w fun e w' => e = .returned (.string (bs (num n))) ∧ Below w.heap.size w w' :=
  (Tryd.strconv_Itoa n h0 h1 w ht.is).mono fun e w' ⟨he, k, os, hw⟩ => ⟨he, by rw [hw]; exact below_grow w k os⟩
theorem cells_of_strs {H : Type} {enc : TypeId × Value → H} {P : Program} {w : World} {base : Nat} {sp : Nat → Bool} {held : Bool} {fuel : Nat} {t e : TypeId} {n : Nat} {cs : List Value} {zs : List (List UInt8)} {p : List MemPlace}
    (ht : P.underlying t = some (.array n e)) (he : P.underlying e = some .string) (hce : P.cellsOf e = 1) (hct : P.cellsOf t = n)
    (h : DataW.trod enc P w base sp held fuel t cs = some (.agg (zs.map fun z => .lit (.string z)), p)) : cs = zs.map fun z => Value.string (bs z) := by
  obtain ⟨xs, m, _, hx, hcl, hxl, hf⟩ := DataW.trod_array ht h
  simp only [Prod.mk.injEq, DataW.agg.injEq] at hx
  have hzl : zs.length = n := by have := congrArg List.length hx.1; simp at this; omega
  apply List.ext_getElem?
  intro i
  by_cases hi : i < n
  · have h1 := hf i hi
    rw [hce, Nat.mul_one, List.getElem?_eq_getElem (by omega)] at h1
    obtain ⟨s, hc, hxe, _⟩ := DataW.trod_string he h1
    have h2 : cs[i]? = some (.string s) := by
      have := congrArg (·[0]?) hc
      simpa [List.getElem?_take, List.getElem?_drop] using this
    have h3 := congrArg (·[i]?) hx.1
    simp only [List.getElem?_map, List.getElem?_eq_getElem (show i < xs.length by omega), hxe, Option.map_some] at h3
    obtain ⟨z, hz, hzz⟩ := Option.map_eq_some_iff.1 h3
    simp only [DataW.lit.injEq, Lit.string.injEq] at hzz
    rw [h2, List.getElem?_map, hz, Option.map_some, hzz, bs_of]
  · rw [List.getElem?_eq_none (by omega), List.getElem?_eq_none (by simp; omega)]
theorem wt_of_head {W : World} {rest : List (String × DataW Unit)} (h : laidMet Tryd.prog ((wordsN, .agg (wds.map fun z => .lit (.string z))) :: rest) W) : Wt W := by
  obtain ⟨ps, ⟨g', t', cs, fuel, p, q, hg', ht', hvar, hd, _, _⟩, _⟩ := h
  obtain rfl := Option.some.inj (gWt.symm.trans hg')
  obtain rfl := Option.some.inj ((show (Tryd.prog.globals[0]?).map (·.type) = some 33 by kernel_rfl).symm.trans ht')
  refine ⟨?_⟩
  rw [hvar, ← cells_of_strs Tryd.underlying33 Tryd.underlying9 (by kernel_rfl) (by kernel_rfl) hd]
end Go.Proofs.YtheiblagjeekjaaDoor
