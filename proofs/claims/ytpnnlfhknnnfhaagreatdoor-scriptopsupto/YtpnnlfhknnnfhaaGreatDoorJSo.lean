/- shapeOf. -/
import Derived.Test.YtpnnlfhknnnfhaaGreatDoorJSs
import Derived.Test.YtpnnlfhknnnfhaaGreatDoorJTx
import Derived.Lib.SmallJoins
import Derived.OpenShut
namespace Go.Proofs.YtpnnlfhknnnfhaaGreatDoor
open Go.RowKit T Y
variable {w w' w2 : World} {g : Nat}
attribute [local go_sem ↓] ldSh_eq stSh_eq

/-- the table as the variable holds it -/
def tabL : List (List UInt8) := (shp.map fun p => [p.1, p.2]).flatten
theorem tabL_at : ∀ i, i < 17 → tabL.getD (2 * i) [] = (shp.getD i ([], [])).1 ∧ tabL.getD (2 * i + 1) [] = (shp.getD i ([], [])).2 := by decide
theorem tabL_len : tabL.length = 34 := by decide
def shapesN : String := "barrow/script.shapes"
structure Sht (w : World) : Prop where
  is : w.var? Tryz.prog shapesN = some (tabL.map fun l => Value.string (bs l)).toArray
theorem gSht : Tryz.prog.globalNamed shapesN = some 0 := by kernel_rfl
theorem Sht.on (h : Sht w) (hb : Below w.heap.size w w') : Sht w' := ⟨Joins.var_stays gSht h.is hb (Nat.le_refl _)⟩
theorem Sht.cell (h : Sht w) (i : Nat) (hi : i < 34) : w.cell? ⟨0, i, none⟩ = some (.string (bs (tabL.getD i []))) := by
  have := World.var?_cell gSht h.is i
  rw [this]
  have hl : i < tabL.length := by rw [tabL_len]; exact hi
  simp [List.getD, hl]
theorem Sht.at (h : Sht w) (i : Nat) (hi : i < 17) : ShAt w ⟨0, i * 2, none⟩ ⟨bs (shp.getD i ([], [])).1, bs (shp.getD i ([], [])).2⟩ := by
  have e := tabL_at i hi
  refine ⟨?_, ?_⟩
  · rw [h.cell (i * 2) (by omega), Nat.mul_comm i 2, e.1]
  · rw [Addr.add_lit, h.cell (i * 2 + 1) (by omega), Nat.mul_comm i 2, e.2]
set_option maxRecDepth 100000 in
set_option maxHeartbeats 1600000 in
theorem shapeOf_any (k : Int) (w : World) (h : Sht w) : Calls Tryz.prog 13 #[.int .i64 k] w fun e w' => e = .returned (.agg #[.string (bs (wrdL k)), .string (bs (fdsL k))]) ∧ Below w.heap.size w w' := by
  obtain ⟨w1, hst, hbx, hbl, -⟩ := madeSh w ⟨bs (wrdL k), bs (fdsL k)⟩ w.heap.size rfl
  have hst' : (stSh (.pointer (some ⟨w.heap.size, 0, none⟩)) (.agg #[.string (bs (wrdL k)), .string (bs (fdsL k))])).run Tryz.prog (w.alloc (.cells #[.string ⟨#[]⟩, .string ⟨#[]⟩] 36)) = .ok () w1 := hst
  have ha := (h.on (below_new w (.cells #[.string ⟨#[]⟩, .string ⟨#[]⟩] 36))).at (kdN k) (kdN_lt k)
  have hld : (ldSh (.pointer (some ⟨0, kdN k * 2, none⟩))).run Tryz.prog (w.alloc (.cells #[.string ⟨#[]⟩, .string ⟨#[]⟩] 36)) = .ok (.agg #[.string (bs (wrdL k)), .string (bs (fdsL k))]) (w.alloc (.cells #[.string ⟨#[]⟩, .string ⟨#[]⟩] 36)) := run_laSh ha
  have HX := hide hbx
  have HB := hide hbl
  clear hst ha hbx hbl h
  by_cases hin : 0 ≤ k ∧ k < 17
  · obtain ⟨n, rfl⟩ : ∃ n : Nat, k = (n : Int) := ⟨k.toNat, by omega⟩
    have hk : kdN (n : Int) = n := by unfold kdN; split <;> omega
    rw [hk] at hld
    go_enter Tryz.func13, Tryz.ntmps13
    go_wp2_with fail
    exact bodyPost_ret (v := .agg (ShC ⟨bs (wrdL (n : Int)), bs (fdsL (n : Int))⟩)) (res1Sh Tryz.results13 rfl HX.out) rfl ⟨rfl, HB.out⟩
  · have hk : kdN k = 0 := by unfold kdN; split <;> omega
    rw [hk] at hld
    by_cases hneg : k < 0
    · go_enter Tryz.func13, Tryz.ntmps13
      go_wp2_with fail
      exact bodyPost_ret (v := .agg (ShC ⟨bs (wrdL k), bs (fdsL k)⟩)) (res1Sh Tryz.results13 rfl HX.out) rfl ⟨rfl, HB.out⟩
    · have hge : 17 ≤ k := by omega
      go_enter Tryz.func13, Tryz.ntmps13
      go_wp2_with fail
      exact bodyPost_ret (v := .agg (ShC ⟨bs (wrdL k), bs (fdsL k)⟩)) (res1Sh Tryz.results13 rfl HX.out) rfl ⟨rfl, HB.out⟩
end Go.Proofs.YtpnnlfhknnnfhaaGreatDoor
