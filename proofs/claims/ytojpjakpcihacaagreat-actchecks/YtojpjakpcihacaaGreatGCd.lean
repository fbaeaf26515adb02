/- act's Check, plain. -/
import Derived.Test.YtojpjakpcihacaaGreatGBs
import Derived.Deep.MidRow
import Derived.Test.YtojpjakpcihacaaGreatLRSku
import Derived.Test.YtojpjakpcihacaaGreatGIn
import Derived.Test.YtojpjakpcihacaaGreatGRu

namespace Go.Proofs.YtojpjakpcihacaaGreat
open Go.RowKit
variable {w w' : World} {g : Nat}
structure ActV where
  kind : Int
  sku : ByteArray
  qty : Int
  veco : Option Addr
  vecn : Nat
  vecc : Nat
  cloudo : Option Addr
  cloudn : Nat
  cloudc : Nat
def ac0 : ActV := ⟨0, ⟨#[]⟩, 0, none, 0, 0, none, 0, 0⟩
def AcC (m : ActV) : Array Value := #[.int .i64 m.kind, .string m.sku, .int .i64 m.qty, .slice m.veco m.vecn m.vecc, .slice m.cloudo m.cloudn m.cloudc]
abbrev AcV (m : ActV) : Value := .agg (AcC m)
theorem AcC_size (m : ActV) : (AcC m).size = 5 := rfl
theorem AcC_one (m : ActV) : ∀ v ∈ (AcC m).toList, v.oneCell' = true := by
  intro v hv; simp [AcC] at hv; rcases hv with rfl | rfl | rfl | rfl | rfl <;> rfl
theorem cells_AcV (m : ActV) : (AcV m).cells = AcC m := by simp [Value.cells]
structure AcAt (w : World) (a : Addr) (m : ActV) : Prop where
  c0 : w.cell? a = some (.int .i64 m.kind)
  c1 : w.cell? (a.add 1) = some (.string m.sku)
  c2 : w.cell? (a.add 2) = some (.int .i64 m.qty)
  c3 : w.cell? (a.add 3) = some (.slice m.veco m.vecn m.vecc)
  c4 : w.cell? (a.add 4) = some (.slice m.cloudo m.cloudn m.cloudc)
theorem AcAt.on {a : Addr} {m : ActV} (S : AcAt w a m) (hb : Below w.heap.size w w') : AcAt w' a m := by
  have h0 := World.block_lt_of_cell? _ _ S.c0
  exact ⟨by rw [hb.cell h0]; exact S.c0, by rw [hb.cell (by rw [block_of_add]; exact h0)]; exact S.c1, by rw [hb.cell (by rw [block_of_add]; exact h0)]; exact S.c2, by rw [hb.cell (by rw [block_of_add]; exact h0)]; exact S.c3, by rw [hb.cell (by rw [block_of_add]; exact h0)]; exact S.c4⟩
def AcBox (w : World) (g : Nat) (m : ActV) : Prop := w.heap[g]? = some (.cells (AcC m) 27 (0, 0))
theorem AcBox.lt {m : ActV} (h : AcBox w g m) : g < w.heap.size := (Array.getElem?_eq_some_iff.1 h).1
theorem AcBox.below {m : ActV} (h : AcBox w g m) (hb : Below w.heap.size w w') : AcBox w' g m := (hb.block g h.lt).trans h
theorem AcBox.c0 {m : ActV} (h : AcBox w g m) : w.cell? ⟨g, 0, none⟩ = some (.int .i64 m.kind) := by unfold AcBox at h; simp [World.cell?, h, AcC]
theorem AcBox.c1 {m : ActV} (h : AcBox w g m) : w.cell? ⟨g, 1, none⟩ = some (.string m.sku) := by unfold AcBox at h; simp [World.cell?, h, AcC]
theorem AcBox.c2 {m : ActV} (h : AcBox w g m) : w.cell? ⟨g, 2, none⟩ = some (.int .i64 m.qty) := by unfold AcBox at h; simp [World.cell?, h, AcC]
theorem AcBox.c3 {m : ActV} (h : AcBox w g m) : w.cell? ⟨g, 3, none⟩ = some (.slice m.veco m.vecn m.vecc) := by unfold AcBox at h; simp [World.cell?, h, AcC]
theorem AcBox.c4 {m : ActV} (h : AcBox w g m) : w.cell? ⟨g, 4, none⟩ = some (.slice m.cloudo m.cloudn m.cloudc) := by unfold AcBox at h; simp [World.cell?, h, AcC]
theorem AcBox_new (w : World) (m : ActV) : AcBox (w.alloc (.cells (AcC m) 27)) w.heap.size m := by unfold AcBox; rw [heap_alloc_new]
def ldAc (v : Value) : Sem Value := Instr.loadAt 27 v
theorem ldAc_eq (v : Value) : Instr.loadAt 27 v = ldAc v := rfl
def stAc (p v : Value) : Sem Unit := Instr.storeAt 27 p v
theorem stAc_eq (p v : Value) : Instr.storeAt 27 p v = stAc p v := rfl
theorem sizeAc : (Tryz.prog.info? 27).map (·.size) = some 5 := by kernel_rfl
theorem AcBox.range {m : ActV} (h : AcBox w g m) : w.rangeAt g 0 (AcC m).toList := by
  intro j v hv
  rw [Nat.zero_add]
  unfold AcBox at h
  simp only [Array.getElem?_toList] at hv
  simp [World.cell?, h, hv]
theorem run_lvAc {m : ActV} (A : AcBox w g m) : (loadVar 27 ⟨g, 0, none⟩).run Tryz.prog w = .ok (AcV m) w := by
  have := run_loadVar_mid (P := Tryz.prog) w g 0 27 (AcC m).toList _ A.range Tryz.underlying27 rfl (by rw [sizeAc]; rfl)
  simpa using this
theorem run_ldAc {m : ActV} (A : AcBox w g m) : (ldAc (.pointer (some ⟨g, 0, none⟩))).run Tryz.prog w = .ok (.agg (AcC m)) w := by
  unfold ldAc
  simp only [Instr.loadAt, Instr.sureAddr, Sem.run_bind, Sem.run_pure, Result.andThen]
  exact run_lvAc A
theorem run_laAc {a : Addr} {m : ActV} (A : AcAt w a m) : (ldAc (.pointer (some a))).run Tryz.prog w = .ok (.agg (AcC m)) w := by
  have hl := run_loadCells_list (P := Tryz.prog) (w := w) a (AcC m).toList (fun j v hv => by
    match j, hv with
    | 0, hv => cases hv; rw [add_nought]; exact A.c0
    | 1, hv => cases hv; exact A.c1
    | 2, hv => cases hv; exact A.c2
    | 3, hv => cases hv; exact A.c3
    | 4, hv => cases hv; exact A.c4
    | j + 5, hv => simp [AcC] at hv)
  unfold ldAc
  simp only [Instr.loadAt, Instr.sureAddr, Sem.run_bind, Sem.run_pure, Result.andThen]
  cases hq : Tryz.prog.info? 27 with
  | none => have := sizeAc; simp [hq] at this
  | some x =>
    have hs : x.size = 5 := by have := sizeAc; simpa [hq] using this
    have hagg : (isAgg 27).run Tryz.prog w = .ok true w := by
      unfold isAgg
      rw [Sem.run_bind, run_underlying Tryz.underlying27 w]
      rfl
    have e2 : (AcC m).toList.length = 5 := rfl
    rw [e2] at hl
    simp [loadVar, Sem.run_bind, hagg, sizeOf, typeInfo, hq, hs, hl]
theorem run_stAc {m m' : ActV} (A : AcBox w g m) : (stAc (.pointer (some ⟨g, 0, none⟩)) (.agg (AcC m'))).run Tryz.prog w = .ok () (w.setRow g (AcC m')) := by
  unfold stAc
  have h := run_storeCells_from (P := Tryz.prog) g 27 (AcC m').toList 0 (AcC m) w A (by simp [AcC]) (AcC_one m')
  cases hq : Tryz.prog.info? 27 with
  | none => have := sizeAc; simp [hq] at this
  | some x =>
    have hs : x.size = 5 := by have := sizeAc; simpa [hq] using this
    simp only [Instr.storeAt, Instr.sureAddr, Sem.run_bind, Sem.run_pure, Result.andThen, storeVar, sizeOf, typeInfo, cells_AcV, AcC_size]
    simp at h
    simp [h, hq, hs]
theorem AcBox.setRow {m m' : ActV} (A : AcBox w g m) : AcBox (w.setRow g (AcC m')) g m' := setRow_heap w g _ _ _ _ A
theorem madeAc (w : World) (m : ActV) (g : Nat) (hg : w.heap.size = g) : ∃ w' : World, (stAc (.pointer (some ⟨g, 0, none⟩)) (.agg (AcC m))).run Tryz.prog (w.alloc (.cells (AcC ac0) 27)) = .ok () w' ∧ AcBox w' g m ∧ Below w.heap.size w w' ∧ w'.heap.size = w.heap.size + 1 := by
  subst hg
  refine ⟨_, run_stAc (AcBox_new w _), (AcBox_new w _).setRow, below_setRow (below_new w _) (Nat.le_refl _), by simp [World.setRow]⟩
theorem res1Ac {m : ActV} {fn : Func} {p : Tmp} (h : fn.results = #[.cell p 27]) {tmps : Array Value} (hp : tmps.getD p undef = .pointer (some ⟨g, 0, none⟩)) (A : AcBox w g m) :
    (results fn tmps).run Tryz.prog w = .ok (AcV m) w := by
  have hl := run_lvAc A
  simp only [results, h]
  rw [Array.getD_eq_getD_getElem?] at hp
  simp [hp, asAddr, hl]
end Go.Proofs.YtojpjakpcihacaaGreat

namespace Go.Proofs.YtojpjakpcihacaaGreat
open Go.RowKit
attribute [local go_sem ↓] ldP_eq stP_eq ldAc_eq stAc_eq
attribute [local go_sem] cells_PV PC_size cells_AcV AcC_size

/-- an act as a value -/
def mkA (k : Int) (s : ByteArray) (q : Int) (p : Pv) : ActV := ⟨k, s, q, p.vo, p.vn, p.vc, p.co, p.cn, p.cc⟩
theorem AcBox.k {w : World} {g : Nat} {k : Int} {s : ByteArray} {q : Int} {p : Pv} (h : AcBox w g (mkA k s q p)) : w.cell? ⟨g, 0, none⟩ = some (.int .i64 k) ∧ w.cell? ⟨g, 1, none⟩ = some (.string s) ∧ w.cell? ⟨g, 2, none⟩ = some (.int .i64 q) := ⟨h.c0, h.c1, h.c2⟩
theorem AcBox.past {w : World} {g : Nat} {k : Int} {s : ByteArray} {q : Int} {p : Pv} (h : AcBox w g (mkA k s q p)) : PAt w ⟨g, 3, none⟩ p := ⟨h.c3, h.c4⟩
/-- what Check answers -/
def ackF (k : Int) (b g : Bool) (q : Int) : Int := if k < 1 ∨ 6 < k then 7 else if (k = 4 ∨ k = 6) ∧ b = false then 1 else if k ≤ 4 ∧ g = false then 5 else if k ≤ 2 ∧ (q < 1 ∨ 1000000 < q) then 6 else 0
def AckOf (k : Int) (P : Pst) (s : ByteArray) (q : Int) (x : Int) : Prop := ∃ b : Bool, BIf b (InForm P) ∧ x = ackF k b (K.good s.data.toList) q
theorem AckOf.unique {k : Int} {P : Pst} {s : ByteArray} {q x y : Int} (h : AckOf k P s q x) (h' : AckOf k P s q y) : x = y := by
  obtain ⟨b, hb, rfl⟩ := h
  obtain ⟨c, hc, rfl⟩ := h'
  have : b = c := by
    cases b <;> cases c <;> first | rfl | (have := hb.out.1 rfl; have := hc.out.2 this; cases this) | (have := hc.out.1 rfl; have := hb.out.2 this; cases this)
  rw [this]
theorem BIf.ex (P : Prop) : ∃ b : Bool, BIf b P := by
  by_cases h : P
  · exact ⟨true, BIf.yes h⟩
  · exact ⟨false, BIf.no h⟩
def GivA (w w' : World) (e : Ending) (k : Int) (P : Pst) (s : ByteArray) (q : Int) : Prop := ∃ x, e = .returned (.int .i64 x) ∧ AckOf k P s q x ∧ Below w.heap.size w w'
theorem usesPast_any (k : Int) (w : World) : Calls Tryz.prog 16 #[.int .i64 k] w fun e w' => e = .returned (.bool ((k == 4) || (k == 6))) ∧ w' = w := by
  by_cases h4 : k = 4
  · subst h4
    go_enter Tryz.func16, Tryz.ntmps16
    go_wp2_with fail
    go_ret
    exact ⟨rfl, rfl⟩
  · have h4' : (k == 4) = false := by simpa using h4
    rw [h4', Bool.false_or]
    go_enter Tryz.func16, Tryz.ntmps16
    go_wp2_with fail
    go_ret
    exact ⟨rfl, rfl⟩
theorem usesSku_any (k : Int) (w : World) : Calls Tryz.prog 17 #[.int .i64 k] w fun e w' => e = .returned (.bool ((k != 5) && (k != 6))) ∧ w' = w := by
  by_cases h4 : k = 5
  · subst h4
    go_enter Tryz.func17, Tryz.ntmps17
    go_wp2_with fail
    go_ret
    exact ⟨rfl, rfl⟩
  · have h4' : (k != 5) = true := by simpa using h4
    rw [h4', Bool.true_and]
    go_enter Tryz.func17, Tryz.ntmps17
    go_wp2_with fail
    go_ret
    exact ⟨rfl, rfl⟩
theorem usesQty_any (k : Int) (w : World) : Calls Tryz.prog 19 #[.int .i64 k] w fun e w' => e = .returned (.bool ((k == 1) || (k == 2))) ∧ w' = w := by
  by_cases h4 : k = 1
  · subst h4
    go_enter Tryz.func19, Tryz.ntmps19
    go_wp2_with fail
    go_ret
    exact ⟨rfl, rfl⟩
  · have h4' : (k == 1) = false := by simpa using h4
    rw [h4', Bool.false_or]
    go_enter Tryz.func19, Tryz.ntmps19
    go_wp2_with fail
    go_ret
    exact ⟨rfl, rfl⟩
theorem func_nil (n : Nat) (w : World) : (binOp BinOp.eql 45 (.func (.func n) #[] #[]) .nilFunc).run Tryz.prog w = .ok (.bool false) w := by kernel_rfl
theorem nil_nil (w : World) : (binOp BinOp.eql 45 .nilFunc .nilFunc).run Tryz.prog w = .ok (.bool true) w := by kernel_rfl
end Go.Proofs.YtojpjakpcihacaaGreat
