/- QNy GNx GAc GRu GCd LPl LMe LWi LTo GSn EGp EFa -/
import Derived.Test.YtmbkmpeongodbaaGreatTk
import Derived.Test.YtmbkmpeongodbaaGreatAm27
import Derived.Test.YtmbkmpeongodbaaGreatAm16
import Derived.Test.YtmbkmpeongodbaaGreatAm12
import Derived.Test.YtmbkmpeongodbaaGreatAm13
import Derived.Deep.MidRow
import Derived.Maps.OwnSet
import Derived.Maps.Ext
import Derived.Test.YtmbkmpeongodbaaGreatAm15
import Derived.Test.YtmbkmpeongodbaaGreatAm20
import Derived.Sort.KeysCollected
import Derived.Test.YtmbkmpeongodbaaGreatAm19
import Derived.Test.YtmbkmpeongodbaaGreatAm22
import Derived.Test.YtmbkmpeongodbaaGreatAm26
import Derived.Test.YtmbkmpeongodbaaGreatAm10
import Derived.Deep.CutRange
namespace Go.Proofs.YtmbkmpeongodbaaGreat
open Go.RowKit
attribute [local go_sem ↓] ldP_eq stP_eq ldD_eq stD_eq
attribute [local go_sem] zero_PC cells_PV fold_PC PC_size cells_RV RC_size zero_RC fold_RC
theorem build_D (x y : Int) : ((RC rn0).setIfInBounds 0 (.int .i64 x)).setIfInBounds 1 (.int .i64 y) = RC ⟨x, y⟩ := rfl
attribute [local go_sem] build_D
theorem res2D {fn : Func} {p q : Tmp} {w : World} {g : Nat} {T : TypeId} {d : Rn} {v : Value} (h : fn.results = #[.cell p 44, .tmp q]) {tmps : Array Value} (hp : tmps.getD p undef = .pointer (some ⟨g, 0, none⟩)) (hq : tmps.getD q undef = v) (A : Box w g T d) :
  (results fn tmps).run Tryz.prog w = .ok (.tuple #[RV d, v]) w := by
 have hl : (loadVar 44 ⟨g, 0, none⟩).run Tryz.prog w = .ok (RV d) w := run_ldD A.at
 simp only [results, h]
 rw [Array.getD_eq_getD_getElem?] at hp hq
 simp [hp, hq, asAddr, hl]
def NxtOf (P : Pst) (r lim : Int) (d : Rn) (x : Int) : Prop := (V.isR r = false ∧ d = rn0 ∧ x = 3) ∨ (V.isR r = true ∧ ∃ k, LastOf P r k ∧ ((min lim 1000000000 ≤ k ∧ d = rn0 ∧ x = 9) ∨ (k < min lim 1000000000 ∧ d = ⟨r, k + 1⟩ ∧ x = 0)))
theorem NxtOf.unique {P : Pst} {r lim : Int} {d d' : Rn} {x x' : Int} (h : NxtOf P r lim d x) (h' : NxtOf P r lim d' x') : d = d' ∧ x = x' := by
 rcases h with ⟨h1, h2, h3⟩ | ⟨h1, k, hk, h4⟩ <;> rcases h' with ⟨g1, g2, g3⟩ | ⟨g1, l, hl, g4⟩
 ·exact ⟨h2.trans g2.symm, h3.trans g3.symm⟩
 ·rw [h1] at g1; cases g1
 ·rw [h1] at g1; cases g1
 ·obtain rfl := hk.unique hl
  rcases h4 with ⟨a1, a2, a3⟩ | ⟨a1, a2, a3⟩ <;> rcases g4 with ⟨b1, b2, b3⟩ | ⟨b1, b2, b3⟩
  ·exact ⟨a2.trans b2.symm, a3.trans b3.symm⟩
  ·omega
  ·omega
  ·exact ⟨a2.trans b2.symm, a3.trans b3.symm⟩
def GivN (w w' : World) (e : Ending) (P : Pst) (r lim : Int) : Prop := ∃ d x, e = .returned (.tuple #[RV d, .int .i64 x]) ∧ NxtOf P r lim d x ∧ Below w.heap.size w w'
theorem LastOf.bd' {P : Pst} {r k : Int} (h : LastOf P r k) : 0 ≤ k ∧ k ≤ 1000000000 := by
 rcases h with ⟨_, h⟩ | ⟨_, h⟩
 ·exact h.bd
 ·omega
set_option maxRecDepth 100000 in
theorem pastNextF_any (a : Pv) (r lim : Int) (w : World) (hS : PSrc w a) : Calls Tryz.prog 173 #[PV a, .int .i64 r, .int .i64 lim] w fun e w' => GivN w w' e a.P r lim := by
 have b1 := below_new w (.cells (PC a) 26)
 have b2 := below_new (w.alloc (.cells (PC a) 26)) (.cells (RC rn0) 44)
 have X2 := box_new (w.alloc (.cells (PC a) 26)) 44 rn0
 rw [World.size_alloc] at X2
 have HXA := hide ((pbox_new w a).below b2)
 have HX2 := hide X2
 have HBK := hide (b1.trans (b2.mono b1.size))
 have HS := hide (hS.below HBK.out)
 clear b1 b2 X2 hS
 obtain ⟨wk, hwk⟩ : ∃ wk, (w.alloc (.cells (PC a) 26)).alloc (.cells (RC rn0) 44) = wk := ⟨_, rfl⟩
 rw [hwk] at HXA HX2 HBK HS
 have l1 := run_ldP HXA.out.at
 obtain ⟨x, HR⟩ : ∃ x, Hid (V.isR r = x) := ⟨_, rfl⟩
 cases x with
 | false =>
  have HFN : Hid (NxtOf a.P r lim rn0 3) := Or.inl ⟨HR.out, rfl, rfl⟩
  have s1 := run_stD (r' := rn0) HX2.out
  have HE : Hid (Box (wk.setRow (w.heap.size + 1) (RC rn0)) (w.heap.size + 1) 44 rn0) := HX2.out.setRow
  have HBE := hide (below_setRow (cs := RC rn0) HBK.out (show w.heap.size ≤ w.heap.size + 1 by omega))
  go_enter Tryz.func173, Tryz.ntmps173
  go_wp2_with (go_at_call 79; refine (isRepP_any r _).mono ?_; rintro e w' ⟨rfl, rfl⟩; rw [HR.out])
  exact bodyPost_ret (res2D Tryz.results173 rfl rfl HE.out) rfl ⟨_, _, rfl, HFN.out, HBE.out⟩
 | true =>
  have hrr : ¬ r < 0 := by have := HR.out; simp [V.isR] at this; omega
  have hrq : ¬ (16 : Int) ≤ r := by have := HR.out; simp [V.isR] at this; omega
  go_enter Tryz.func173, Tryz.ntmps173
  go_wp2_with (go_at_call 79; refine (isRepP_any r _).mono ?_; rintro e w' ⟨rfl, rfl⟩; rw [HR.out])
  clear hwk
  refine (pastLast_any a r _ HS.out).mono ?_
  rintro e w1 ⟨k, rfl, hk, b3⟩
  have HK := hide hk
  have hkb := hk.bd'
  have HX1 := hide (HX2.out.below b3)
  have HB1 := hide (HBK.out.trans (b3.mono HBK.out.size))
  clear l1 b3 HX2 HBK HXA HS hk
  by_cases hl : 1000000000 < lim
  ·by_cases h9 : 1000000000 ≤ k
   ·skip
    have s1 := run_stD (r' := rn0) HX1.out
    have HE : Hid (Box (w1.setRow (w.heap.size + 1) (RC rn0)) (w.heap.size + 1) 44 rn0) := HX1.out.setRow
    have HBE := hide (below_setRow (cs := RC rn0) HB1.out (show w.heap.size ≤ w.heap.size + 1 by omega))
    have HFN : Hid (NxtOf a.P r lim rn0 9) := Or.inr ⟨HR.out, k, HK.out, Or.inl ⟨by omega, rfl, rfl⟩⟩
    go_wp2_with fail
    exact bodyPost_ret (res2D Tryz.results173 rfl rfl HE.out) rfl ⟨_, _, rfl, HFN.out, HBE.out⟩
   ·skip
    have s1 := run_stD (r' := ⟨r, k + 1⟩) HX1.out
    have HE : Hid (Box (w1.setRow (w.heap.size + 1) (RC ⟨r, k + 1⟩)) (w.heap.size + 1) 44 ⟨r, k + 1⟩) := HX1.out.setRow
    have HBE := hide (below_setRow (cs := RC ⟨r, k + 1⟩) HB1.out (show w.heap.size ≤ w.heap.size + 1 by omega))
    have HFN : Hid (NxtOf a.P r lim ⟨r, k + 1⟩ 0) := Or.inr ⟨HR.out, k, HK.out, Or.inr ⟨by omega, rfl, rfl⟩⟩
    go_wp2_with fail
    exact bodyPost_ret (res2D Tryz.results173 rfl rfl HE.out) rfl ⟨_, _, rfl, HFN.out, HBE.out⟩
  ·by_cases h9 : lim ≤ k
   ·skip
    have s1 := run_stD (r' := rn0) HX1.out
    have HE : Hid (Box (w1.setRow (w.heap.size + 1) (RC rn0)) (w.heap.size + 1) 44 rn0) := HX1.out.setRow
    have HBE := hide (below_setRow (cs := RC rn0) HB1.out (show w.heap.size ≤ w.heap.size + 1 by omega))
    have HFN : Hid (NxtOf a.P r lim rn0 9) := Or.inr ⟨HR.out, k, HK.out, Or.inl ⟨by omega, rfl, rfl⟩⟩
    go_wp2_with fail
    exact bodyPost_ret (res2D Tryz.results173 rfl rfl HE.out) rfl ⟨_, _, rfl, HFN.out, HBE.out⟩
   ·skip
    have s1 := run_stD (r' := ⟨r, k + 1⟩) HX1.out
    have HE : Hid (Box (w1.setRow (w.heap.size + 1) (RC ⟨r, k + 1⟩)) (w.heap.size + 1) 44 ⟨r, k + 1⟩) := HX1.out.setRow
    have HBE := hide (below_setRow (cs := RC ⟨r, k + 1⟩) HB1.out (show w.heap.size ≤ w.heap.size + 1 by omega))
    have HFN : Hid (NxtOf a.P r lim ⟨r, k + 1⟩ 0) := Or.inr ⟨HR.out, k, HK.out, Or.inr ⟨by omega, rfl, rfl⟩⟩
    go_wp2_with fail
    exact bodyPost_ret (res2D Tryz.results173 rfl rfl HE.out) rfl ⟨_, _, rfl, HFN.out, HBE.out⟩
end Go.Proofs.YtmbkmpeongodbaaGreat
namespace Go.Proofs.YtmbkmpeongodbaaGreat
open Go.RowKit
attribute [local go_sem ↓] ldP_eq stP_eq ldD_eq stD_eq
attribute [local go_sem] zero_PC cells_PV fold_PC PC_size cells_RV RC_size zero_RC fold_RC build_D
def NxF (P : Pst) (r lim : Int) (d : Rn) (x : Int) : Prop := (¬ InForm P ∧ d = rn0 ∧ x = 1) ∨ (InForm P ∧ NxtOf P r lim d x)
theorem NxF.unique {P : Pst} {r lim : Int} {d d' : Rn} {x x' : Int} (h : NxF P r lim d x) (h' : NxF P r lim d' x') : d = d' ∧ x = x' := by
 rcases h with ⟨h1, h2, h3⟩ | ⟨h1, h2⟩ <;> rcases h' with ⟨g1, g2, g3⟩ | ⟨g1, g2⟩
 ·exact ⟨h2.trans g2.symm, h3.trans g3.symm⟩
 ·exact absurd g1 h1
 ·exact absurd h1 g1
 ·exact h2.unique g2
def GivX (w w' : World) (e : Ending) (P : Pst) (r lim : Int) : Prop := ∃ d x, e = .returned (.tuple #[RV d, .int .i64 x]) ∧ NxF P r lim d x ∧ Below w.heap.size w w'
set_option maxRecDepth 100000 in
set_option maxHeartbeats 800000 in
theorem actNext_any (a : Pv) (r lim : Int) (w : World) (hS : PSrc w a) : Calls Tryz.prog 146 #[PV a, .int .i64 r, .int .i64 lim] w fun e w' => GivX w w' e a.P r lim := by
 have b1 := below_new w (.cells (PC a) 26)
 have b2 := below_new (w.alloc (.cells (PC a) 26)) (.cells (RC rn0) 44)
 have X2 := box_new (w.alloc (.cells (PC a) 26)) 44 rn0
 rw [World.size_alloc] at X2
 have HXA := hide ((pbox_new w a).below b2)
 have HX2 := hide X2
 have HBK := hide (b1.trans (b2.mono b1.size))
 have HS := hide (hS.below HBK.out)
 clear b1 b2 X2 hS
 obtain ⟨wk, hwk⟩ : ∃ wk, (w.alloc (.cells (PC a) 26)).alloc (.cells (RC rn0) 44) = wk := ⟨_, rfl⟩
 rw [hwk] at HXA HX2 HBK HS
 have l1 := run_ldP HXA.out.at
 go_enter Tryz.func146, Tryz.ntmps146
 go_wp2_with fail
 clear hwk
 refine (isNormP_any a _ HS.out).mono ?_
 rintro e w2 ⟨x, rfl, hx, b3⟩
 have HB3 := hide (HBK.out.trans (b3.mono HBK.out.size))
 have HX3 := hide (HX2.out.below b3)
 have l2 := run_ldP (HXA.out.below b3).at
 have HS3 := hide (HS.out.below b3)
 clear l1 b3 HX2 HBK HXA HS
 cases x with
 | false =>
  have HN : Hid (¬ InForm a.P) := fun h => by have := hx.out.2 h; cases this
  have s1 := run_stD (r' := rn0) HX3.out
  have HE : Hid (Box (w2.setRow (w.heap.size + 1) (RC rn0)) (w.heap.size + 1) 44 rn0) := HX3.out.setRow
  have HBE := hide (below_setRow (cs := RC rn0) HB3.out (show w.heap.size ≤ w.heap.size + 1 by omega))
  clear hx
  go_wp2_with fail
  exact bodyPost_ret (res2D Tryz.results146 rfl rfl HE.out) rfl ⟨_, _, rfl, Or.inl ⟨HN.out, rfl, rfl⟩, HBE.out⟩
 | true =>
  have HY : Hid (InForm a.P) := hx.out.1 rfl
  clear hx
  go_wp2_with fail
  refine (pastNextF_any a r lim _ HS3.out).mono ?_
  rintro e w4 ⟨d, x, rfl, hd, b4⟩
  have HD := hide hd
  have HX4 := hide (HX3.out.below b4)
  have s1 := run_stD (r' := d) HX4.out
  have HE : Hid (Box (w4.setRow (w.heap.size + 1) (RC d)) (w.heap.size + 1) 44 d) := HX4.out.setRow
  have HBE := hide (below_setRow (cs := RC d) (HB3.out.trans (b4.mono HB3.out.size)) (show w.heap.size ≤ w.heap.size + 1 by omega))
  clear hd b4 l2
  go_wp2_with fail
  exact bodyPost_ret (res2D Tryz.results146 rfl rfl HE.out) rfl ⟨_, _, rfl, Or.inr ⟨HY.out, HD.out⟩, HBE.out⟩
end Go.Proofs.YtmbkmpeongodbaaGreat
namespace Go.Proofs.YtmbkmpeongodbaaGreat
open Go.RowKit
variable {w w' : World} {g : Nat}
structure ActV where
 kind : Int
 sku : ByteArray
 qty : Int
 veco : Option Addr
 vecn : Nat
 vecc : Nat
 cloudo : Option Addr
 cloudn : Nat
 cloudc : Nat
def ac0 : ActV := ⟨0, ⟨#[]⟩, 0, none, 0, 0, none, 0, 0⟩
def AcC (m : ActV) : Array Value := #[.int .i64 m.kind, .string m.sku, .int .i64 m.qty, .slice m.veco m.vecn m.vecc, .slice m.cloudo m.cloudn m.cloudc]
abbrev AcV (m : ActV) : Value := .agg (AcC m)
theorem AcC_size (m : ActV) : (AcC m).size = 5 := rfl
theorem AcC_one (m : ActV) : ∀ v ∈ (AcC m).toList, v.oneCell' = true := by
 intro v hv; simp [AcC] at hv; rcases hv with rfl | rfl | rfl | rfl | rfl <;> rfl
theorem cells_AcV (m : ActV) : (AcV m).cells = AcC m := by simp [Value.cells]
structure AcAt (w : World) (a : Addr) (m : ActV) : Prop where
 c0 : w.cell? a = some (.int .i64 m.kind)
 c1 : w.cell? (a.add 1) = some (.string m.sku)
 c2 : w.cell? (a.add 2) = some (.int .i64 m.qty)
 c3 : w.cell? (a.add 3) = some (.slice m.veco m.vecn m.vecc)
 c4 : w.cell? (a.add 4) = some (.slice m.cloudo m.cloudn m.cloudc)
def AcBox (w : World) (g : Nat) (m : ActV) : Prop := w.heap[g]? = some (.cells (AcC m) 30 (0, 0))
theorem AcBox.lt {m : ActV} (h : AcBox w g m) : g < w.heap.size := (Array.getElem?_eq_some_iff.1 h).1
theorem AcBox.below {m : ActV} (h : AcBox w g m) (hb : Below w.heap.size w w') : AcBox w' g m := (hb.block g h.lt).trans h
theorem AcBox.c0 {m : ActV} (h : AcBox w g m) : w.cell? ⟨g, 0, none⟩ = some (.int .i64 m.kind) := by unfold AcBox at h; simp [World.cell?, h, AcC]
theorem AcBox.c1 {m : ActV} (h : AcBox w g m) : w.cell? ⟨g, 1, none⟩ = some (.string m.sku) := by unfold AcBox at h; simp [World.cell?, h, AcC]
theorem AcBox.c2 {m : ActV} (h : AcBox w g m) : w.cell? ⟨g, 2, none⟩ = some (.int .i64 m.qty) := by unfold AcBox at h; simp [World.cell?, h, AcC]
theorem AcBox.c3 {m : ActV} (h : AcBox w g m) : w.cell? ⟨g, 3, none⟩ = some (.slice m.veco m.vecn m.vecc) := by unfold AcBox at h; simp [World.cell?, h, AcC]
theorem AcBox.c4 {m : ActV} (h : AcBox w g m) : w.cell? ⟨g, 4, none⟩ = some (.slice m.cloudo m.cloudn m.cloudc) := by unfold AcBox at h; simp [World.cell?, h, AcC]
theorem AcBox_new (w : World) (m : ActV) : AcBox (w.alloc (.cells (AcC m) 30)) w.heap.size m := by unfold AcBox; rw [heap_alloc_new]
def ldAc (v : Value) : Sem Value := Instr.loadAt 30 v
theorem ldAc_eq (v : Value) : Instr.loadAt 30 v = ldAc v := rfl
def stAc (p v : Value) : Sem Unit := Instr.storeAt 30 p v
theorem stAc_eq (p v : Value) : Instr.storeAt 30 p v = stAc p v := rfl
theorem sizeAc : (Tryz.prog.info? 30).map (·.size) = some 5 := by kernel_rfl
theorem AcBox.range {m : ActV} (h : AcBox w g m) : w.rangeAt g 0 (AcC m).toList := by
 intro j v hv
 rw [Nat.zero_add]
 unfold AcBox at h
 simp only [Array.getElem?_toList] at hv
 simp [World.cell?, h, hv]
theorem run_lvAc {m : ActV} (A : AcBox w g m) : (loadVar 30 ⟨g, 0, none⟩).run Tryz.prog w = .ok (AcV m) w := by
 have := run_loadVar_mid (P := Tryz.prog) w g 0 30 (AcC m).toList _ A.range Tryz.underlying30 rfl (by rw [sizeAc]; rfl)
 simpa using this
theorem run_ldAc {m : ActV} (A : AcBox w g m) : (ldAc (.pointer (some ⟨g, 0, none⟩))).run Tryz.prog w = .ok (.agg (AcC m)) w := by
 unfold ldAc
 simp only [Instr.loadAt, Instr.sureAddr, Sem.run_bind, Sem.run_pure, Result.andThen]
 exact run_lvAc A
theorem run_stAc {m m' : ActV} (A : AcBox w g m) : (stAc (.pointer (some ⟨g, 0, none⟩)) (.agg (AcC m'))).run Tryz.prog w = .ok () (w.setRow g (AcC m')) := by
 unfold stAc
 have h := run_storeCells_from (P := Tryz.prog) g 30 (AcC m').toList 0 (AcC m) w A (by simp [AcC]) (AcC_one m')
 cases hq : Tryz.prog.info? 30 with
 | none => have := sizeAc; simp [hq] at this
 | some x =>
  have hs : x.size = 5 := by have := sizeAc; simpa [hq] using this
  simp only [Instr.storeAt, Instr.sureAddr, Sem.run_bind, Sem.run_pure, Result.andThen, storeVar, sizeOf, typeInfo, cells_AcV, AcC_size]
  simp at h
  simp [h, hq, hs]
theorem AcBox.setRow {m m' : ActV} (A : AcBox w g m) : AcBox (w.setRow g (AcC m')) g m' := setRow_heap w g _ _ _ _ A
theorem madeAc (w : World) (m : ActV) (g : Nat) (hg : w.heap.size = g) : ∃ w' : World, (stAc (.pointer (some ⟨g, 0, none⟩)) (.agg (AcC m))).run Tryz.prog (w.alloc (.cells (AcC ac0) 30)) = .ok () w' ∧ AcBox w' g m ∧ Below w.heap.size w w' ∧ w'.heap.size = w.heap.size + 1 := by
 subst hg
 refine ⟨_, run_stAc (AcBox_new w _), (AcBox_new w _).setRow, below_setRow (below_new w _) (Nat.le_refl _), by simp [World.setRow]⟩
end Go.Proofs.YtmbkmpeongodbaaGreat
namespace Go.Proofs.YtmbkmpeongodbaaGreat
open Go.RowKit Go.Maps Go.ChangeMaps
variable {w w' : World} {b K : Nat}

theorem lawI : Keyed Tryz.prog 3 := int_keyed Tryz.underlying3
def fv : Option Nat → Value
 | none => .nilFunc
 | some n => .func (.func n) #[] #[]
def RF (v : Value) : Option (DataW (Option Nat) × List MemPlace) :=
 match v with
 | .nilFunc => some (.held none, [])
 | .func (.func n) bs fs => (match bs.toList, fs.toList with
  | [], [] => some (.held (some n), [])
  | _, _ => none)
 | _ => none
theorem RF_mk (n : Nat) : RF (.func (.func n) #[] #[]) = some (.held (some n), []) := rfl
theorem RF_inv {v : Value} {o : Option Nat} {ps : List MemPlace} (h : RF v = some (.held o, ps)) : v = fv o := by
 unfold RF at h
 split at h
 ·simp at h; obtain ⟨rfl, _⟩ := h; rfl
 ·rename_i n bs fs
  split at h
  ·rename_i h1 h2
   simp at h
   obtain ⟨rfl, _⟩ := h
   rw [show bs = #[] from Array.toList_inj.1 h1, show fs = #[] from Array.toList_inj.1 h2]
   rfl
  ·cases h
 ·cases h
def i64ok (x : Int) : Prop := -9223372036854775808 ≤ x ∧ x ≤ 9223372036854775807
theorem wf_of {x : Int} (h : i64ok x) : (Lit.int .i64 x).wf = true := by
 have e1 : IntKind.i64.min = -9223372036854775808 := by decide
 have e2 : IntKind.i64.max = 9223372036854775807 := by decide
 unfold i64ok at h
 simp only [Lit.wf, e1, e2, Bool.and_eq_true, decide_eq_true_eq]
 exact h
theorem key_of {x : Int} (h : i64ok x) : keyOf Tryz.prog 3 (.int .i64 x) = some (.int .i64 x) := keyOf_int_mk Tryz.underlying3 (wf_of h)
def Md (D : DataW (Option Nat)) (M : Int → Option Nat) : Prop := ∀ x, D.atKey (.int .i64 x) (.held none) = .held (M x)
def mput (M : Int → Option Nat) (x : Int) (l : Nat) : Int → Option Nat := fun y => if y = x then some l else M y
theorem lit_ne {x y : Int} (h : y ≠ x) : (Lit.int .i64 y) ≠ .int .i64 x := fun e => h (by simpa using e)
theorem Md.put {D : DataW (Option Nat)} {M : Int → Option Nat} (h : Md D M) (hm : IsMap D) (x : Int) (l : Nat) : Md (D.put (.int .i64 x) (.held (some l))) (mput M x l) := by
 intro y
 unfold mput
 by_cases e : y = x
 ·subst e; rw [if_pos rfl, atKey_put_same hm (k := .int .i64 y) (show WideAt.IsKeyLit (.int .i64 y) from trivial)]
 ·rw [if_neg e, atKey_put_other (lit_ne e), h]
def MapR (w : World) (b K : Nat) (M : Int → Option Nat) : Prop := ∃ D, w.ownsMap Tryz.prog 3 RF b K D ∧ Md D M
theorem MapR.made (w : World) : MapR (w.alloc (.map #[] 0)) w.heap.size 0 (fun _ => none) := ⟨_, World.ownsMap_made w Tryz.prog 3 RF, fun _ => rfl⟩
theorem MapR.put {M : Int → Option Nat} (h : MapR w b K M) {x : Int} (hx : i64ok x) (n : Nat) (hK : K < maxLen) : ∃ w', (Instr.mapUpdate 80 (.map (some b)) (.int .i64 x) (.func (.func n) #[] #[])).run Tryz.prog w = .ok () w' ∧ MapR w' b (K + 1) (mput M x n) ∧ (∀ m, m ≤ b → ∀ w0, Below m w0 w → Below m w0 w') := by
 obtain ⟨D, h, hM⟩ := h
 obtain ⟨w', hr, h', es, clock, es', clock', hb, rfl⟩ := h.store lawI Tryz.underlying80 hK (key_of hx) (RF_mk n)
 refine ⟨_, hr, ⟨_, h', hM.put h.isMap x n⟩, fun m hm w0 h0 => h0.trans ⟨rfl, rfl, rfl, by simp [setBlock], fun k hk => ?_⟩⟩
 simp [setBlock, show b ≠ k by omega]
theorem zeroF (w : World) : (zeroValue 79).run Tryz.prog w = .ok .nilFunc w := Tryz.zeroValue79 w
theorem MapR.look {M : Int → Option Nat} (h : MapR w b K M) {x : Int} (hx : i64ok x) : (Instr.lookup 80 (.map (some b)) (.int .i64 x) false).run Tryz.prog w = .ok (fv (M x)) w := by
 obtain ⟨D, h, hM⟩ := h
 obtain ⟨v, ps, hr, hv⟩ := h.lookup lawI Tryz.underlying80 (zeroF w) (zd := .held none) (zp := []) rfl (key_of hx)
 rw [hM] at hv
 rw [hr, RF_inv hv]
def ruleM : Int → Option Nat := mput (mput (mput (mput (mput (mput (fun _ => none) 1 71) 2 72) 3 73) 4 74) 5 75) 6 76
theorem ruleM_no {k : Int} (h : k < 1 ∨ 6 < k) : ruleM k = none := by
 unfold ruleM mput
 rw [if_neg (by omega), if_neg (by omega), if_neg (by omega), if_neg (by omega), if_neg (by omega), if_neg (by omega)]
theorem rules_any (w : World) : Calls Tryz.prog 34 #[] w fun e w' => e = .returned (.map (some w.heap.size)) ∧ MapR w' w.heap.size 6 ruleM ∧ Below w.heap.size w w' := by
 have m0 := MapR.made w
 have b0 := below_new w (.map #[] 0)
 obtain ⟨w0, hw0⟩ : ∃ w0, w.alloc (.map #[] 0) = w0 := ⟨_, rfl⟩
 rw [hw0] at m0 b0
 have hmm := @run_makeMap Tryz.prog
 obtain ⟨w1, r1, m1, k1⟩ := m0.put (x := 1) ⟨by decide, by decide⟩ 71 (by decide)
 obtain ⟨w2, r2, m2, k2⟩ := m1.put (x := 2) ⟨by decide, by decide⟩ 72 (by decide)
 obtain ⟨w3, r3, m3, k3⟩ := m2.put (x := 3) ⟨by decide, by decide⟩ 73 (by decide)
 obtain ⟨w4, r4, m4, k4⟩ := m3.put (x := 4) ⟨by decide, by decide⟩ 74 (by decide)
 obtain ⟨w5, r5, m5, k5⟩ := m4.put (x := 5) ⟨by decide, by decide⟩ 75 (by decide)
 obtain ⟨w6, r6, m6, k6⟩ := m5.put (x := 6) ⟨by decide, by decide⟩ 76 (by decide)
 have HF : Hid (MapR w6 w.heap.size 6 ruleM ∧ Below w.heap.size w w6) := ⟨m6, k6 _ (Nat.le_refl _) _ (k5 _ (Nat.le_refl _) _ (k4 _ (Nat.le_refl _) _ (k3 _ (Nat.le_refl _) _ (k2 _ (Nat.le_refl _) _ (k1 _ (Nat.le_refl _) _ b0)))))⟩
 clear m0 b0 m1 m2 m3 m4 m5 m6 k1 k2 k3 k4 k5 k6
 go_enter Tryz.func34, Tryz.ntmps34
 go_wp2_with fail
 go_ret
 exact ⟨rfl, HF.out⟩
end Go.Proofs.YtmbkmpeongodbaaGreat
namespace Go.Proofs.YtmbkmpeongodbaaGreat
open Go.RowKit
attribute [local go_sem ↓] ldP_eq stP_eq ldAc_eq stAc_eq
attribute [local go_sem] cells_PV PC_size cells_AcV AcC_size
def mkA (k : Int) (s : ByteArray) (q : Int) (p : Pv) : ActV := ⟨k, s, q, p.vo, p.vn, p.vc, p.co, p.cn, p.cc⟩
theorem AcBox.k {w : World} {g : Nat} {k : Int} {s : ByteArray} {q : Int} {p : Pv} (h : AcBox w g (mkA k s q p)) : w.cell? ⟨g, 0, none⟩ = some (.int .i64 k) ∧ w.cell? ⟨g, 1, none⟩ = some (.string s) ∧ w.cell? ⟨g, 2, none⟩ = some (.int .i64 q) := ⟨h.c0, h.c1, h.c2⟩
theorem AcBox.past {w : World} {g : Nat} {k : Int} {s : ByteArray} {q : Int} {p : Pv} (h : AcBox w g (mkA k s q p)) : PAt w ⟨g, 3, none⟩ p := ⟨h.c3, h.c4⟩
def ackF (k : Int) (b g : Bool) (q : Int) : Int := if k < 1 ∨ 6 < k then 7 else if (k = 4 ∨ k = 6) ∧ b = false then 1 else if k ≤ 4 ∧ g = false then 5 else if k ≤ 2 ∧ (q < 1 ∨ 1000000 < q) then 6 else 0
def AckOf (k : Int) (P : Pst) (s : ByteArray) (q : Int) (x : Int) : Prop := ∃ b : Bool, BIf b (InForm P) ∧ x = ackF k b (K.good s.data.toList) q
theorem AckOf.unique {k : Int} {P : Pst} {s : ByteArray} {q x y : Int} (h : AckOf k P s q x) (h' : AckOf k P s q y) : x = y := by
 obtain ⟨b, hb, rfl⟩ := h
 obtain ⟨c, hc, rfl⟩ := h'
 have : b = c := by
  cases b <;> cases c <;> first | rfl | (have := hb.out.1 rfl; have := hc.out.2 this; cases this) | (have := hc.out.1 rfl; have := hb.out.2 this; cases this)
 rw [this]
theorem BIf.ex (P : Prop) : ∃ b : Bool, BIf b P := by
 by_cases h : P
 ·exact ⟨true, BIf.yes h⟩
 ·exact ⟨false, BIf.no h⟩
def GivA (w w' : World) (e : Ending) (k : Int) (P : Pst) (s : ByteArray) (q : Int) : Prop := ∃ x, e = .returned (.int .i64 x) ∧ AckOf k P s q x ∧ Below w.heap.size w w'
theorem usesPast_any (k : Int) (w : World) : Calls Tryz.prog 68 #[.int .i64 k] w fun e w' => e = .returned (.bool ((k == 4) || (k == 6))) ∧ w' = w := by
 by_cases h4 : k = 4
 ·subst h4
  go_enter Tryz.func68, Tryz.ntmps68
  go_wp2_with fail
  go_ret
  exact ⟨rfl, rfl⟩
 ·have h4' : (k == 4) = false := by simpa using h4
  rw [h4', Bool.false_or]
  go_enter Tryz.func68, Tryz.ntmps68
  go_wp2_with fail
  go_ret
  exact ⟨rfl, rfl⟩
theorem usesSku_any (k : Int) (w : World) : Calls Tryz.prog 69 #[.int .i64 k] w fun e w' => e = .returned (.bool ((k != 5) && (k != 6))) ∧ w' = w := by
 by_cases h4 : k = 5
 ·subst h4
  go_enter Tryz.func69, Tryz.ntmps69
  go_wp2_with fail
  go_ret
  exact ⟨rfl, rfl⟩
 ·have h4' : (k != 5) = true := by simpa using h4
  rw [h4', Bool.true_and]
  go_enter Tryz.func69, Tryz.ntmps69
  go_wp2_with fail
  go_ret
  exact ⟨rfl, rfl⟩
theorem usesQty_any (k : Int) (w : World) : Calls Tryz.prog 70 #[.int .i64 k] w fun e w' => e = .returned (.bool ((k == 1) || (k == 2))) ∧ w' = w := by
 by_cases h4 : k = 1
 ·subst h4
  go_enter Tryz.func70, Tryz.ntmps70
  go_wp2_with fail
  go_ret
  exact ⟨rfl, rfl⟩
 ·have h4' : (k == 1) = false := by simpa using h4
  rw [h4', Bool.false_or]
  go_enter Tryz.func70, Tryz.ntmps70
  go_wp2_with fail
  go_ret
  exact ⟨rfl, rfl⟩
theorem func_nil (n : Nat) (w : World) : (binOp BinOp.eql 79 (.func (.func n) #[] #[]) .nilFunc).run Tryz.prog w = .ok (.bool false) w := by kernel_rfl
theorem nil_nil (w : World) : (binOp BinOp.eql 79 .nilFunc .nilFunc).run Tryz.prog w = .ok (.bool true) w := by kernel_rfl
end Go.Proofs.YtmbkmpeongodbaaGreat
namespace Go.Proofs.YtmbkmpeongodbaaGreat.K
open Go.RowKit Go.Maps Go.Sort

structure Ln where
 sku : ByteArray
 qty : Int
 parts : Int
def ln0 : Ln := ⟨⟨#[]⟩, 0, 0⟩
def addL (l : Ln) (e : En) : Ln := ⟨e.sku, l.qty + e.qty, l.parts + 1⟩
def ofS (L : List En) (s : ByteArray) : List En := L.filter (fun e => eqS e.sku s)
def lineOf (L : List En) (s : ByteArray) : Ln := (ofS L s).foldl addL ln0
theorem eqS_iff (a b : ByteArray) : eqS a b = true ↔ a = b := by
 unfold eqS
 rw [beq_iff_eq, ByteArray.toList_eq, ByteArray.toList_eq]
 constructor
 ·intro h; cases a; cases b; simp at h; simp [h]
 ·rintro rfl; rfl
theorem eqS_no (a b : ByteArray) : eqS a b = false ↔ a ≠ b := by
 rw [← Bool.not_eq_true, ne_eq, eqS_iff]
theorem ofS_snoc (L : List En) (e : En) (s : ByteArray) : ofS (L ++ [e]) s = if e.sku = s then ofS L s ++ [e] else ofS L s := by
 unfold ofS
 rw [List.filter_append]
 by_cases h : e.sku = s
 ·rw [if_pos h]; simp [(eqS_iff _ _).2 h]
 ·rw [if_neg h]; simp [(eqS_no _ _).2 h]
theorem lineOf_same (L : List En) (e : En) : lineOf (L ++ [e]) e.sku = addL (lineOf L e.sku) e := by
 unfold lineOf; rw [ofS_snoc, if_pos rfl, List.foldl_append]; rfl
theorem lineOf_other (L : List En) (e : En) (s : ByteArray) (h : e.sku ≠ s) : lineOf (L ++ [e]) s = lineOf L s := by
 unfold lineOf; rw [ofS_snoc, if_neg h]
def AllOk (L : List En) : Prop := ∀ e ∈ L, 1 ≤ e.qty ∧ e.qty ≤ 1000000
theorem ce_qty {z : En} (hz : ceE z = 0) : 1 ≤ z.qty ∧ z.qty ≤ 1000000 := by
 unfold ceE at hz
 by_cases h1 : isR z.rep = false
 ·rw [if_pos h1] at hz; omega
 ·rw [if_neg h1] at hz
  by_cases h2 : z.num < 1 ∨ 1000000000 < z.num
  ·rw [if_pos h2] at hz; omega
  ·rw [if_neg h2] at hz
   by_cases h3 : good z.sku.data.toList = false
   ·rw [if_pos h3] at hz; omega
   ·rw [if_neg h3] at hz
    by_cases h4 : z.qty < 1 ∨ 1000000 < z.qty
    ·rw [if_pos h4] at hz; omega
    ·omega
theorem ce_good {z : En} (hz : ceE z = 0) : good z.sku.data.toList = true := by
 unfold ceE at hz
 by_cases h1 : isR z.rep = false
 ·rw [if_pos h1] at hz; omega
 ·rw [if_neg h1] at hz
  by_cases h2 : z.num < 1 ∨ 1000000000 < z.num
  ·rw [if_pos h2] at hz; omega
  ·rw [if_neg h2] at hz
   by_cases h3 : good z.sku.data.toList = false
   ·rw [if_pos h3] at hz; omega
   ·simpa using h3
theorem chk_ce {L : List En} (h : chk L = 0) : ∀ e ∈ L, ceE e = 0 := by
 intro e he
 obtain ⟨k, hk, rfl⟩ := List.getElem_of_mem he
 have := okN_at L _ (chk_zero h) k hk
 simp only [okAt, Bool.and_eq_true, beq_iff_eq] at this
 have e1 : L.getD k en0 = L[k] := by simp [List.getD, hk]
 rw [← e1]; exact this.1
theorem chk_all {L : List En} (h : chk L = 0) : AllOk L := fun e he => ce_qty (chk_ce h e he)
theorem fold_bd (L : List En) (h : AllOk L) : ∀ l : Ln, (L.foldl addL l).qty ≤ l.qty + L.length * 1000000 ∧ l.qty + L.length ≤ (L.foldl addL l).qty ∧ (L.foldl addL l).parts = l.parts + L.length := by
 induction L with
 | nil => intro l; simp
 | cons a L ih =>
  intro l
  have ha := h a (by simp)
  have := ih (fun e he => h e (by simp [he])) (addL l a)
  simp only [List.foldl_cons, List.length_cons, addL] at this ⊢
  omega
theorem ofS_len (L : List En) (s : ByteArray) : (ofS L s).length ≤ L.length := List.length_filter_le _ _
theorem ofS_ok {L : List En} (h : AllOk L) (s : ByteArray) : AllOk (ofS L s) := fun e he => h e (List.mem_filter.1 he).1
theorem line_bd (L : List En) (h : AllOk L) (s : ByteArray) : 0 ≤ (lineOf L s).qty ∧ (lineOf L s).qty ≤ L.length * 1000000 ∧ 0 ≤ (lineOf L s).parts ∧ (lineOf L s).parts ≤ L.length := by
 have := fold_bd (ofS L s) (ofS_ok h s) ln0
 have hl := ofS_len L s
 unfold lineOf
 simp only [ln0] at this ⊢
 omega
theorem fold_sku (L : List En) (s : ByteArray) (h : ∀ e ∈ L, e.sku = s) : ∀ l : Ln, L ≠ [] → (L.foldl addL l).sku = s := by
 induction L with
 | nil => intro l h; exact absurd rfl h
 | cons a L ih =>
  intro l _
  cases L with
  | nil => simp [addL, h a (by simp)]
  | cons b L => exact ih (fun e he => h e (by simp [he])) (addL l a) (by simp)
theorem ofS_mem {L : List En} {s : ByteArray} {e : En} : e ∈ ofS L s ↔ e ∈ L ∧ e.sku = s := by
 unfold ofS; rw [List.mem_filter, eqS_iff]
theorem line_sku (L : List En) (e : En) (he : e ∈ L) : (lineOf L e.sku).sku = e.sku := by
 refine fold_sku _ _ (fun x hx => (ofS_mem.1 hx).2) _ (fun h => ?_)
 have : e ∈ ofS L e.sku := ofS_mem.2 ⟨he, rfl⟩
 rw [h] at this; cases this
def LinesOf (L : List En) (R : List Ln) (er : Int) : Prop :=
 (chk L ≠ 0 ∧ R = [] ∧ er = 1) ∨ (chk L = 0 ∧ er = 0 ∧ R.Pairwise (fun a b => a.sku.data.toList < b.sku.data.toList) ∧ ∀ l, l ∈ R ↔ ∃ e ∈ L, l = lineOf L e.sku)
theorem rising_unique : ∀ {R R' : List Ln}, R.Pairwise (fun a b => a.sku.data.toList < b.sku.data.toList) → R'.Pairwise (fun a b => a.sku.data.toList < b.sku.data.toList) → (∀ l, l ∈ R ↔ l ∈ R') → R = R' := by
 intro R R' h h' hm
 have nd : ∀ {R : List Ln}, R.Pairwise (fun a b => a.sku.data.toList < b.sku.data.toList) → R.Nodup := fun {R} h => h.imp (fun {a b} hab e => by subst e; exact List.lt_irrefl _ hab)
 have hp : R.Perm R' := (List.perm_ext_iff_of_nodup (nd h) (nd h')).2 hm
 refine List.Perm.eq_of_pairwise (le := fun a b : Ln => a.sku.data.toList < b.sku.data.toList) (fun a b _ _ h1 h2 => ?_) h h' hp
 exact absurd (List.lt_trans h1 h2) (List.lt_irrefl _)
theorem LinesOf.unique {L : List En} {R R' : List Ln} {e e' : Int} (h : LinesOf L R e) (h' : LinesOf L R' e') : R = R' ∧ e = e' := by
 rcases h with ⟨a, b, c⟩ | ⟨a, b, c, d⟩
 ·rcases h' with ⟨_, b', c'⟩ | ⟨a', _⟩
  ·exact ⟨b.trans b'.symm, c.trans c'.symm⟩
  ·exact absurd a' a
 ·rcases h' with ⟨a', _⟩ | ⟨_, b', c', d'⟩
  ·exact absurd a a'
  ·exact ⟨rising_unique c c' (fun l => (d l).trans (d' l).symm), b.trans b'.symm⟩

def Mp (D : DataW Ln) (L : List En) : Prop := (∀ s : ByteArray, has D (.string s.data.toList) = true ↔ ∃ e ∈ L, e.sku = s) ∧ ∀ s : ByteArray, D.atKey (.string s.data.toList) (.held ln0) = .held (lineOf L s)
theorem mp_start : Mp (.map []) [] := ⟨fun s => by simp [has], fun s => rfl⟩
theorem str_inj {a b : ByteArray} (h : (Lit.string a.data.toList) = .string b.data.toList) : a = b := by
 cases a; cases b; simp at h; simp [h]
theorem mp_step {D : DataW Ln} {L : List En} (h : Mp D L) (hm : IsMap D) (e : En) : Mp (D.put (.string e.sku.data.toList) (.held (addL (lineOf L e.sku) e))) (L ++ [e]) := by
 refine ⟨fun s => ?_, fun s => ?_⟩
 ·by_cases hs : e.sku = s
  ·subst hs
   rw [has_put_same hm (k := .string e.sku.data.toList) (show WideAt.IsKeyLit (.string e.sku.data.toList) from trivial)]
   exact ⟨fun _ => ⟨e, by simp, rfl⟩, fun _ => rfl⟩
  ·rw [has_put_other (fun he => hs (str_inj he).symm), h.1 s]
   constructor
   ·rintro ⟨x, hx, rfl⟩; exact ⟨x, by simp [hx], rfl⟩
   ·rintro ⟨x, hx, rfl⟩
    rcases List.mem_append.1 hx with hx | hx
    ·exact ⟨x, hx, rfl⟩
    ·simp at hx; subst hx; exact absurd rfl hs
 ·by_cases hs : e.sku = s
  ·subst hs
   rw [atKey_put_same hm (k := .string e.sku.data.toList) (show WideAt.IsKeyLit (.string e.sku.data.toList) from trivial), lineOf_same]
  ·rw [atKey_put_other (fun he => hs (str_inj he).symm), h.2 s, lineOf_other _ _ _ hs]
theorem lines_of_keys {P : Program} {k : TypeId} {R : Value → Option (DataW Ln × List MemPlace)} {w : World} {b n : Nat} {D : DataW Ln} {L : List En} (hown : w.ownsMap P k R b n D) (K : Keyed P k) (hk : P.underlying k = some .string) (hM : Mp D L) (hc : chk L = 0)
  {ss : List (List UInt8)} (hp : ss.Perm (strKeys D)) : LinesOf L ((ss.mergeSort leB).map (fun x => lineOf L ⟨x.toArray⟩)) 0 := by
 obtain ⟨es, hD, hpw, _⟩ := hown.entries K
 obtain ⟨es', hD', hko⟩ := hown.keysOf
 obtain rfl : es = es' := by rw [hD] at hD'; simpa using hD'
 subst hD
 have hks : ∀ p ∈ es, ∃ x, p.1 = .string x := fun p hp => by obtain ⟨v, hv⟩ := hko p hp; obtain ⟨x, _, hx, _⟩ := Maps.keyOf_str hk hv; exact ⟨x, hx⟩
 have hnd : (strKeys (.map es)).Nodup := by
  show (es.map fun p => strOf p.1).Nodup
  refine List.pairwise_map.2 (hpw.imp_of_mem fun {p q} hp' hq' hne e => hne ?_)
  obtain ⟨a, ha⟩ := hks p hp'
  obtain ⟨b, hb⟩ := hks q hq'
  rw [ha, hb] at e ⊢
  exact congrArg _ e
 have hmem : ∀ x, x ∈ strKeys (.map es) ↔ has (.map es) (.string x) = true := fun x => by
  rw [has_eq, List.any_eq_true]
  show x ∈ es.map (fun p => strOf p.1) ↔ _
  rw [List.mem_map]
  constructor
  ·rintro ⟨p, hp', rfl⟩
   obtain ⟨a, ha⟩ := hks p hp'
   exact ⟨p, hp', by rw [ha]; simp [Lit.sameKey, strOf]⟩
  ·rintro ⟨p, hp', hs⟩
   obtain ⟨a, ha⟩ := hks p hp'
   rw [ha] at hs
   exact ⟨p, hp', by rw [ha]; simpa [Lit.sameKey, strOf] using hs⟩
 have hT : (ss.mergeSort leB).Perm (strKeys (.map es)) := (List.mergeSort_perm ss leB).trans hp
 have tr : ∀ a b c : List UInt8, leB a b = true → leB b c = true → leB a c = true := fun a b c h1 h2 => by simp only [leB, decide_eq_true_eq] at *; exact List.le_trans h1 h2
 have tott : ∀ a b : List UInt8, (leB a b || leB b a) = true := fun a b => by simp only [leB, Bool.or_eq_true, decide_eq_true_eq]; exact List.le_total a b
 have hs1 : (ss.mergeSort leB).Pairwise (fun a b => leB a b = true) := List.pairwise_mergeSort tr tott ss
 have hnd2 : (ss.mergeSort leB).Nodup := hT.nodup_iff.2 hnd
 have hlt : (ss.mergeSort leB).Pairwise (fun a b => a < b) := (hs1.and hnd2).imp (fun {a b} h => by
  obtain ⟨h1, h2⟩ := h
  simp only [leB, decide_eq_true_eq] at h1
  refine Classical.byContradiction fun h => h2 (List.le_antisymm h1 ?_)
  exact List.not_lt.1 h)
 have hin : ∀ x, x ∈ ss.mergeSort leB ↔ ∃ e ∈ L, e.sku = ⟨x.toArray⟩ := fun x => by
  rw [hT.mem_iff, hmem]
  have := hM.1 ⟨x.toArray⟩
  simpa using this
 refine Or.inr ⟨hc, rfl, ?_, fun l => ?_⟩
 ·rw [List.pairwise_map]
  refine hlt.imp_of_mem (fun {a b} ha hb hab => ?_)
  obtain ⟨e, he, hea⟩ := (hin a).1 ha
  obtain ⟨f, hf, hfb⟩ := (hin b).1 hb
  rw [← hea, ← hfb, line_sku L e he, line_sku L f hf, hea, hfb]
  simpa using hab
 ·rw [List.mem_map]
  constructor
  ·rintro ⟨x, hx, rfl⟩
   obtain ⟨e, he, hea⟩ := (hin x).1 hx
   exact ⟨e, he, by rw [hea]⟩
  ·rintro ⟨e, he, rfl⟩
   refine ⟨e.sku.data.toList, (hin _).2 ⟨e, he, ?_⟩, ?_⟩
   ·cases hq : e.sku; simp
   ·cases hq : e.sku; simp
end Go.Proofs.YtmbkmpeongodbaaGreat.K
namespace Go.Proofs.YtmbkmpeongodbaaGreat.K
open Go.RowKit

def LC (e : Ln) : Array Value := #[.string e.sku, .int .i64 e.qty, .int .i64 e.parts]
abbrev LV (e : Ln) : Value := .agg (LC e)
theorem LC_size (e : Ln) : (LC e).size = 3 := rfl
theorem LC_one (e : Ln) : ∀ v ∈ (LC e).toList, v.oneCell' = true := by
 intro v hv; simp [LC] at hv; rcases hv with rfl | rfl | rfl <;> rfl
theorem cells_LV (e : Ln) : (LV e).cells = LC e := by simp [Value.cells]
theorem zero_LC : (#[.string ⟨#[]⟩, .int .i64 0, .int .i64 0] : Array Value) = LC ln0 := rfl
structure LnAt (w : World) (p : Addr) (e : Ln) : Prop where
 c0 : w.cell? p = some (.string e.sku)
 c1 : w.cell? (p.add 1) = some (.int .i64 e.qty)
 c2 : w.cell? (p.add 2) = some (.int .i64 e.parts)
def LBox (w : World) (g : Nat) (T : TypeId) (e : Ln) : Prop := w.heap[g]? = some (.cells (LC e) T (0, 0))
theorem LBox.at {w : World} {g : Nat} {T : TypeId} {e : Ln} (h : LBox w g T e) : LnAt w ⟨g, 0, none⟩ e := by
 unfold LBox at h
 refine ⟨?_, ?_, ?_⟩ <;> simp [Addr.add, World.cell?, h, LC]
theorem lbox_new (w : World) (T : TypeId) (e : Ln) : LBox (w.alloc (.cells (LC e) T)) w.heap.size T e := by unfold LBox; rw [heap_alloc_new]

def ldL (v : Value) : Sem Value := Instr.loadAt 53 v
theorem ldL_eq (v : Value) : Instr.loadAt 53 v = ldL v := rfl
def stL (p v : Value) : Sem Unit := Instr.storeAt 53 p v
theorem stL_eq (p v : Value) : Instr.storeAt 53 p v = stL p v := rfl
theorem sizeL : (Tryz.prog.info? 53).map (·.size) = some 3 := by kernel_rfl
theorem run_lvL {w : World} {p : Addr} {e : Ln} (A : LnAt w p e) : (loadVar 53 p).run Tryz.prog w = .ok (LV e) w := by
 have hl := run_loadCells_list (P := Tryz.prog) (w := w) p (LC e).toList (fun j v hv => by
  match j, hv with
  | 0, hv => cases hv; rw [add_zero]; exact A.c0
  | 1, hv => cases hv; exact A.c1
  | 2, hv => cases hv; exact A.c2
  | j + 3, hv => simp [LC] at hv)
 cases hq : Tryz.prog.info? 53 with
 | none => have := sizeL; simp [hq] at this
 | some x =>
  have hs : x.size = 3 := by have := sizeL; simpa [hq] using this
  have hagg : (isAgg 53).run Tryz.prog w = .ok true w := by
   unfold isAgg
   rw [Sem.run_bind, run_underlying Tryz.underlying53 w]
   rfl
  have e4 : (LC e).toList.length = 3 := rfl
  rw [e4] at hl
  simp [loadVar, Sem.run_bind, hagg, sizeOf, typeInfo, hq, hs, hl, LV]
theorem run_stL {w : World} {g : Nat} {T : TypeId} {e e' : Ln} (A : LBox w g T e) :
  (stL (.pointer (some ⟨g, 0, none⟩)) (LV e')).run Tryz.prog w = .ok () (w.setRow g (LC e')) := by
 unfold stL
 have h := run_storeCells_from (P := Tryz.prog) g T (LC e').toList 0 (LC e) w A (by simp [LC]) (LC_one e')
 cases hq : Tryz.prog.info? 53 with
 | none => have := sizeL; simp [hq] at this
 | some x =>
  have hs : x.size = 3 := by have := sizeL; simpa [hq] using this
  simp only [Instr.storeAt, Instr.sureAddr, Sem.run_bind, Sem.run_pure, Result.andThen, storeVar, sizeOf, typeInfo, cells_LV, LC_size]
  simp at h
  simp [h, hq, hs]
theorem LBox.setRow {w : World} {g : Nat} {T : TypeId} {e e' : Ln} (A : LBox w g T e) : LBox (w.setRow g (LC e')) g T e' := setRow_heap w g _ _ _ _ A
theorem madeL (w : World) (e : Ln) (g : Nat) (hg : w.heap.size = g) : ∃ w' : World, (stL (.pointer (some ⟨g, 0, none⟩)) (LV e)).run Tryz.prog (w.alloc (.cells (LC ln0) 53)) = .ok () w' ∧ LBox w' g 53 e ∧ Below w.heap.size w w' ∧ w'.heap.size = w.heap.size + 1 := by
 subst hg
 refine ⟨_, run_stL (lbox_new w 53 ln0), (lbox_new w 53 ln0).setRow, below_setRow (below_new w _) (Nat.le_refl _), by simp [World.setRow]⟩

def LSrc (w : World) (ao : Option Addr) (m c : Nat) (L : List Ln) : Prop :=
 L.length = m ∧ (ao = none → m = 0 ∧ c = 0) ∧ (∀ ad, ao = some ad → ∀ t, t < m → LnAt w (ad.add (t * 3)) (L.getD t ln0)) ∧ (∀ e ∈ L, e.sku.size ≤ maxLen) ∧ m ≤ 3518437208883
theorem LSrc.at {w : World} {ao : Option Addr} {m c : Nat} {L : List Ln} (h : LSrc w ao m c L) (k : Nat) (hk : k < m) : ∃ ad, ao = some ad ∧ LnAt w (ad.add (k * 3)) (L.getD k ln0) := by
 cases ao with
 | none => have := h.2.1 rfl; omega
 | some ad => exact ⟨ad, rfl, h.2.2.1 ad rfl k hk⟩
theorem LSrc.none (w : World) : LSrc w none 0 0 [] := ⟨rfl, fun _ => ⟨rfl, rfl⟩, (fun ad h => by cases h), (fun e he => by cases he), by omega⟩
def lcs (L : List Ln) : List Value := (L.map (fun e => (LC e).toList)).flatten
theorem lcs_append (L R : List Ln) : lcs (L ++ R) = lcs L ++ lcs R := by simp [lcs]
theorem lcs_one (e : Ln) : lcs [e] = (LC e).toList := by simp [lcs]
theorem lcs_at (L : List Ln) (t j : Nat) (ht : t < L.length) (hj : j < 3) : (lcs L)[t * 3 + j]? = (LC (L.getD t ln0)).toList[j]? := by
 induction L generalizing t with
 | nil => simp at ht
 | cons a L ih =>
  have e : lcs (a :: L) = (LC a).toList ++ lcs L := rfl
  cases t with
  | zero => rw [e, List.getElem?_append_left (by simp [LC]; omega)]; simp [List.getD]
  | succ t =>
   rw [e, List.getElem?_append_right (by simp [LC]; omega)]
   have h := ih t (by simpa using ht)
   have e4 : (t + 1) * 3 + j - (LC a).toList.length = t * 3 + j := by simp [LC]; omega
   rw [e4, h]; simp [List.getD]
theorem infoL : (Tryz.prog.info? 53).map (fun i => (i.zero, i.size, i.bytes)) = some (some (.agg #[.string ⟨#[]⟩, .int .i64 0, .int .i64 0]), 3, 32) := by kernel_rfl

structure OwnL (B0 B : Nat) (w w' : World) (ao : Option Addr) (cap : Nat) (acc : List Ln) : Prop where
 own : w'.ownsRow B 53 3 (.slice ao acc.length cap) acc.length (lcs acc)
 below : Below B0 w w'
 hB : B ≤ w'.heap.size
 hB0 : B0 ≤ B
theorem OwnL.nil {B0 B : Nat} {w w' : World} (hb : Below B0 w w') (hB : B ≤ w'.heap.size) (h0 : B0 ≤ B) : OwnL B0 B w w' none 0 [] :=
 ⟨World.ownsRow_nil _ _ _ _, hb, hB, h0⟩
theorem OwnL.append {B0 B : Nat} {w w' : World} {ao : Option Addr} {cap : Nat} {acc : List Ln} (O : OwnL B0 B w w' ao cap acc) (e : Ln) (C : Array Value) (hC : C = LC e) (hlen : acc.length < 3518437208883)
  {ops : Array Oper} {rest : List Oper} {o : Oper} {a : Act} {Q : Exit → Act → World → Prop} (hgd : o.guard = none) (s x : Operand) (ho : o.op = .call { callee := .builtin .append, args := #[s, x], argTypes := #[186, 186] })
  (n : Nat) (hn : acc.length = n) (hs : a.eval s = .slice ao n cap) (hx : a.eval x = .slice (some ⟨w'.heap.size, 0, none⟩) 1 1)
  (hK : ∀ (g cap2 : Nat) (w2 : World), OwnL B0 B w w2 (some ⟨g, 0, none⟩) cap2 (acc ++ [e]) → (∀ k, k < B → w2.heap[k]? = w'.heap[k]?) → wpList Tryz.prog ops Q rest (a.put o.dst (.slice (some ⟨g, 0, none⟩) (n + 1) cap2)) w2) :
  wpList Tryz.prog ops Q (o :: rest) a (w'.alloc (.cells C 53)) := by
 subst hn hC
 obtain ⟨i0, hi, hz0, hz1, hz2⟩ := info_parts infoL
 have hB := O.hB
 have hB0 := O.hB0
 refine wpList_append_own _ hgd s x 186 ho B 53 i0 (.agg #[.string ⟨#[]⟩, .int .i64 0, .int .i64 0]) 3 32 Tryz.underlying186 hi hz0 hz1 hz2 rfl (by decide) _ acc.length (lcs acc) hs (O.own.alloc _) ⟨w'.heap.size, 0, none⟩ 1 1 (LC e).toList hx (by simp [LC]) ?_ ?_ (by unfold maxLen; omega) (by omega) (by simp; omega) ?_
 ·intro j u hj
  rw [Addr.add_lit, Nat.zero_add, World.cell?_alloc_new]
  simpa using hj
 ·intro u hu
  exact LC_one e u hu
 ·intro v' w2 hown hgrow _
  rcases hown.2 with ⟨h0, h00⟩ | ⟨g, cap2, cur, hv, hbg, hgg, hnc, hcm, hcsz, htake⟩
  ·omega
  ·subst hv
   have hrow : ∀ k, (Value.slice ao acc.length cap).ownBlock = some k → B ≤ k := fun k hk => (O.own.lt k hk).1
   have hsz := hgrow.size
   rw [World.size_alloc] at hsz
   refine hK g cap2 w2 ⟨?_, (O.below.alloc (by omega) _).grown hgrow (by simp; omega) (fun k hk => by have := hrow k hk; omega), by omega, hB0⟩ (fun k hk => ?_)
   ·rw [List.length_append, lcs_append, lcs_one]; exact hown
   ·rw [hgrow.block k (by simp; omega) (fun e => by have := hrow k e.symm; omega)]
    exact Below.heap_alloc _ _ _ (by omega)
theorem OwnL.src {B0 B : Nat} {w w' : World} {ao : Option Addr} {cap : Nat} {acc : List Ln} (O : OwnL B0 B w w' ao cap acc) (hs : ∀ e ∈ acc, e.sku.size ≤ maxLen) (hl : acc.length ≤ 3518437208883) : LSrc w' ao acc.length cap acc ∧ ∀ ad, ao = some ad → B ≤ ad.block := by
 rcases O.own.2 with ⟨h0, h00⟩ | ⟨g, cap2, cur, hv, hbg, hgg, hnc, hcm, hcsz, htake⟩
 ·simp only [Value.slice.injEq] at h0
  obtain ⟨rfl, e0, rfl⟩ := h0
  exact ⟨⟨rfl, fun _ => ⟨h00, rfl⟩, fun ad h => (by cases h), hs, hl⟩, fun ad h => (by cases h)⟩
 ·simp only [Value.slice.injEq, true_and] at hv
  obtain ⟨rfl, rfl⟩ := hv
  have cell : ∀ t j, t < acc.length → j < 3 → w'.cell? ⟨g, t * 3 + j, none⟩ = (LC (acc.getD t ln0)).toList[j]? := fun t j ht hj => by
   rw [O.own.cellAt (t * 3 + j) (by omega), lcs_at _ t j ht hj]
  refine ⟨⟨rfl, fun h => (by cases h), fun ad h t ht => ?_, hs, hl⟩, fun ad h => by obtain rfl := Option.some.inj h; exact hbg⟩
  obtain rfl := Option.some.inj h
  refine ⟨?_, ?_, ?_⟩
  ·rw [Addr.add_lit, Nat.zero_add]; exact cell t 0 ht (by omega)
  ·rw [Addr.add_lit, Addr.add_lit, Nat.zero_add]; exact cell t 1 ht (by omega)
  ·rw [Addr.add_lit, Addr.add_lit, Nat.zero_add]; exact cell t 2 ht (by omega)
end Go.Proofs.YtmbkmpeongodbaaGreat.K
namespace Go.Proofs.YtmbkmpeongodbaaGreat.K
open Go.RowKit Go.Maps
attribute [local go_sem ↓] stL_eq
attribute [local go_sem] zero_LC cells_LV LC_size
theorem set_LC (t : ByteArray) (a b : Int) : ((((LC ln0).setIfInBounds 0 (.string t)).setIfInBounds 1 (.int .i64 a)).setIfInBounds 2 (.int .i64 b)) = LC ⟨t, a, b⟩ := rfl
theorem resL {fn : Func} {p : Tmp} {w : World} {g : Nat} {T : TypeId} {e : Ln} (h : fn.results = #[.cell p 53]) {tmps : Array Value} (hp : tmps.getD p undef = .pointer (some ⟨g, 0, none⟩)) (A : LBox w g T e) :
  (results fn tmps).run Tryz.prog w = .ok (LV e) w := by
 have hl := run_lvL A.at
 simp only [results, h]
 rw [Array.getD_eq_getD_getElem?] at hp
 simp [hp, asAddr, hl]
def RL (v : Value) : Option (DataW Ln × List MemPlace) :=
 match v with
 | .agg cs => (match cs.toList with
  | [.string s, .int .i64 q, .int .i64 p] => some (.held ⟨s, q, p⟩, [])
  | _ => none)
 | _ => none
theorem RL_line (l : Ln) : RL (LV l) = some (.held l, []) := rfl
theorem RL_inv {v : Value} {l : Ln} {ps : List MemPlace} (h : RL v = some (.held l, ps)) : v = LV l := by
 unfold RL at h
 split at h
 ·rename_i cs
  split at h
  ·rename_i s q p hcs
   simp at h
   obtain ⟨rfl, _⟩ := h
   show Value.agg cs = Value.agg #[.string s, .int .i64 q, .int .i64 p]
   rw [show cs = #[.string s, .int .i64 q, .int .i64 p] from Array.toList_inj.1 hcs]
  ·cases h
 ·cases h
attribute [local go_sem] set_LC
set_option maxRecDepth 100000 in
theorem with_any (l : Ln) (e : En) (w : World) (hq : 0 ≤ l.qty ∧ l.qty ≤ 16000000000000000) (hp : 0 ≤ l.parts ∧ l.parts ≤ 16000000000) (he : 1 ≤ e.qty ∧ e.qty ≤ 1000000) :
  Calls Tryz.prog 48 #[LV l, EV e] w fun x w' => x = .returned (LV (addL l e)) ∧ Below w.heap.size w w' := by
 obtain ⟨s, q, p⟩ := l
 obtain ⟨r, m, t, z⟩ := e
 have hw1 : IntKind.i64.wrap (q + z) = q + z := by simp only at hq he; rw [IntKind.wrap_i64]; omega
 have hw2 : IntKind.i64.wrap (p + 1) = p + 1 := by simp only at hp; rw [IntKind.wrap_i64]; omega
 clear hq hp he
 have B1 := hide (below_new w (.cells #[.string s, .int .i64 q, .int .i64 p] 53))
 have B2 := hide (B1.out.trans ((below_new (w.alloc (.cells #[.string s, .int .i64 q, .int .i64 p] 53)) (.cells #[.int .i64 r, .int .i64 m, .string t, .int .i64 z] 46)).mono B1.out.size))
 obtain ⟨w3, hst, X3, B3, Z3⟩ := madeL ((w.alloc (.cells #[.string s, .int .i64 q, .int .i64 p] 53)).alloc (.cells #[.int .i64 r, .int .i64 m, .string t, .int .i64 z] 46)) ⟨t, q + z, p + 1⟩ (w.heap.size + 1 + 1) (by simp)
 have HX := hide X3
 have HB := hide (B2.out.trans (B3.mono B2.out.size))
 clear X3 B3 Z3 B1 B2
 show Calls Tryz.prog 48 #[.agg #[.string s, .int .i64 q, .int .i64 p], .agg #[.int .i64 r, .int .i64 m, .string t, .int .i64 z]] w _
 go_enter Tryz.func48, Tryz.ntmps48
 go_wp2_with fail
 exact bodyPost_ret (resL Tryz.results48 rfl HX.out) rfl ⟨rfl, HB.out⟩
end Go.Proofs.YtmbkmpeongodbaaGreat.K
namespace Go.Proofs.YtmbkmpeongodbaaGreat.K
open Go.RowKit
attribute [local go_sem ↓] ld28_eq st28_eq ldL_eq stL_eq
attribute [local go_sem] zero_EC cells_EV EC_size zero_LC cells_LV LC_size
theorem chk_c (L : List En) : chk L = 0 ∨ chk L = 1 := by unfold chk; split <;> simp
def ttl : List En → Int
 | [] => 0
 | e :: r => e.qty + ttl r
theorem ttl_append (A B : List En) : ttl (A ++ B) = ttl A + ttl B := by
 induction A with
 | nil => simp [ttl]
 | cons a A ih => simp only [List.cons_append, ttl, ih]; omega
theorem ttl_bd (L : List En) (h : AllOk L) : 0 ≤ ttl L ∧ ttl L ≤ L.length * 1000000 := by
 induction L with
 | nil => simp [ttl]
 | cons a L ih =>
  have h1 := h a (by simp)
  have h2 := ih (fun e he => h e (by simp [he]))
  simp only [ttl, List.length_cons]
  omega
def totV (L : List En) : Int := if chk L = 0 then ttl L else 0
set_option maxRecDepth 100000 in
set_option maxHeartbeats 4000000 in
theorem total_any (ao : Option Addr) (n cap : Nat) (L : List En) (w : World) (hS : ESrc w ao n cap L) :
  Calls Tryz.prog 111 #[.slice ao n cap] w fun e w' => e = .returned (.tuple #[.int .i64 (totV L), .int .i64 (chk L)]) ∧ Below w.heap.size w w' := by
 have HS := hide hS
 have HL : Hid (L.length = n) := hS.1
 have hn := hS.2.2.2.2
 clear hS
 obtain ⟨v, Hv⟩ : ∃ v, Hid (totV L = v) := ⟨_, rfl⟩
 rw [Hv.out]
 go_enter Tryz.func111, Tryz.ntmps111
 go_wp2_with fail
 refine (lcheck_any ao n cap L _ HS.out).mono ?_
 rintro x w1 ⟨rfl, b1⟩
 have B1 := hide b1
 have S1 := hide (HS.out.below b1)
 clear b1
 rcases chk_c L with h | h
 ·rw [h]
  have HC := hide h
  have HF : Hid (v = ttl L) := by show _ = _; rw [← Hv.out, totV, if_pos h]
  have HA := hide (chk_all h)
  have hlen := chk_len h
  rw [HL.out] at hlen
  clear h
  go_wp2_with fail
  go_loopw [5, 15] (fun s i wr => ∃ k : Nat, k ≤ n ∧ s = .int .i64 (ttl (L.take k)) ∧ i = .int .i64 k ∧ Hid (Below w1.heap.size w1 wr)) (fun _ i _ => n - (intOf i).toNat)
  case atStart => exact ⟨0, Nat.zero_le _, rfl, rfl, Below.refl _ _⟩
  case round =>
   obtain ⟨k, hk, rfl, rfl, HB⟩ := hrel
   obtain ⟨t, Ht⟩ : ∃ t, Hid (ttl (L.take k) = t) := ⟨_, rfl⟩
   rw [Ht.out]
   by_cases hlt : k < n
   ·obtain ⟨ad, rfl, A0⟩ := (S1.out.below HB.out).at k hlt
    have hld := run_ld28 A0
    have htk := take_snoc L k (by rw [HL.out]; exact hlt)
    have hok : AllOk (L.take (k + 1)) := fun x hx => HA.out x (List.mem_of_mem_take hx)
    have hbd := ttl_bd _ hok
    have htl : (L.take (k + 1)).length = k + 1 := by rw [List.length_take, HL.out]; omega
    rw [htl, htk, ttl_append, Ht.out] at hbd
    have HN : Hid (ttl (L.take (k + 1)) = t + (L.getD k en0).qty) := by show _ = _; rw [htk, ttl_append, Ht.out]; simp [ttl]
    obtain ⟨e, He⟩ : ∃ e, Hid (L.getD k en0 = e) := ⟨_, rfl⟩
    rw [He.out] at hld A0 HN hbd
    simp only [ttl] at hbd
    have hw : IntKind.i64.wrap (t + e.qty) = t + e.qty := by rw [IntKind.wrap_i64]; omega
    obtain ⟨wk, hst, X1, B1', Z1⟩ := made wr e wr.heap.size rfl
    have c3 : wk.cell? ⟨wr.heap.size, 3, none⟩ = some (.int .i64 e.qty) := by have h := X1.at.c3; simpa [Addr.add] using h
    have HB2 := hide (HB.out.trans (B1'.mono HB.out.size))
    clear X1 B1' A0 Z1 hok hbd htl htk
    go_wp2_with fail
    go_roundw
    case rel => exact ⟨k + 1, by omega, by rw [HN.out], by go_num, HB2⟩
    case measure => simp [intOf]; omega
   ·obtain rfl : k = n := by omega
    have HT2 : Hid (t = v) := by show _ = _; rw [HF.out, ← Ht.out, List.take_of_length_le (by rw [HL.out]; exact Nat.le_refl _)]
    have HW := hide (B1.out.trans (HB.out.mono B1.out.size))
    go_wp2_with fail
    go_ret2
    exact ⟨(by rw [HT2.out, HC.out] <;> rfl), HW.out⟩
 ·rw [h]
  have HC := hide h
  have HF : Hid (v = 0) := by show _ = _; rw [← Hv.out, totV, if_neg (by rw [h]; decide)]
  clear h
  go_wp2_with fail
  go_ret2
  exact ⟨(by rw [HF.out, HC.out] <;> rfl), B1.out⟩
def lnV (L : List En) (s : ByteArray) : Ln := if ofE L s = 0 then lineOf L s else ln0
end Go.Proofs.YtmbkmpeongodbaaGreat.K
namespace Go.Proofs.YtmbkmpeongodbaaGreat
open Go.RowKit
variable {w w' : World} {g : Nat}
structure SceV where
 liveo : Option Addr
 liven : Nat
 livec : Nat
 veco : Option Addr
 vecn : Nat
 vecc : Nat
 cloudo : Option Addr
 cloudn : Nat
 cloudc : Nat
 rep : Int
 lines : Int
 count : Int
def qs0 : SceV := ⟨none, 0, 0, none, 0, 0, none, 0, 0, 0, 0, 0⟩
def QsC (m : SceV) : Array Value := #[.slice m.liveo m.liven m.livec, .slice m.veco m.vecn m.vecc, .slice m.cloudo m.cloudn m.cloudc, .int .i64 m.rep, .int .i64 m.lines, .int .i64 m.count]
abbrev QsV (m : SceV) : Value := .agg (QsC m)
theorem QsC_size (m : SceV) : (QsC m).size = 6 := rfl
theorem cells_QsV (m : SceV) : (QsV m).cells = QsC m := by simp [Value.cells]
structure QsAt (w : World) (a : Addr) (m : SceV) : Prop where
 c0 : w.cell? a = some (.slice m.liveo m.liven m.livec)
 c1 : w.cell? (a.add 1) = some (.slice m.veco m.vecn m.vecc)
 c2 : w.cell? (a.add 2) = some (.slice m.cloudo m.cloudn m.cloudc)
 c3 : w.cell? (a.add 3) = some (.int .i64 m.rep)
 c4 : w.cell? (a.add 4) = some (.int .i64 m.lines)
 c5 : w.cell? (a.add 5) = some (.int .i64 m.count)
def QsBox (w : World) (g : Nat) (m : SceV) : Prop := w.heap[g]? = some (.cells (QsC m) 83 (0, 0))
theorem QsBox.lt {m : SceV} (h : QsBox w g m) : g < w.heap.size := (Array.getElem?_eq_some_iff.1 h).1
theorem QsBox.below {m : SceV} (h : QsBox w g m) (hb : Below w.heap.size w w') : QsBox w' g m := (hb.block g h.lt).trans h
theorem QsBox.c0 {m : SceV} (h : QsBox w g m) : w.cell? ⟨g, 0, none⟩ = some (.slice m.liveo m.liven m.livec) := by unfold QsBox at h; simp [World.cell?, h, QsC]
theorem QsBox.c1 {m : SceV} (h : QsBox w g m) : w.cell? ⟨g, 1, none⟩ = some (.slice m.veco m.vecn m.vecc) := by unfold QsBox at h; simp [World.cell?, h, QsC]
theorem QsBox.c2 {m : SceV} (h : QsBox w g m) : w.cell? ⟨g, 2, none⟩ = some (.slice m.cloudo m.cloudn m.cloudc) := by unfold QsBox at h; simp [World.cell?, h, QsC]
theorem QsBox.c3 {m : SceV} (h : QsBox w g m) : w.cell? ⟨g, 3, none⟩ = some (.int .i64 m.rep) := by unfold QsBox at h; simp [World.cell?, h, QsC]
theorem QsBox.c4 {m : SceV} (h : QsBox w g m) : w.cell? ⟨g, 4, none⟩ = some (.int .i64 m.lines) := by unfold QsBox at h; simp [World.cell?, h, QsC]
theorem QsBox.c5 {m : SceV} (h : QsBox w g m) : w.cell? ⟨g, 5, none⟩ = some (.int .i64 m.count) := by unfold QsBox at h; simp [World.cell?, h, QsC]
theorem QsBox_new (w : World) (m : SceV) : QsBox (w.alloc (.cells (QsC m) 83)) w.heap.size m := by unfold QsBox; rw [heap_alloc_new]
def ldQs (v : Value) : Sem Value := Instr.loadAt 83 v
theorem ldQs_eq (v : Value) : Instr.loadAt 83 v = ldQs v := rfl
def stQs (p v : Value) : Sem Unit := Instr.storeAt 83 p v
theorem stQs_eq (p v : Value) : Instr.storeAt 83 p v = stQs p v := rfl
theorem sizeQs : (Tryz.prog.info? 83).map (·.size) = some 6 := by kernel_rfl
theorem QsBox.range {m : SceV} (h : QsBox w g m) : w.rangeAt g 0 (QsC m).toList := by
 intro j v hv
 rw [Nat.zero_add]
 unfold QsBox at h
 simp only [Array.getElem?_toList] at hv
 simp [World.cell?, h, hv]
theorem run_lvQs {m : SceV} (A : QsBox w g m) : (loadVar 83 ⟨g, 0, none⟩).run Tryz.prog w = .ok (QsV m) w := by
 have := run_loadVar_mid (P := Tryz.prog) w g 0 83 (QsC m).toList _ A.range Tryz.underlying83 rfl (by rw [sizeQs]; rfl)
 simpa using this
theorem run_ldQs {m : SceV} (A : QsBox w g m) : (ldQs (.pointer (some ⟨g, 0, none⟩))).run Tryz.prog w = .ok (.agg (QsC m)) w := by
 unfold ldQs
 simp only [Instr.loadAt, Instr.sureAddr, Sem.run_bind, Sem.run_pure, Result.andThen]
 exact run_lvQs A
structure WisV where
 liveo : Option Addr
 liven : Nat
 livec : Nat
 veco : Option Addr
 vecn : Nat
 vecc : Nat
 cloudo : Option Addr
 cloudn : Nat
 cloudc : Nat
 rep : Int
 lines : Int
 count : Int
 kind : Int
 sku : ByteArray
 qty : Int
 aveco : Option Addr
 avecn : Nat
 avecc : Nat
 acloudo : Option Addr
 acloudn : Nat
 acloudc : Nat
def wi0 : WisV := ⟨none, 0, 0, none, 0, 0, none, 0, 0, 0, 0, 0, 0, ⟨#[]⟩, 0, none, 0, 0, none, 0, 0⟩
def WiC (m : WisV) : Array Value := #[.slice m.liveo m.liven m.livec, .slice m.veco m.vecn m.vecc, .slice m.cloudo m.cloudn m.cloudc, .int .i64 m.rep, .int .i64 m.lines, .int .i64 m.count, .int .i64 m.kind, .string m.sku, .int .i64 m.qty, .slice m.aveco m.avecn m.avecc, .slice m.acloudo m.acloudn m.acloudc]
abbrev WiV (m : WisV) : Value := .agg (WiC m)
structure WiAt (w : World) (a : Addr) (m : WisV) : Prop where
 c0 : w.cell? a = some (.slice m.liveo m.liven m.livec)
 c1 : w.cell? (a.add 1) = some (.slice m.veco m.vecn m.vecc)
 c2 : w.cell? (a.add 2) = some (.slice m.cloudo m.cloudn m.cloudc)
 c3 : w.cell? (a.add 3) = some (.int .i64 m.rep)
 c4 : w.cell? (a.add 4) = some (.int .i64 m.lines)
 c5 : w.cell? (a.add 5) = some (.int .i64 m.count)
 c6 : w.cell? (a.add 6) = some (.int .i64 m.kind)
 c7 : w.cell? (a.add 7) = some (.string m.sku)
 c8 : w.cell? (a.add 8) = some (.int .i64 m.qty)
 c9 : w.cell? (a.add 9) = some (.slice m.aveco m.avecn m.avecc)
 c10 : w.cell? (a.add 10) = some (.slice m.acloudo m.acloudn m.acloudc)
def WiBox (w : World) (g : Nat) (m : WisV) : Prop := w.heap[g]? = some (.cells (WiC m) 32 (0, 0))
theorem WiBox.c0 {m : WisV} (h : WiBox w g m) : w.cell? ⟨g, 0, none⟩ = some (.slice m.liveo m.liven m.livec) := by unfold WiBox at h; simp [World.cell?, h, WiC]
theorem WiBox.c1 {m : WisV} (h : WiBox w g m) : w.cell? ⟨g, 1, none⟩ = some (.slice m.veco m.vecn m.vecc) := by unfold WiBox at h; simp [World.cell?, h, WiC]
theorem WiBox.c2 {m : WisV} (h : WiBox w g m) : w.cell? ⟨g, 2, none⟩ = some (.slice m.cloudo m.cloudn m.cloudc) := by unfold WiBox at h; simp [World.cell?, h, WiC]
theorem WiBox.c3 {m : WisV} (h : WiBox w g m) : w.cell? ⟨g, 3, none⟩ = some (.int .i64 m.rep) := by unfold WiBox at h; simp [World.cell?, h, WiC]
def ldWi (v : Value) : Sem Value := Instr.loadAt 32 v
def stWi (p v : Value) : Sem Unit := Instr.storeAt 32 p v
structure LimV where
 lines : Int
 count : Int
def lm0 : LimV := ⟨0, 0⟩
def LmC (m : LimV) : Array Value := #[.int .i64 m.lines, .int .i64 m.count]
abbrev LmV (m : LimV) : Value := .agg (LmC m)
theorem LmC_size (m : LimV) : (LmC m).size = 2 := rfl
theorem cells_LmV (m : LimV) : (LmV m).cells = LmC m := by simp [Value.cells]
structure LmAt (w : World) (a : Addr) (m : LimV) : Prop where
 c0 : w.cell? a = some (.int .i64 m.lines)
 c1 : w.cell? (a.add 1) = some (.int .i64 m.count)
def LmBox (w : World) (g : Nat) (m : LimV) : Prop := w.heap[g]? = some (.cells (LmC m) 28 (0, 0))
theorem LmBox.lt {m : LimV} (h : LmBox w g m) : g < w.heap.size := (Array.getElem?_eq_some_iff.1 h).1
theorem LmBox.below {m : LimV} (h : LmBox w g m) (hb : Below w.heap.size w w') : LmBox w' g m := (hb.block g h.lt).trans h
theorem LmBox.c0 {m : LimV} (h : LmBox w g m) : w.cell? ⟨g, 0, none⟩ = some (.int .i64 m.lines) := by unfold LmBox at h; simp [World.cell?, h, LmC]
theorem LmBox.c1 {m : LimV} (h : LmBox w g m) : w.cell? ⟨g, 1, none⟩ = some (.int .i64 m.count) := by unfold LmBox at h; simp [World.cell?, h, LmC]
theorem LmBox_new (w : World) (m : LimV) : LmBox (w.alloc (.cells (LmC m) 28)) w.heap.size m := by unfold LmBox; rw [heap_alloc_new]
def ldLm (v : Value) : Sem Value := Instr.loadAt 28 v
theorem ldLm_eq (v : Value) : Instr.loadAt 28 v = ldLm v := rfl
def stLm (p v : Value) : Sem Unit := Instr.storeAt 28 p v
theorem stLm_eq (p v : Value) : Instr.storeAt 28 p v = stLm p v := rfl
theorem sizeLm : (Tryz.prog.info? 28).map (·.size) = some 2 := by kernel_rfl
theorem LmBox.range {m : LimV} (h : LmBox w g m) : w.rangeAt g 0 (LmC m).toList := by
 intro j v hv
 rw [Nat.zero_add]
 unfold LmBox at h
 simp only [Array.getElem?_toList] at hv
 simp [World.cell?, h, hv]
theorem run_lvLm {m : LimV} (A : LmBox w g m) : (loadVar 28 ⟨g, 0, none⟩).run Tryz.prog w = .ok (LmV m) w := by
 have := run_loadVar_mid (P := Tryz.prog) w g 0 28 (LmC m).toList _ A.range Tryz.underlying28 rfl (by rw [sizeLm]; rfl)
 simpa using this
theorem run_ldLm {m : LimV} (A : LmBox w g m) : (ldLm (.pointer (some ⟨g, 0, none⟩))).run Tryz.prog w = .ok (.agg (LmC m)) w := by
 unfold ldLm
 simp only [Instr.loadAt, Instr.sureAddr, Sem.run_bind, Sem.run_pure, Result.andThen]
 exact run_lvLm A
end Go.Proofs.YtmbkmpeongodbaaGreat
namespace Go.Proofs.YtmbkmpeongodbaaGreat
open Go.RowKit
def SeenAll (L : List K.En) (P : Pst) : Prop := K.chk L = 0 ∧ InForm P ∧ ∀ e ∈ L, inB P e = true
def LimOk (ln ct : Int) : Prop := 1 ≤ ln ∧ ln ≤ 1000 ∧ 1 ≤ ct ∧ ct ≤ 1000000000
def RepOk (r : Int) : Prop := 0 ≤ r ∧ r < 16
def flS (L : List K.En) (s : ByteArray) : List K.En := L.filter (fun e => K.eqS e.sku s)
def flO (L : List K.En) (r : Int) (s : ByteArray) : List K.En := L.filter (fun e => e.rep == r && K.eqS e.sku s)
def NoF (f : Fc) : Prop := f.es = [] ∧ f.p.P = pv0.P ∧ f.rs = []
def FullF (L O : List K.En) (ln : Int) : Prop := O = [] ∧ ∃ R, K.LinesOf L R 0 ∧ ln ≤ (R.length : Int)
def ReD (P : Pst) (r ct : Int) (O : List K.En) (s : ByteArray) (q : Int) (f : Fc) (er : Int) : Prop := ∃ d x, NxF P r ct d x ∧ ((x ≠ 0 ∧ NoF f ∧ er = x) ∨ (x = 0 ∧ er = 0 ∧ f.es = [⟨d.lo, d.hi, s, q⟩] ∧ CanonOf (dotsG (O.map dotOf)) f.p.P ∧ f.rs = []))
def SetD (L : List K.En) (P : Pst) (r ln ct : Int) (s : ByteArray) (q : Int) (f : Fc) (er : Int) : Prop := (FullF L (flS L s) ln ∧ NoF f ∧ er = 12) ∨ (¬ FullF L (flS L s) ln ∧ ReD P r ct (flS L s) s q f er)
def AddD (L : List K.En) (P : Pst) (r ln ct : Int) (s : ByteArray) (q : Int) (f : Fc) (er : Int) : Prop := (FullF L (flS L s) ln ∧ NoF f ∧ er = 12) ∨ (¬ FullF L (flS L s) ln ∧ 1000000 < K.ttl (flS L s) + q ∧ NoF f ∧ er = 13) ∨ (¬ FullF L (flS L s) ln ∧ ¬ 1000000 < K.ttl (flS L s) + q ∧ ReD P r ct (flO L r s) s (q + K.ttl (flO L r s)) f er)
def GoneD (O : List K.En) (f : Fc) (er : Int) : Prop := f.es = [] ∧ f.rs = [] ∧ CanonOf (dotsG (O.map dotOf)) f.p.P ∧ er = 0
def RemD (L : List K.En) (s : ByteArray) (f : Fc) (er : Int) : Prop := (flS L s = [] ∧ NoF f ∧ er = 11) ∨ (flS L s ≠ [] ∧ GoneD (flS L s) f er)
def RecD (s : ByteArray) (A : Pst) (f : Fc) (er : Int) : Prop := er = 0 ∧ ((EmptyP A ∧ NoF f) ∨ (¬ EmptyP A ∧ f.es = [] ∧ f.p.P = pv0.P ∧ ∃ rc : Rc, f.rs = [rc] ∧ rc.s = s ∧ CanonOf (runsAt A) rc.p.P))
def RuD (L : List K.En) (P : Pst) (r ln ct k : Int) (s : ByteArray) (q : Int) (A : Pst) (f : Fc) (er : Int) : Prop := (k = 1 ∧ SetD L P r ln ct s q f er) ∨ (k = 2 ∧ AddD L P r ln ct s q f er) ∨ (k = 3 ∧ RemD L s f er) ∨ (k = 4 ∧ RecD s A f er) ∨ (k = 5 ∧ GoneD L f er) ∨ (k = 6 ∧ RecD ⟨#[]⟩ A f er)
def DeD (L : List K.En) (P : Pst) (r ln ct k : Int) (s : ByteArray) (q : Int) (A : Pst) (f : Fc) (er : Int) : Prop := (¬ SeenAll L P ∧ NoF f ∧ er = 1) ∨ (SeenAll L P ∧ ((¬ RepOk r ∧ NoF f ∧ er = 3) ∨ (RepOk r ∧ ((¬ LimOk ln ct ∧ NoF f ∧ er = 2) ∨ (LimOk ln ct ∧ ((AckOf k A s q er ∧ er ≠ 0 ∧ NoF f) ∨ (AckOf k A s q 0 ∧ RuD L P r ln ct k s q A f er)))))))
def SameF (f f' : Fc) : Prop := f.es = f'.es ∧ f.p.P = f'.p.P ∧ f.rs.map (fun r => (r.s, r.p.P)) = f'.rs.map (fun r => (r.s, r.p.P))
theorem NoF.same {f f' : Fc} (h : NoF f) (h' : NoF f') : SameF f f' := ⟨h.1.trans h'.1.symm, h.2.1.trans h'.2.1.symm, by rw [h.2.2, h'.2.2]⟩
theorem canon_one {G : Nat → List Rn} {P P' : Pst} (h : CanonOf G P) (h' : CanonOf G P') : P = P' := h.unique h' (fun _ _ _ => Iff.rfl)
theorem ReD.one {P : Pst} {r ct : Int} {O : List K.En} {s : ByteArray} {q er er' : Int} {f f' : Fc} (h : ReD P r ct O s q f er) (h' : ReD P r ct O s q f' er') : er = er' ∧ SameF f f' := by
 obtain ⟨d, x, hd, h⟩ := h
 obtain ⟨d', x', hd', h'⟩ := h'
 obtain ⟨rfl, rfl⟩ := hd.unique hd'
 rcases h with ⟨h1, h2, rfl⟩ | ⟨h1, rfl, h2, h3, h4⟩ <;> rcases h' with ⟨k1, k2, rfl⟩ | ⟨k1, rfl, k2, k3, k4⟩
 ·exact ⟨rfl, h2.same k2⟩
 ·exact absurd k1 h1
 ·exact absurd h1 k1
 ·exact ⟨rfl, h2.trans k2.symm, canon_one h3 k3, by rw [h4, k4]⟩
theorem SetD.one {L : List K.En} {P : Pst} {r ln ct : Int} {s : ByteArray} {q er er' : Int} {f f' : Fc} (h : SetD L P r ln ct s q f er) (h' : SetD L P r ln ct s q f' er') : er = er' ∧ SameF f f' := by
 rcases h with ⟨h1, h2, rfl⟩ | ⟨h1, h2⟩ <;> rcases h' with ⟨k1, k2, rfl⟩ | ⟨k1, k2⟩
 ·exact ⟨rfl, h2.same k2⟩
 ·exact absurd h1 k1
 ·exact absurd k1 h1
 ·exact h2.one k2
theorem AddD.one {L : List K.En} {P : Pst} {r ln ct : Int} {s : ByteArray} {q er er' : Int} {f f' : Fc} (h : AddD L P r ln ct s q f er) (h' : AddD L P r ln ct s q f' er') : er = er' ∧ SameF f f' := by
 rcases h with ⟨h1, h2, rfl⟩ | ⟨h1, h3, h2, rfl⟩ | ⟨h1, h3, h2⟩ <;> rcases h' with ⟨k1, k2, rfl⟩ | ⟨k1, k3, k2, rfl⟩ | ⟨k1, k3, k2⟩ <;> first | exact ⟨rfl, NoF.same (by assumption) (by assumption)⟩ | exact absurd h1 k1 | exact absurd k1 h1 | exact absurd h3 k3 | exact absurd k3 h3 | exact h2.one k2
theorem GoneD.one {O : List K.En} {er er' : Int} {f f' : Fc} (h : GoneD O f er) (h' : GoneD O f' er') : er = er' ∧ SameF f f' :=
 ⟨h.2.2.2.trans h'.2.2.2.symm, h.1.trans h'.1.symm, canon_one h.2.2.1 h'.2.2.1, by rw [h.2.1, h'.2.1]⟩
theorem RemD.one {L : List K.En} {s : ByteArray} {er er' : Int} {f f' : Fc} (h : RemD L s f er) (h' : RemD L s f' er') : er = er' ∧ SameF f f' := by
 rcases h with ⟨h1, h2, rfl⟩ | ⟨h1, h2⟩ <;> rcases h' with ⟨k1, k2, rfl⟩ | ⟨k1, k2⟩
 ·exact ⟨rfl, h2.same k2⟩
 ·exact absurd h1 k1
 ·exact absurd k1 h1
 ·exact h2.one k2
theorem RecD.one {s : ByteArray} {A : Pst} {er er' : Int} {f f' : Fc} (h : RecD s A f er) (h' : RecD s A f' er') : er = er' ∧ SameF f f' := by
 obtain ⟨rfl, h⟩ := h
 obtain ⟨rfl, h'⟩ := h'
 refine ⟨rfl, ?_⟩
 rcases h with ⟨h1, h2⟩ | ⟨h1, h2, h3, rc, h4, h5, h6⟩ <;> rcases h' with ⟨k1, k2⟩ | ⟨k1, k2, k3, rc', k4, k5, k6⟩
 ·exact h2.same k2
 ·exact absurd h1 k1
 ·exact absurd k1 h1
 ·exact ⟨h2.trans k2.symm, h3.trans k3.symm, by rw [h4, k4]; simp only [List.map_cons, List.map_nil]; rw [h5, k5, canon_one h6 k6]⟩
theorem RuD.one {L : List K.En} {P A : Pst} {r ln ct k : Int} {s : ByteArray} {q er er' : Int} {f f' : Fc} (h : RuD L P r ln ct k s q A f er) (h' : RuD L P r ln ct k s q A f' er') : er = er' ∧ SameF f f' := by
 rcases h with ⟨e, h⟩ | ⟨e, h⟩ | ⟨e, h⟩ | ⟨e, h⟩ | ⟨e, h⟩ | ⟨e, h⟩ <;> rcases h' with ⟨e', h'⟩ | ⟨e', h'⟩ | ⟨e', h'⟩ | ⟨e', h'⟩ | ⟨e', h'⟩ | ⟨e', h'⟩ <;> first | exact SetD.one h h' | exact AddD.one h h' | exact RemD.one h h' | exact RecD.one h h' | exact GoneD.one h h' | (exfalso; omega)
theorem DeD.one {L : List K.En} {P A : Pst} {r ln ct k : Int} {s : ByteArray} {q er er' : Int} {f f' : Fc} (h : DeD L P r ln ct k s q A f er) (h' : DeD L P r ln ct k s q A f' er') : er = er' ∧ SameF f f' := by
 rcases h with ⟨h1, h2, rfl⟩ | ⟨h1, h⟩ <;> rcases h' with ⟨k1, k2, rfl⟩ | ⟨k1, h'⟩
 ·exact ⟨rfl, h2.same k2⟩
 ·exact absurd k1 h1
 ·exact absurd h1 k1
 rcases h with ⟨h1, h2, rfl⟩ | ⟨h1, h⟩ <;> rcases h' with ⟨k1, k2, rfl⟩ | ⟨k1, h'⟩
 ·exact ⟨rfl, h2.same k2⟩
 ·exact absurd k1 h1
 ·exact absurd h1 k1
 rcases h with ⟨h1, h2, rfl⟩ | ⟨h1, h⟩ <;> rcases h' with ⟨k1, k2, rfl⟩ | ⟨k1, h'⟩
 ·exact ⟨rfl, h2.same k2⟩
 ·exact absurd k1 h1
 ·exact absurd h1 k1
 rcases h with ⟨h1, h2, h3⟩ | ⟨h1, h⟩ <;> rcases h' with ⟨k1, k2, k3⟩ | ⟨k1, h'⟩
 ·exact ⟨h1.unique k1, h3.same k3⟩
 ·exact absurd (h1.unique k1) h2
 ·exact absurd (k1.unique h1) k2
 ·exact h.one h'
structure FNew (N : Nat) (f : Fc) : Prop where
 a : ∀ ad, f.ao = some ad → N ≤ ad.block
 p : PNew N f.p
 r : ∀ ad, f.ro = some ad → N ≤ ad.block
 q : ∀ c ∈ f.rs, PNew N c.p
theorem FNew.mono {N M : Nat} {f : Fc} (h : FNew N f) (hm : M ≤ N) : FNew M f := ⟨fun ad e => Nat.le_trans hm (h.a ad e), h.p.mono hm, fun ad e => Nat.le_trans hm (h.r ad e), fun c hc => (h.q c hc).mono hm⟩
def DeA (w w' : World) (e : Ending) (D : Fc → Int → Prop) : Prop := ∃ f er, e = .returned (.tuple #[FaV (mkF f), .int .i64 er]) ∧ FcOk w' f ∧ FNew w.heap.size f ∧ Below w.heap.size w w' ∧ D f er
structure Scn where
 ao : Option Addr
 n : Nat
 c : Nat
 L : List K.En
 p : Pv
 r : Int
 ln : Int
 ct : Int
def mkQ (q : Scn) : SceV := ⟨q.ao, q.n, q.c, q.p.vo, q.p.vn, q.p.vc, q.p.co, q.p.cn, q.p.cc, q.r, q.ln, q.ct⟩
structure ScnOk (w : World) (q : Scn) : Prop where
 live : K.ESrc w q.ao q.n q.c q.L
 p : PSrc w q.p
theorem ScnOk.below {w w' : World} {q : Scn} (h : ScnOk w q) (hb : Below w.heap.size w w') : ScnOk w' q := ⟨h.live.below hb, h.p.below hb⟩
theorem QsBox.live {w : World} {g : Nat} {q : Scn} (h : QsBox w g (mkQ q)) : w.cell? ⟨g, 0, none⟩ = some (.slice q.ao q.n q.c) := h.c0
theorem QsBox.past {w : World} {g : Nat} {q : Scn} (h : QsBox w g (mkQ q)) : PAt w ⟨g, 1, none⟩ q.p := ⟨h.c1, h.c2⟩
theorem QsBox.rest {w : World} {g : Nat} {q : Scn} (h : QsBox w g (mkQ q)) : w.cell? ⟨g, 3, none⟩ = some (.int .i64 q.r) ∧ w.cell? ⟨g, 4, none⟩ = some (.int .i64 q.ln) ∧ w.cell? ⟨g, 5, none⟩ = some (.int .i64 q.ct) := ⟨h.c3, h.c4, h.c5⟩
def fc0 : Fc := ⟨none, 0, 0, [], pv0, none, 0, 0, []⟩
theorem fc0_ok (w : World) : FcOk w fc0 := ⟨⟨rfl, fun _ => ⟨rfl, rfl⟩, fun ad h => (by cases h), fun e he => (by cases he), Nat.zero_le _⟩, PSrc.zero w, RcS.empty w⟩
theorem fc0_no : NoF fc0 := ⟨rfl, rfl, rfl⟩
theorem pnew_zero (N : Nat) : PNew N pv0 := ⟨fun ad h => (by cases h), fun ad h => (by cases h)⟩
theorem fc0_new (N : Nat) : FNew N fc0 := ⟨fun ad h => (by cases h), pnew_zero N, fun ad h => (by cases h), fun c hc => (by cases hc)⟩
end Go.Proofs.YtmbkmpeongodbaaGreat
namespace Go.Proofs.YtmbkmpeongodbaaGreat
open Go.RowKit
attribute [local go_sem ↓] ldP_eq stP_eq ldRe_eq stRe_eq ldD_eq stD_eq K.ld28_eq K.st28_eq K.run_eq28
attribute [local go_sem] cells_PV PC_size cells_ReV ReC_size K.cells_EV K.EC_size zero_ReC K.zero_EC
theorem list_ext {s u : ByteArray} (h : s.toList = u.toList) : s = u := by
 rw [ByteArray.toList_eq, ByteArray.toList_eq] at h
 exact ByteArray.ext (Array.ext' h)
theorem eqE_iff (x y : K.En) : K.eqE x y = true ↔ x = y := by
 obtain ⟨a, b, s, q⟩ := x
 obtain ⟨a', b', s', q'⟩ := y
 simp only [K.eqE, Bool.and_eq_true, beq_iff_eq, K.En.mk.injEq]
 constructor
 ·rintro ⟨⟨⟨h1, h2⟩, h3⟩, h4⟩
  exact ⟨h1, h2, list_ext h3, h4⟩
 ·rintro ⟨h1, h2, h3, h4⟩
  exact ⟨⟨⟨h1, h2⟩, by rw [h3]⟩, h4⟩
theorem below_drewB {n : Nat} {w W : World} (h : Below n w W) : Below n w W.drew := ⟨h.os, h.tape, h.output, h.size, h.block⟩
set_option maxRecDepth 100000 in
set_option maxHeartbeats 1600000 in
theorem entries08_any (ao bo : Option Addr) (n m ca cb : Nat) (L M : List K.En) (w : World) (hL : K.ESrc w ao n ca L) (hM : K.ESrc w bo m cb M) : Calls Tryz.prog 35 #[.slice ao n ca, .slice bo m cb] w fun e w' => GivesB w w' e (L = M) := by
 have HL := hide hL
 have HM := hide hM
 have hn := hL.2.2.2.2
 have hm := hM.2.2.2.2
 have HLl : Hid (L.length = n ∧ M.length = m) := ⟨hL.1, hM.1⟩
 clear hL hM
 by_cases hnm : n = m
 ·subst hnm
  go_enter Tryz.func35, Tryz.ntmps35
  go_wp2_with fail
  go_loopw [5] (fun i wr => ∃ k : Nat, k ≤ n ∧ i = .int .i64 k ∧ Hid (L.take k = M.take k ∧ Below w.heap.size w wr)) (fun i _ => n - (intOf i).toNat)
  case atStart => exact ⟨0, Nat.zero_le _, rfl, rfl, Below.refl _ _⟩
  case round =>
   obtain ⟨k, hk, rfl, HK⟩ := hrel
   rename World => wr
   by_cases hlt : k < n
   ·obtain ⟨ad, rfl, A0⟩ := (HL.out.below HK.out.2).at k hlt
    obtain ⟨bd, rfl, B0⟩ := (HM.out.below HK.out.2).at k hlt
    obtain ⟨x, Hx⟩ : ∃ x, Hid (L.getD k K.en0 = x) := ⟨_, rfl⟩
    obtain ⟨y, Hy⟩ : ∃ y, Hid (M.getD k K.en0 = y) := ⟨_, rfl⟩
    rw [Hx.out] at A0
    rw [Hy.out] at B0
    have HA := hide A0
    have HB := hide B0
    clear A0 B0
    have HTk : Hid (L.take (k + 1) = L.take k ++ [x] ∧ M.take (k + 1) = M.take k ++ [y]) := ⟨by rw [K.take_snoc L k (by have := HLl.out; omega), Hx.out], by rw [K.take_snoc M k (by have := HLl.out; omega), Hy.out]⟩
    have Hlt := hide hlt
    go_upto_region 6 with fail
    refine wp_region_held_drew (S := fun v => (K.ld28 (.pointer (some (ad.add (k * 4))))).run Tryz.prog v = .ok (K.EV x) v ∧ (K.ld28 (.pointer (some (bd.add (k * 4))))).run Tryz.prog v = .ok (K.EV y) v) (by kernel_rfl) (⟨K.run_ld28 (HA.out.on (below_drew1 wr)), K.run_ld28 (HB.out.on (below_drew1 wr))⟩) (fun hHeld => ?_)
    refine wTk 0 ⟨some 17, .move (.tmp 0), 22, "law.go:33", #[], none⟩ rfl ?_
    refine wTk 1 ⟨some 18, .move (.tmp 5), 3, "law.go:33", #[], none⟩ rfl ?_
    refine wTk 2 ⟨some 19, .indexAddr 22 (.tmp 17) (.tmp 18), 0, "law.go:33", #[⟨0, .data⟩, ⟨1, .data⟩], none⟩ rfl ?_
    refine wTk 3 ⟨some 20, .load 46 (.tmp 19), 46, "law.go:33", #[⟨2, .data⟩], none⟩ rfl ?_
    refine wTk 4 ⟨some 21, .move (.tmp 1), 22, "law.go:33", #[], none⟩ rfl ?_
    refine wTk 5 ⟨some 22, .move (.tmp 5), 3, "law.go:33", #[], none⟩ rfl ?_
    refine wTk 6 ⟨some 23, .indexAddr 22 (.tmp 21) (.tmp 22), 0, "law.go:33", #[⟨4, .data⟩, ⟨5, .data⟩], none⟩ rfl ?_
    refine wTk 7 ⟨some 24, .load 46 (.tmp 23), 46, "law.go:33", #[⟨6, .data⟩], none⟩ rfl ?_
    cases hxy : K.eqE x y with
    | false =>
     refine wTk 8 ⟨some 25, .binOp .neq 46 (.tmp 20) (.tmp 24) 46, 4, "law.go:33", #[⟨3, .data⟩, ⟨7, .data⟩], none⟩ rfl ?_
     refine wpAnyH_done (by kernel_rfl) ?_ _
     clear hHeld
     have HF : Hid (GivesB w wr.drew (.returned (.bool false)) (L = M)) := by
      refine ⟨false, rfl, ⟨(fun h => by cases h), fun h => ?_⟩, below_drewB HK.out.2⟩
      have : x = y := by rw [← Hx.out, ← Hy.out, h]
      rw [(eqE_iff x y).2 this] at hxy
      cases hxy
     clear hxy
     go_wp2_with fail
     go_ret
     exact HF.out
    | true =>
     refine wTk 8 ⟨some 25, .binOp .neq 46 (.tmp 20) (.tmp 24) 46, 4, "law.go:33", #[⟨3, .data⟩, ⟨7, .data⟩], none⟩ rfl ?_
     refine wpAnyH_done (by kernel_rfl) ?_ _
     clear hHeld
     have HE : Hid (L.take (k + 1) = M.take (k + 1)) := by show _ = _; rw [HTk.out.1, HTk.out.2, HK.out.1, (eqE_iff x y).1 hxy]
     clear hxy
     go_wp2_with fail
     go_roundw
     case rel => exact ⟨k + 1, by omega, by simp, HE.out, below_drewB HK.out.2⟩
     case measure => simp [intOf]; omega
   ·obtain rfl : k = n := by omega
    have HF : Hid (GivesB w wr (.returned (.bool true)) (L = M)) := by
     refine ⟨true, rfl, ⟨fun _ => ?_, fun _ => rfl⟩, HK.out.2⟩
     have h := HK.out.1
     rw [List.take_of_length_le (by have := HLl.out; omega), List.take_of_length_le (by have := HLl.out; omega)] at h
     exact h
    go_wp2_with fail
    go_ret
    exact HF.out
 ·have hne : ((n : Int) != (m : Int)) = true := by simp; omega
  have HF : Hid (GivesB w w (.returned (.bool false)) (L = M)) := ⟨false, rfl, ⟨(fun h => by cases h), fun h => by rw [h] at HLl; have := HLl.out; omega⟩, Below.refl _ _⟩
  go_enter Tryz.func35, Tryz.ntmps35
  go_wp2_with fail
  go_ret
  exact HF.out
end Go.Proofs.YtmbkmpeongodbaaGreat
