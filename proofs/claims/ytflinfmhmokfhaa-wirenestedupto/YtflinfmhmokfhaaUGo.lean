/- Structs in memory (genstruct.py). -/
import Derived.Test.YtflinfmhmokfhaaUBe
import Derived.Deep.MidRow
import Derived.Laws.CopyOwn
import Derived.Lib.OthersKept
namespace Go.Proofs.Ytflinfmhmokfhaa
open Go.RowKit
theorem add_nought (p : Addr) : p.add 0 = p := by unfold Addr.add; split <;> simp_all
theorem below_setRow {w w' : World} {n g : Nat} {cs : Array Value} (h : Below n w w') (hg : n ≤ g) : Below n w (w'.setRow g cs) :=
  h.trans ⟨rfl, rfl, rfl, by simp [World.setRow], fun k hk => setRow_other _ _ _ _ (by omega)⟩
variable {w w' : World} {g : Nat}
structure Got where
  n : Int
  b : Bool
  s : ByteArray
def g0 : Got := ⟨0, false, ⟨#[]⟩⟩
def GC (m : Got) : Array Value := #[.int .i64 m.n, .bool m.b, .string m.s]
abbrev GV (m : Got) : Value := .agg (GC m)
theorem GC_size (m : Got) : (GC m).size = 3 := rfl
theorem GC_one (m : Got) : ∀ v ∈ (GC m).toList, v.oneCell' = true := by
  intro v hv; simp [GC] at hv; rcases hv with rfl | rfl | rfl <;> rfl
theorem cells_GV (m : Got) : (GV m).cells = GC m := by simp [Value.cells]
structure GAt (w : World) (a : Addr) (m : Got) : Prop where
  c0 : w.cell? a = some (.int .i64 m.n)
  c1 : w.cell? (a.add 1) = some (.bool m.b)
  c2 : w.cell? (a.add 2) = some (.string m.s)
theorem GAt.on {a : Addr} {m : Got} (S : GAt w a m) (hb : Below w.heap.size w w') : GAt w' a m := by
  have h0 := World.block_lt_of_cell? _ _ S.c0
  exact ⟨by rw [hb.cell h0]; exact S.c0, by rw [hb.cell (by rw [block_of_add]; exact h0)]; exact S.c1, by rw [hb.cell (by rw [block_of_add]; exact h0)]; exact S.c2⟩
def GBox (w : World) (g : Nat) (m : Got) : Prop := w.heap[g]? = some (.cells (GC m) 29 (0, 0))
theorem GBox.lt {m : Got} (h : GBox w g m) : g < w.heap.size := (Array.getElem?_eq_some_iff.1 h).1
theorem GBox.below {m : Got} (h : GBox w g m) (hb : Below w.heap.size w w') : GBox w' g m := (hb.block g h.lt).trans h
theorem GBox.c0 {m : Got} (h : GBox w g m) : w.cell? ⟨g, 0, none⟩ = some (.int .i64 m.n) := by unfold GBox at h; simp [World.cell?, h, GC]
theorem GBox.c1 {m : Got} (h : GBox w g m) : w.cell? ⟨g, 1, none⟩ = some (.bool m.b) := by unfold GBox at h; simp [World.cell?, h, GC]
theorem GBox.c2 {m : Got} (h : GBox w g m) : w.cell? ⟨g, 2, none⟩ = some (.string m.s) := by unfold GBox at h; simp [World.cell?, h, GC]
theorem GBox_new (w : World) (m : Got) : GBox (w.alloc (.cells (GC m) 29)) w.heap.size m := by unfold GBox; rw [heap_alloc_new]
def ldG (v : Value) : Sem Value := Instr.loadAt 29 v
theorem ldG_eq (v : Value) : Instr.loadAt 29 v = ldG v := rfl
def stG (p v : Value) : Sem Unit := Instr.storeAt 29 p v
theorem stG_eq (p v : Value) : Instr.storeAt 29 p v = stG p v := rfl
theorem sizeG : (Try.prog.info? 29).map (·.size) = some 3 := by kernel_rfl
theorem GBox.range {m : Got} (h : GBox w g m) : w.rangeAt g 0 (GC m).toList := by
  intro j v hv
  rw [Nat.zero_add]
  unfold GBox at h
  simp only [Array.getElem?_toList] at hv
  simp [World.cell?, h, hv]
theorem run_lvG {m : Got} (A : GBox w g m) : (loadVar 29 ⟨g, 0, none⟩).run Try.prog w = .ok (GV m) w := by
  have := run_loadVar_mid (P := Try.prog) w g 0 29 (GC m).toList _ A.range Try.underlying29 rfl (by rw [sizeG]; rfl)
  simpa using this
theorem run_ldG {m : Got} (A : GBox w g m) : (ldG (.pointer (some ⟨g, 0, none⟩))).run Try.prog w = .ok (.agg (GC m)) w := by
  unfold ldG
  simp only [Instr.loadAt, Instr.sureAddr, Sem.run_bind, Sem.run_pure, Result.andThen]
  exact run_lvG A
theorem run_laG {a : Addr} {m : Got} (A : GAt w a m) : (ldG (.pointer (some a))).run Try.prog w = .ok (.agg (GC m)) w := by
  have hl := run_loadCells_list (P := Try.prog) (w := w) a (GC m).toList (fun j v hv => by
    match j, hv with
    | 0, hv => cases hv; rw [add_nought]; exact A.c0
    | 1, hv => cases hv; exact A.c1
    | 2, hv => cases hv; exact A.c2
    | j + 3, hv => simp [GC] at hv)
  unfold ldG
  simp only [Instr.loadAt, Instr.sureAddr, Sem.run_bind, Sem.run_pure, Result.andThen]
  cases hq : Try.prog.info? 29 with
  | none => have := sizeG; simp [hq] at this
  | some x =>
    have hs : x.size = 3 := by have := sizeG; simpa [hq] using this
    have hagg : (isAgg 29).run Try.prog w = .ok true w := by
      unfold isAgg
      rw [Sem.run_bind, run_underlying Try.underlying29 w]
      rfl
    have e2 : (GC m).toList.length = 3 := rfl
    rw [e2] at hl
    simp [loadVar, Sem.run_bind, hagg, sizeOf, typeInfo, hq, hs, hl]
theorem run_stG {m m' : Got} (A : GBox w g m) : (stG (.pointer (some ⟨g, 0, none⟩)) (.agg (GC m'))).run Try.prog w = .ok () (w.setRow g (GC m')) := by
  unfold stG
  have h := run_storeCells_from (P := Try.prog) g 29 (GC m').toList 0 (GC m) w A (by simp [GC]) (GC_one m')
  cases hq : Try.prog.info? 29 with
  | none => have := sizeG; simp [hq] at this
  | some x =>
    have hs : x.size = 3 := by have := sizeG; simpa [hq] using this
    simp only [Instr.storeAt, Instr.sureAddr, Sem.run_bind, Sem.run_pure, Result.andThen, storeVar, sizeOf, typeInfo, cells_GV, GC_size]
    simp at h
    simp [h, hq, hs]
theorem GBox.setRow {m m' : Got} (A : GBox w g m) : GBox (w.setRow g (GC m')) g m' := setRow_heap w g _ _ _ _ A
theorem madeG (w : World) (m : Got) (g : Nat) (hg : w.heap.size = g) : ∃ w' : World, (stG (.pointer (some ⟨g, 0, none⟩)) (.agg (GC m))).run Try.prog (w.alloc (.cells (GC g0) 29)) = .ok () w' ∧ GBox w' g m ∧ Below w.heap.size w w' ∧ w'.heap.size = w.heap.size + 1 := by
  subst hg
  refine ⟨_, run_stG (GBox_new w _), (GBox_new w _).setRow, below_setRow (below_new w _) (Nat.le_refl _), by simp [World.setRow]⟩
theorem res1G {m : Got} {fn : Func} {p : Tmp} (h : fn.results = #[.cell p 29]) {tmps : Array Value} (hp : tmps.getD p undef = .pointer (some ⟨g, 0, none⟩)) (A : GBox w g m) :
    (results fn tmps).run Try.prog w = .ok (GV m) w := by
  have hl := run_lvG A
  simp only [results, h]
  rw [Array.getD_eq_getD_getElem?] at hp
  simp [hp, asAddr, hl]
structure Ask where
  kind : Int
  n : Int
def k0 : Ask := ⟨0, 0⟩
def KC (m : Ask) : Array Value := #[.int .i64 m.kind, .int .i64 m.n]
abbrev KV (m : Ask) : Value := .agg (KC m)
theorem KC_size (m : Ask) : (KC m).size = 2 := rfl
theorem KC_one (m : Ask) : ∀ v ∈ (KC m).toList, v.oneCell' = true := by
  intro v hv; simp [KC] at hv; rcases hv with rfl | rfl <;> rfl
theorem cells_KV (m : Ask) : (KV m).cells = KC m := by simp [Value.cells]
structure KAt (w : World) (a : Addr) (m : Ask) : Prop where
  c0 : w.cell? a = some (.int .i64 m.kind)
  c1 : w.cell? (a.add 1) = some (.int .i64 m.n)
theorem KAt.on {a : Addr} {m : Ask} (S : KAt w a m) (hb : Below w.heap.size w w') : KAt w' a m := by
  have h0 := World.block_lt_of_cell? _ _ S.c0
  exact ⟨by rw [hb.cell h0]; exact S.c0, by rw [hb.cell (by rw [block_of_add]; exact h0)]; exact S.c1⟩
def KBox (w : World) (g : Nat) (m : Ask) : Prop := w.heap[g]? = some (.cells (KC m) 32 (0, 0))
theorem KBox.lt {m : Ask} (h : KBox w g m) : g < w.heap.size := (Array.getElem?_eq_some_iff.1 h).1
theorem KBox.below {m : Ask} (h : KBox w g m) (hb : Below w.heap.size w w') : KBox w' g m := (hb.block g h.lt).trans h
theorem KBox.c0 {m : Ask} (h : KBox w g m) : w.cell? ⟨g, 0, none⟩ = some (.int .i64 m.kind) := by unfold KBox at h; simp [World.cell?, h, KC]
theorem KBox.c1 {m : Ask} (h : KBox w g m) : w.cell? ⟨g, 1, none⟩ = some (.int .i64 m.n) := by unfold KBox at h; simp [World.cell?, h, KC]
theorem KBox_new (w : World) (m : Ask) : KBox (w.alloc (.cells (KC m) 32)) w.heap.size m := by unfold KBox; rw [heap_alloc_new]
def ldK (v : Value) : Sem Value := Instr.loadAt 32 v
theorem ldK_eq (v : Value) : Instr.loadAt 32 v = ldK v := rfl
def stK (p v : Value) : Sem Unit := Instr.storeAt 32 p v
theorem stK_eq (p v : Value) : Instr.storeAt 32 p v = stK p v := rfl
theorem sizeK : (Try.prog.info? 32).map (·.size) = some 2 := by kernel_rfl
theorem KBox.range {m : Ask} (h : KBox w g m) : w.rangeAt g 0 (KC m).toList := by
  intro j v hv
  rw [Nat.zero_add]
  unfold KBox at h
  simp only [Array.getElem?_toList] at hv
  simp [World.cell?, h, hv]
theorem run_lvK {m : Ask} (A : KBox w g m) : (loadVar 32 ⟨g, 0, none⟩).run Try.prog w = .ok (KV m) w := by
  have := run_loadVar_mid (P := Try.prog) w g 0 32 (KC m).toList _ A.range Try.underlying32 rfl (by rw [sizeK]; rfl)
  simpa using this
theorem run_ldK {m : Ask} (A : KBox w g m) : (ldK (.pointer (some ⟨g, 0, none⟩))).run Try.prog w = .ok (.agg (KC m)) w := by
  unfold ldK
  simp only [Instr.loadAt, Instr.sureAddr, Sem.run_bind, Sem.run_pure, Result.andThen]
  exact run_lvK A
theorem run_laK {a : Addr} {m : Ask} (A : KAt w a m) : (ldK (.pointer (some a))).run Try.prog w = .ok (.agg (KC m)) w := by
  have hl := run_loadCells_list (P := Try.prog) (w := w) a (KC m).toList (fun j v hv => by
    match j, hv with
    | 0, hv => cases hv; rw [add_nought]; exact A.c0
    | 1, hv => cases hv; exact A.c1
    | j + 2, hv => simp [KC] at hv)
  unfold ldK
  simp only [Instr.loadAt, Instr.sureAddr, Sem.run_bind, Sem.run_pure, Result.andThen]
  cases hq : Try.prog.info? 32 with
  | none => have := sizeK; simp [hq] at this
  | some x =>
    have hs : x.size = 2 := by have := sizeK; simpa [hq] using this
    have hagg : (isAgg 32).run Try.prog w = .ok true w := by
      unfold isAgg
      rw [Sem.run_bind, run_underlying Try.underlying32 w]
      rfl
    have e2 : (KC m).toList.length = 2 := rfl
    rw [e2] at hl
    simp [loadVar, Sem.run_bind, hagg, sizeOf, typeInfo, hq, hs, hl]
theorem run_stK {m m' : Ask} (A : KBox w g m) : (stK (.pointer (some ⟨g, 0, none⟩)) (.agg (KC m'))).run Try.prog w = .ok () (w.setRow g (KC m')) := by
  unfold stK
  have h := run_storeCells_from (P := Try.prog) g 32 (KC m').toList 0 (KC m) w A (by simp [KC]) (KC_one m')
  cases hq : Try.prog.info? 32 with
  | none => have := sizeK; simp [hq] at this
  | some x =>
    have hs : x.size = 2 := by have := sizeK; simpa [hq] using this
    simp only [Instr.storeAt, Instr.sureAddr, Sem.run_bind, Sem.run_pure, Result.andThen, storeVar, sizeOf, typeInfo, cells_KV, KC_size]
    simp at h
    simp [h, hq, hs]
theorem KBox.setRow {m m' : Ask} (A : KBox w g m) : KBox (w.setRow g (KC m')) g m' := setRow_heap w g _ _ _ _ A
theorem madeK (w : World) (m : Ask) (g : Nat) (hg : w.heap.size = g) : ∃ w' : World, (stK (.pointer (some ⟨g, 0, none⟩)) (.agg (KC m))).run Try.prog (w.alloc (.cells (KC k0) 32)) = .ok () w' ∧ KBox w' g m ∧ Below w.heap.size w w' ∧ w'.heap.size = w.heap.size + 1 := by
  subst hg
  refine ⟨_, run_stK (KBox_new w _), (KBox_new w _).setRow, below_setRow (below_new w _) (Nat.le_refl _), by simp [World.setRow]⟩
theorem res1K {m : Ask} {fn : Func} {p : Tmp} (h : fn.results = #[.cell p 32]) {tmps : Array Value} (hp : tmps.getD p undef = .pointer (some ⟨g, 0, none⟩)) (A : KBox w g m) :
    (results fn tmps).run Try.prog w = .ok (KV m) w := by
  have hl := run_lvK A
  simp only [results, h]
  rw [Array.getD_eq_getD_getElem?] at hp
  simp [hp, asAddr, hl]
structure Stp where
  wi : Int
  kind : Int
  n : Int
  b : Bool
  s : ByteArray
def q0 : Stp := ⟨0, 0, 0, false, ⟨#[]⟩⟩
def QC (m : Stp) : Array Value := #[.int .i64 m.wi, .int .i64 m.kind, .int .i64 m.n, .bool m.b, .string m.s]
abbrev QV (m : Stp) : Value := .agg (QC m)
theorem QC_size (m : Stp) : (QC m).size = 5 := rfl
theorem QC_one (m : Stp) : ∀ v ∈ (QC m).toList, v.oneCell' = true := by
  intro v hv; simp [QC] at hv; rcases hv with rfl | rfl | rfl | rfl | rfl <;> rfl
theorem cells_QV (m : Stp) : (QV m).cells = QC m := by simp [Value.cells]
structure QAt (w : World) (a : Addr) (m : Stp) : Prop where
  c0 : w.cell? a = some (.int .i64 m.wi)
  c1 : w.cell? (a.add 1) = some (.int .i64 m.kind)
  c2 : w.cell? (a.add 2) = some (.int .i64 m.n)
  c3 : w.cell? (a.add 3) = some (.bool m.b)
  c4 : w.cell? (a.add 4) = some (.string m.s)
theorem QAt.on {a : Addr} {m : Stp} (S : QAt w a m) (hb : Below w.heap.size w w') : QAt w' a m := by
  have h0 := World.block_lt_of_cell? _ _ S.c0
  exact ⟨by rw [hb.cell h0]; exact S.c0, by rw [hb.cell (by rw [block_of_add]; exact h0)]; exact S.c1, by rw [hb.cell (by rw [block_of_add]; exact h0)]; exact S.c2, by rw [hb.cell (by rw [block_of_add]; exact h0)]; exact S.c3, by rw [hb.cell (by rw [block_of_add]; exact h0)]; exact S.c4⟩
def QBox (w : World) (g : Nat) (m : Stp) : Prop := w.heap[g]? = some (.cells (QC m) 42 (0, 0))
theorem QBox.lt {m : Stp} (h : QBox w g m) : g < w.heap.size := (Array.getElem?_eq_some_iff.1 h).1
theorem QBox.below {m : Stp} (h : QBox w g m) (hb : Below w.heap.size w w') : QBox w' g m := (hb.block g h.lt).trans h
theorem QBox.c0 {m : Stp} (h : QBox w g m) : w.cell? ⟨g, 0, none⟩ = some (.int .i64 m.wi) := by unfold QBox at h; simp [World.cell?, h, QC]
theorem QBox.c1 {m : Stp} (h : QBox w g m) : w.cell? ⟨g, 1, none⟩ = some (.int .i64 m.kind) := by unfold QBox at h; simp [World.cell?, h, QC]
theorem QBox.c2 {m : Stp} (h : QBox w g m) : w.cell? ⟨g, 2, none⟩ = some (.int .i64 m.n) := by unfold QBox at h; simp [World.cell?, h, QC]
theorem QBox.c3 {m : Stp} (h : QBox w g m) : w.cell? ⟨g, 3, none⟩ = some (.bool m.b) := by unfold QBox at h; simp [World.cell?, h, QC]
theorem QBox.c4 {m : Stp} (h : QBox w g m) : w.cell? ⟨g, 4, none⟩ = some (.string m.s) := by unfold QBox at h; simp [World.cell?, h, QC]
theorem QBox_new (w : World) (m : Stp) : QBox (w.alloc (.cells (QC m) 42)) w.heap.size m := by unfold QBox; rw [heap_alloc_new]
def ldQ (v : Value) : Sem Value := Instr.loadAt 42 v
theorem ldQ_eq (v : Value) : Instr.loadAt 42 v = ldQ v := rfl
def stQ (p v : Value) : Sem Unit := Instr.storeAt 42 p v
theorem stQ_eq (p v : Value) : Instr.storeAt 42 p v = stQ p v := rfl
theorem sizeQ : (Try.prog.info? 42).map (·.size) = some 5 := by kernel_rfl
theorem QBox.range {m : Stp} (h : QBox w g m) : w.rangeAt g 0 (QC m).toList := by
  intro j v hv
  rw [Nat.zero_add]
  unfold QBox at h
  simp only [Array.getElem?_toList] at hv
  simp [World.cell?, h, hv]
theorem run_lvQ {m : Stp} (A : QBox w g m) : (loadVar 42 ⟨g, 0, none⟩).run Try.prog w = .ok (QV m) w := by
  have := run_loadVar_mid (P := Try.prog) w g 0 42 (QC m).toList _ A.range Try.underlying42 rfl (by rw [sizeQ]; rfl)
  simpa using this
theorem run_ldQ {m : Stp} (A : QBox w g m) : (ldQ (.pointer (some ⟨g, 0, none⟩))).run Try.prog w = .ok (.agg (QC m)) w := by
  unfold ldQ
  simp only [Instr.loadAt, Instr.sureAddr, Sem.run_bind, Sem.run_pure, Result.andThen]
  exact run_lvQ A
theorem run_laQ {a : Addr} {m : Stp} (A : QAt w a m) : (ldQ (.pointer (some a))).run Try.prog w = .ok (.agg (QC m)) w := by
  have hl := run_loadCells_list (P := Try.prog) (w := w) a (QC m).toList (fun j v hv => by
    match j, hv with
    | 0, hv => cases hv; rw [add_nought]; exact A.c0
    | 1, hv => cases hv; exact A.c1
    | 2, hv => cases hv; exact A.c2
    | 3, hv => cases hv; exact A.c3
    | 4, hv => cases hv; exact A.c4
    | j + 5, hv => simp [QC] at hv)
  unfold ldQ
  simp only [Instr.loadAt, Instr.sureAddr, Sem.run_bind, Sem.run_pure, Result.andThen]
  cases hq : Try.prog.info? 42 with
  | none => have := sizeQ; simp [hq] at this
  | some x =>
    have hs : x.size = 5 := by have := sizeQ; simpa [hq] using this
    have hagg : (isAgg 42).run Try.prog w = .ok true w := by
      unfold isAgg
      rw [Sem.run_bind, run_underlying Try.underlying42 w]
      rfl
    have e2 : (QC m).toList.length = 5 := rfl
    rw [e2] at hl
    simp [loadVar, Sem.run_bind, hagg, sizeOf, typeInfo, hq, hs, hl]
theorem run_stQ {m m' : Stp} (A : QBox w g m) : (stQ (.pointer (some ⟨g, 0, none⟩)) (.agg (QC m'))).run Try.prog w = .ok () (w.setRow g (QC m')) := by
  unfold stQ
  have h := run_storeCells_from (P := Try.prog) g 42 (QC m').toList 0 (QC m) w A (by simp [QC]) (QC_one m')
  cases hq : Try.prog.info? 42 with
  | none => have := sizeQ; simp [hq] at this
  | some x =>
    have hs : x.size = 5 := by have := sizeQ; simpa [hq] using this
    simp only [Instr.storeAt, Instr.sureAddr, Sem.run_bind, Sem.run_pure, Result.andThen, storeVar, sizeOf, typeInfo, cells_QV, QC_size]
    simp at h
    simp [h, hq, hs]
theorem QBox.setRow {m m' : Stp} (A : QBox w g m) : QBox (w.setRow g (QC m')) g m' := setRow_heap w g _ _ _ _ A
theorem madeQ (w : World) (m : Stp) (g : Nat) (hg : w.heap.size = g) : ∃ w' : World, (stQ (.pointer (some ⟨g, 0, none⟩)) (.agg (QC m))).run Try.prog (w.alloc (.cells (QC q0) 42)) = .ok () w' ∧ QBox w' g m ∧ Below w.heap.size w w' ∧ w'.heap.size = w.heap.size + 1 := by
  subst hg
  refine ⟨_, run_stQ (QBox_new w _), (QBox_new w _).setRow, below_setRow (below_new w _) (Nat.le_refl _), by simp [World.setRow]⟩
theorem res1Q {m : Stp} {fn : Func} {p : Tmp} (h : fn.results = #[.cell p 42]) {tmps : Array Value} (hp : tmps.getD p undef = .pointer (some ⟨g, 0, none⟩)) (A : QBox w g m) :
    (results fn tmps).run Try.prog w = .ok (QV m) w := by
  have hl := run_lvQ A
  simp only [results, h]
  rw [Array.getD_eq_getD_getElem?] at hp
  simp [hp, asAddr, hl]
end Go.Proofs.Ytflinfmhmokfhaa
