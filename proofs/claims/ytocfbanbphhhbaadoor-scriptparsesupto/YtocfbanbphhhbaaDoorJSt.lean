/- Structs in memory (genstruct.py). -/
import Derived.Test.YtocfbanbphhhbaaDoorJKb
import Derived.Deep.MidRow
import Derived.Laws.CopyOwn
import Derived.Lib.OthersKept
namespace Go.Proofs.YtocfbanbphhhbaaDoor
open Go.RowKit
theorem add_nought (p : Addr) : p.add 0 = p := by unfold Addr.add; split <;> simp_all
theorem below_setRow {w w' : World} {n g : Nat} {cs : Array Value} (h : Below n w w') (hg : n ≤ g) : Below n w (w'.setRow g cs) :=
  h.trans ⟨rfl, rfl, rfl, by simp [World.setRow], fun k hk => setRow_other _ _ _ _ (by omega)⟩
variable {w w' : World} {g : Nat}
structure Sp where
  kind : Int
  rep : Int
  cart : Int
  dst : Int
  sku : ByteArray
  qty : Int
  nr : Int
def sp0 : Sp := ⟨0, 0, 0, 0, ⟨#[]⟩, 0, 0⟩
def OC (m : Sp) : Array Value := #[.int .i64 m.kind, .int .i64 m.rep, .int .i64 m.cart, .int .i64 m.dst, .string m.sku, .int .i64 m.qty, .int .i64 m.nr]
abbrev OV (m : Sp) : Value := .agg (OC m)
theorem OC_size (m : Sp) : (OC m).size = 7 := rfl
theorem OC_one (m : Sp) : ∀ v ∈ (OC m).toList, v.oneCell' = true := by
  intro v hv; simp [OC] at hv; rcases hv with rfl | rfl | rfl | rfl | rfl | rfl | rfl <;> rfl
theorem cells_OV (m : Sp) : (OV m).cells = OC m := by simp [Value.cells]
structure OAt (w : World) (a : Addr) (m : Sp) : Prop where
  c0 : w.cell? a = some (.int .i64 m.kind)
  c1 : w.cell? (a.add 1) = some (.int .i64 m.rep)
  c2 : w.cell? (a.add 2) = some (.int .i64 m.cart)
  c3 : w.cell? (a.add 3) = some (.int .i64 m.dst)
  c4 : w.cell? (a.add 4) = some (.string m.sku)
  c5 : w.cell? (a.add 5) = some (.int .i64 m.qty)
  c6 : w.cell? (a.add 6) = some (.int .i64 m.nr)
theorem OAt.on {a : Addr} {m : Sp} (S : OAt w a m) (hb : Below w.heap.size w w') : OAt w' a m := by
  have h0 := World.block_lt_of_cell? _ _ S.c0
  exact ⟨by rw [hb.cell h0]; exact S.c0, by rw [hb.cell (by rw [block_of_add]; exact h0)]; exact S.c1, by rw [hb.cell (by rw [block_of_add]; exact h0)]; exact S.c2, by rw [hb.cell (by rw [block_of_add]; exact h0)]; exact S.c3, by rw [hb.cell (by rw [block_of_add]; exact h0)]; exact S.c4, by rw [hb.cell (by rw [block_of_add]; exact h0)]; exact S.c5, by rw [hb.cell (by rw [block_of_add]; exact h0)]; exact S.c6⟩
def OBox (w : World) (g : Nat) (m : Sp) : Prop := w.heap[g]? = some (.cells (OC m) 31 (0, 0))
theorem OBox.lt {m : Sp} (h : OBox w g m) : g < w.heap.size := (Array.getElem?_eq_some_iff.1 h).1
theorem OBox.below {m : Sp} (h : OBox w g m) (hb : Below w.heap.size w w') : OBox w' g m := (hb.block g h.lt).trans h
theorem OBox.c0 {m : Sp} (h : OBox w g m) : w.cell? ⟨g, 0, none⟩ = some (.int .i64 m.kind) := by unfold OBox at h; simp [World.cell?, h, OC]
theorem OBox.c1 {m : Sp} (h : OBox w g m) : w.cell? ⟨g, 1, none⟩ = some (.int .i64 m.rep) := by unfold OBox at h; simp [World.cell?, h, OC]
theorem OBox.c2 {m : Sp} (h : OBox w g m) : w.cell? ⟨g, 2, none⟩ = some (.int .i64 m.cart) := by unfold OBox at h; simp [World.cell?, h, OC]
theorem OBox.c3 {m : Sp} (h : OBox w g m) : w.cell? ⟨g, 3, none⟩ = some (.int .i64 m.dst) := by unfold OBox at h; simp [World.cell?, h, OC]
theorem OBox.c4 {m : Sp} (h : OBox w g m) : w.cell? ⟨g, 4, none⟩ = some (.string m.sku) := by unfold OBox at h; simp [World.cell?, h, OC]
theorem OBox.c5 {m : Sp} (h : OBox w g m) : w.cell? ⟨g, 5, none⟩ = some (.int .i64 m.qty) := by unfold OBox at h; simp [World.cell?, h, OC]
theorem OBox.c6 {m : Sp} (h : OBox w g m) : w.cell? ⟨g, 6, none⟩ = some (.int .i64 m.nr) := by unfold OBox at h; simp [World.cell?, h, OC]
theorem OBox_new (w : World) (m : Sp) : OBox (w.alloc (.cells (OC m) 31)) w.heap.size m := by unfold OBox; rw [heap_alloc_new]
def ldO (v : Value) : Sem Value := Instr.loadAt 31 v
theorem ldO_eq (v : Value) : Instr.loadAt 31 v = ldO v := rfl
def stO (p v : Value) : Sem Unit := Instr.storeAt 31 p v
theorem stO_eq (p v : Value) : Instr.storeAt 31 p v = stO p v := rfl
theorem sizeO : (Tryd.prog.info? 31).map (·.size) = some 7 := by kernel_rfl
theorem OBox.range {m : Sp} (h : OBox w g m) : w.rangeAt g 0 (OC m).toList := by
  intro j v hv
  rw [Nat.zero_add]
  unfold OBox at h
  simp only [Array.getElem?_toList] at hv
  simp [World.cell?, h, hv]
theorem run_lvO {m : Sp} (A : OBox w g m) : (loadVar 31 ⟨g, 0, none⟩).run Tryd.prog w = .ok (OV m) w := by
  have := run_loadVar_mid (P := Tryd.prog) w g 0 31 (OC m).toList _ A.range Tryd.underlying31 rfl (by rw [sizeO]; rfl)
  simpa using this
theorem run_ldO {m : Sp} (A : OBox w g m) : (ldO (.pointer (some ⟨g, 0, none⟩))).run Tryd.prog w = .ok (.agg (OC m)) w := by
  unfold ldO
  simp only [Instr.loadAt, Instr.sureAddr, Sem.run_bind, Sem.run_pure, Result.andThen]
  exact run_lvO A
theorem run_laO {a : Addr} {m : Sp} (A : OAt w a m) : (ldO (.pointer (some a))).run Tryd.prog w = .ok (.agg (OC m)) w := by
  have hl := run_loadCells_list (P := Tryd.prog) (w := w) a (OC m).toList (fun j v hv => by
    match j, hv with
    | 0, hv => cases hv; rw [add_nought]; exact A.c0
    | 1, hv => cases hv; exact A.c1
    | 2, hv => cases hv; exact A.c2
    | 3, hv => cases hv; exact A.c3
    | 4, hv => cases hv; exact A.c4
    | 5, hv => cases hv; exact A.c5
    | 6, hv => cases hv; exact A.c6
    | j + 7, hv => simp [OC] at hv)
  unfold ldO
  simp only [Instr.loadAt, Instr.sureAddr, Sem.run_bind, Sem.run_pure, Result.andThen]
  cases hq : Tryd.prog.info? 31 with
  | none => have := sizeO; simp [hq] at this
  | some x =>
    have hs : x.size = 7 := by have := sizeO; simpa [hq] using this
    have hagg : (isAgg 31).run Tryd.prog w = .ok true w := by
      unfold isAgg
      rw [Sem.run_bind, run_underlying Tryd.underlying31 w]
      rfl
    have e2 : (OC m).toList.length = 7 := rfl
    rw [e2] at hl
    simp [loadVar, Sem.run_bind, hagg, sizeOf, typeInfo, hq, hs, hl]
theorem run_stO {m m' : Sp} (A : OBox w g m) : (stO (.pointer (some ⟨g, 0, none⟩)) (.agg (OC m'))).run Tryd.prog w = .ok () (w.setRow g (OC m')) := by
  unfold stO
  have h := run_storeCells_from (P := Tryd.prog) g 31 (OC m').toList 0 (OC m) w A (by simp [OC]) (OC_one m')
  cases hq : Tryd.prog.info? 31 with
  | none => have := sizeO; simp [hq] at this
  | some x =>
    have hs : x.size = 7 := by have := sizeO; simpa [hq] using this
    simp only [Instr.storeAt, Instr.sureAddr, Sem.run_bind, Sem.run_pure, Result.andThen, storeVar, sizeOf, typeInfo, cells_OV, OC_size]
    simp at h
    simp [h, hq, hs]
theorem OBox.setRow {m m' : Sp} (A : OBox w g m) : OBox (w.setRow g (OC m')) g m' := setRow_heap w g _ _ _ _ A
theorem madeO (w : World) (m : Sp) (g : Nat) (hg : w.heap.size = g) : ∃ w' : World, (stO (.pointer (some ⟨g, 0, none⟩)) (.agg (OC m))).run Tryd.prog (w.alloc (.cells (OC sp0) 31)) = .ok () w' ∧ OBox w' g m ∧ Below w.heap.size w w' ∧ w'.heap.size = w.heap.size + 1 := by
  subst hg
  refine ⟨_, run_stO (OBox_new w _), (OBox_new w _).setRow, below_setRow (below_new w _) (Nat.le_refl _), by simp [World.setRow]⟩
theorem res1O {m : Sp} {fn : Func} {p : Tmp} (h : fn.results = #[.cell p 31]) {tmps : Array Value} (hp : tmps.getD p undef = .pointer (some ⟨g, 0, none⟩)) (A : OBox w g m) :
    (results fn tmps).run Tryd.prog w = .ok (OV m) w := by
  have hl := run_lvO A
  simp only [results, h]
  rw [Array.getD_eq_getD_getElem?] at hp
  simp [hp, asAddr, hl]
structure Sc where
  reps : Int
  carts : Int
  lines : Int
  count : Int
  log : Int
  toks : Int
  opso : Option Addr
  opsn : Nat
  opsc : Nat
def sc0 : Sc := ⟨0, 0, 0, 0, 0, 0, none, 0, 0⟩
def SC (m : Sc) : Array Value := #[.int .i64 m.reps, .int .i64 m.carts, .int .i64 m.lines, .int .i64 m.count, .int .i64 m.log, .int .i64 m.toks, .slice m.opso m.opsn m.opsc]
abbrev SV (m : Sc) : Value := .agg (SC m)
theorem SC_size (m : Sc) : (SC m).size = 7 := rfl
theorem SC_one (m : Sc) : ∀ v ∈ (SC m).toList, v.oneCell' = true := by
  intro v hv; simp [SC] at hv; rcases hv with rfl | rfl | rfl | rfl | rfl | rfl | rfl <;> rfl
theorem cells_SV (m : Sc) : (SV m).cells = SC m := by simp [Value.cells]
structure SAt (w : World) (a : Addr) (m : Sc) : Prop where
  c0 : w.cell? a = some (.int .i64 m.reps)
  c1 : w.cell? (a.add 1) = some (.int .i64 m.carts)
  c2 : w.cell? (a.add 2) = some (.int .i64 m.lines)
  c3 : w.cell? (a.add 3) = some (.int .i64 m.count)
  c4 : w.cell? (a.add 4) = some (.int .i64 m.log)
  c5 : w.cell? (a.add 5) = some (.int .i64 m.toks)
  c6 : w.cell? (a.add 6) = some (.slice m.opso m.opsn m.opsc)
theorem SAt.on {a : Addr} {m : Sc} (S : SAt w a m) (hb : Below w.heap.size w w') : SAt w' a m := by
  have h0 := World.block_lt_of_cell? _ _ S.c0
  exact ⟨by rw [hb.cell h0]; exact S.c0, by rw [hb.cell (by rw [block_of_add]; exact h0)]; exact S.c1, by rw [hb.cell (by rw [block_of_add]; exact h0)]; exact S.c2, by rw [hb.cell (by rw [block_of_add]; exact h0)]; exact S.c3, by rw [hb.cell (by rw [block_of_add]; exact h0)]; exact S.c4, by rw [hb.cell (by rw [block_of_add]; exact h0)]; exact S.c5, by rw [hb.cell (by rw [block_of_add]; exact h0)]; exact S.c6⟩
def SBox (w : World) (g : Nat) (m : Sc) : Prop := w.heap[g]? = some (.cells (SC m) 26 (0, 0))
theorem SBox.lt {m : Sc} (h : SBox w g m) : g < w.heap.size := (Array.getElem?_eq_some_iff.1 h).1
theorem SBox.below {m : Sc} (h : SBox w g m) (hb : Below w.heap.size w w') : SBox w' g m := (hb.block g h.lt).trans h
theorem SBox.c0 {m : Sc} (h : SBox w g m) : w.cell? ⟨g, 0, none⟩ = some (.int .i64 m.reps) := by unfold SBox at h; simp [World.cell?, h, SC]
theorem SBox.c1 {m : Sc} (h : SBox w g m) : w.cell? ⟨g, 1, none⟩ = some (.int .i64 m.carts) := by unfold SBox at h; simp [World.cell?, h, SC]
theorem SBox.c2 {m : Sc} (h : SBox w g m) : w.cell? ⟨g, 2, none⟩ = some (.int .i64 m.lines) := by unfold SBox at h; simp [World.cell?, h, SC]
theorem SBox.c3 {m : Sc} (h : SBox w g m) : w.cell? ⟨g, 3, none⟩ = some (.int .i64 m.count) := by unfold SBox at h; simp [World.cell?, h, SC]
theorem SBox.c4 {m : Sc} (h : SBox w g m) : w.cell? ⟨g, 4, none⟩ = some (.int .i64 m.log) := by unfold SBox at h; simp [World.cell?, h, SC]
theorem SBox.c5 {m : Sc} (h : SBox w g m) : w.cell? ⟨g, 5, none⟩ = some (.int .i64 m.toks) := by unfold SBox at h; simp [World.cell?, h, SC]
theorem SBox.c6 {m : Sc} (h : SBox w g m) : w.cell? ⟨g, 6, none⟩ = some (.slice m.opso m.opsn m.opsc) := by unfold SBox at h; simp [World.cell?, h, SC]
theorem SBox_new (w : World) (m : Sc) : SBox (w.alloc (.cells (SC m) 26)) w.heap.size m := by unfold SBox; rw [heap_alloc_new]
def ldS (v : Value) : Sem Value := Instr.loadAt 26 v
theorem ldS_eq (v : Value) : Instr.loadAt 26 v = ldS v := rfl
def stS (p v : Value) : Sem Unit := Instr.storeAt 26 p v
theorem stS_eq (p v : Value) : Instr.storeAt 26 p v = stS p v := rfl
theorem sizeS : (Tryd.prog.info? 26).map (·.size) = some 7 := by kernel_rfl
theorem SBox.range {m : Sc} (h : SBox w g m) : w.rangeAt g 0 (SC m).toList := by
  intro j v hv
  rw [Nat.zero_add]
  unfold SBox at h
  simp only [Array.getElem?_toList] at hv
  simp [World.cell?, h, hv]
theorem run_lvS {m : Sc} (A : SBox w g m) : (loadVar 26 ⟨g, 0, none⟩).run Tryd.prog w = .ok (SV m) w := by
  have := run_loadVar_mid (P := Tryd.prog) w g 0 26 (SC m).toList _ A.range Tryd.underlying26 rfl (by rw [sizeS]; rfl)
  simpa using this
theorem run_ldS {m : Sc} (A : SBox w g m) : (ldS (.pointer (some ⟨g, 0, none⟩))).run Tryd.prog w = .ok (.agg (SC m)) w := by
  unfold ldS
  simp only [Instr.loadAt, Instr.sureAddr, Sem.run_bind, Sem.run_pure, Result.andThen]
  exact run_lvS A
theorem run_laS {a : Addr} {m : Sc} (A : SAt w a m) : (ldS (.pointer (some a))).run Tryd.prog w = .ok (.agg (SC m)) w := by
  have hl := run_loadCells_list (P := Tryd.prog) (w := w) a (SC m).toList (fun j v hv => by
    match j, hv with
    | 0, hv => cases hv; rw [add_nought]; exact A.c0
    | 1, hv => cases hv; exact A.c1
    | 2, hv => cases hv; exact A.c2
    | 3, hv => cases hv; exact A.c3
    | 4, hv => cases hv; exact A.c4
    | 5, hv => cases hv; exact A.c5
    | 6, hv => cases hv; exact A.c6
    | j + 7, hv => simp [SC] at hv)
  unfold ldS
  simp only [Instr.loadAt, Instr.sureAddr, Sem.run_bind, Sem.run_pure, Result.andThen]
  cases hq : Tryd.prog.info? 26 with
  | none => have := sizeS; simp [hq] at this
  | some x =>
    have hs : x.size = 7 := by have := sizeS; simpa [hq] using this
    have hagg : (isAgg 26).run Tryd.prog w = .ok true w := by
      unfold isAgg
      rw [Sem.run_bind, run_underlying Tryd.underlying26 w]
      rfl
    have e2 : (SC m).toList.length = 7 := rfl
    rw [e2] at hl
    simp [loadVar, Sem.run_bind, hagg, sizeOf, typeInfo, hq, hs, hl]
theorem run_stS {m m' : Sc} (A : SBox w g m) : (stS (.pointer (some ⟨g, 0, none⟩)) (.agg (SC m'))).run Tryd.prog w = .ok () (w.setRow g (SC m')) := by
  unfold stS
  have h := run_storeCells_from (P := Tryd.prog) g 26 (SC m').toList 0 (SC m) w A (by simp [SC]) (SC_one m')
  cases hq : Tryd.prog.info? 26 with
  | none => have := sizeS; simp [hq] at this
  | some x =>
    have hs : x.size = 7 := by have := sizeS; simpa [hq] using this
    simp only [Instr.storeAt, Instr.sureAddr, Sem.run_bind, Sem.run_pure, Result.andThen, storeVar, sizeOf, typeInfo, cells_SV, SC_size]
    simp at h
    simp [h, hq, hs]
theorem SBox.setRow {m m' : Sc} (A : SBox w g m) : SBox (w.setRow g (SC m')) g m' := setRow_heap w g _ _ _ _ A
theorem madeS (w : World) (m : Sc) (g : Nat) (hg : w.heap.size = g) : ∃ w' : World, (stS (.pointer (some ⟨g, 0, none⟩)) (.agg (SC m))).run Tryd.prog (w.alloc (.cells (SC sc0) 26)) = .ok () w' ∧ SBox w' g m ∧ Below w.heap.size w w' ∧ w'.heap.size = w.heap.size + 1 := by
  subst hg
  refine ⟨_, run_stS (SBox_new w _), (SBox_new w _).setRow, below_setRow (below_new w _) (Nat.le_refl _), by simp [World.setRow]⟩
theorem res1S {m : Sc} {fn : Func} {p : Tmp} (h : fn.results = #[.cell p 26]) {tmps : Array Value} (hp : tmps.getD p undef = .pointer (some ⟨g, 0, none⟩)) (A : SBox w g m) :
    (results fn tmps).run Tryd.prog w = .ok (SV m) w := by
  have hl := run_lvS A
  simp only [results, h]
  rw [Array.getD_eq_getD_getElem?] at hp
  simp [hp, asAddr, hl]
structure Hdr where
  reps : Int
  carts : Int
  lines : Int
  count : Int
  log : Int
  toks : Int
def hd0 : Hdr := ⟨0, 0, 0, 0, 0, 0⟩
def HdC (m : Hdr) : Array Value := #[.int .i64 m.reps, .int .i64 m.carts, .int .i64 m.lines, .int .i64 m.count, .int .i64 m.log, .int .i64 m.toks]
abbrev HdV (m : Hdr) : Value := .agg (HdC m)
theorem HdC_size (m : Hdr) : (HdC m).size = 6 := rfl
theorem HdC_one (m : Hdr) : ∀ v ∈ (HdC m).toList, v.oneCell' = true := by
  intro v hv; simp [HdC] at hv; rcases hv with rfl | rfl | rfl | rfl | rfl | rfl <;> rfl
theorem cells_HdV (m : Hdr) : (HdV m).cells = HdC m := by simp [Value.cells]
structure HdAt (w : World) (a : Addr) (m : Hdr) : Prop where
  c0 : w.cell? a = some (.int .i64 m.reps)
  c1 : w.cell? (a.add 1) = some (.int .i64 m.carts)
  c2 : w.cell? (a.add 2) = some (.int .i64 m.lines)
  c3 : w.cell? (a.add 3) = some (.int .i64 m.count)
  c4 : w.cell? (a.add 4) = some (.int .i64 m.log)
  c5 : w.cell? (a.add 5) = some (.int .i64 m.toks)
theorem HdAt.on {a : Addr} {m : Hdr} (S : HdAt w a m) (hb : Below w.heap.size w w') : HdAt w' a m := by
  have h0 := World.block_lt_of_cell? _ _ S.c0
  exact ⟨by rw [hb.cell h0]; exact S.c0, by rw [hb.cell (by rw [block_of_add]; exact h0)]; exact S.c1, by rw [hb.cell (by rw [block_of_add]; exact h0)]; exact S.c2, by rw [hb.cell (by rw [block_of_add]; exact h0)]; exact S.c3, by rw [hb.cell (by rw [block_of_add]; exact h0)]; exact S.c4, by rw [hb.cell (by rw [block_of_add]; exact h0)]; exact S.c5⟩
def HdBox (w : World) (g : Nat) (m : Hdr) : Prop := w.heap[g]? = some (.cells (HdC m) 23 (0, 0))
theorem HdBox.lt {m : Hdr} (h : HdBox w g m) : g < w.heap.size := (Array.getElem?_eq_some_iff.1 h).1
theorem HdBox.below {m : Hdr} (h : HdBox w g m) (hb : Below w.heap.size w w') : HdBox w' g m := (hb.block g h.lt).trans h
theorem HdBox.c0 {m : Hdr} (h : HdBox w g m) : w.cell? ⟨g, 0, none⟩ = some (.int .i64 m.reps) := by unfold HdBox at h; simp [World.cell?, h, HdC]
theorem HdBox.c1 {m : Hdr} (h : HdBox w g m) : w.cell? ⟨g, 1, none⟩ = some (.int .i64 m.carts) := by unfold HdBox at h; simp [World.cell?, h, HdC]
theorem HdBox.c2 {m : Hdr} (h : HdBox w g m) : w.cell? ⟨g, 2, none⟩ = some (.int .i64 m.lines) := by unfold HdBox at h; simp [World.cell?, h, HdC]
theorem HdBox.c3 {m : Hdr} (h : HdBox w g m) : w.cell? ⟨g, 3, none⟩ = some (.int .i64 m.count) := by unfold HdBox at h; simp [World.cell?, h, HdC]
theorem HdBox.c4 {m : Hdr} (h : HdBox w g m) : w.cell? ⟨g, 4, none⟩ = some (.int .i64 m.log) := by unfold HdBox at h; simp [World.cell?, h, HdC]
theorem HdBox.c5 {m : Hdr} (h : HdBox w g m) : w.cell? ⟨g, 5, none⟩ = some (.int .i64 m.toks) := by unfold HdBox at h; simp [World.cell?, h, HdC]
theorem HdBox_new (w : World) (m : Hdr) : HdBox (w.alloc (.cells (HdC m) 23)) w.heap.size m := by unfold HdBox; rw [heap_alloc_new]
def ldHd (v : Value) : Sem Value := Instr.loadAt 23 v
theorem ldHd_eq (v : Value) : Instr.loadAt 23 v = ldHd v := rfl
def stHd (p v : Value) : Sem Unit := Instr.storeAt 23 p v
theorem stHd_eq (p v : Value) : Instr.storeAt 23 p v = stHd p v := rfl
theorem sizeHd : (Tryd.prog.info? 23).map (·.size) = some 6 := by kernel_rfl
theorem HdBox.range {m : Hdr} (h : HdBox w g m) : w.rangeAt g 0 (HdC m).toList := by
  intro j v hv
  rw [Nat.zero_add]
  unfold HdBox at h
  simp only [Array.getElem?_toList] at hv
  simp [World.cell?, h, hv]
theorem run_lvHd {m : Hdr} (A : HdBox w g m) : (loadVar 23 ⟨g, 0, none⟩).run Tryd.prog w = .ok (HdV m) w := by
  have := run_loadVar_mid (P := Tryd.prog) w g 0 23 (HdC m).toList _ A.range Tryd.underlying23 rfl (by rw [sizeHd]; rfl)
  simpa using this
theorem run_ldHd {m : Hdr} (A : HdBox w g m) : (ldHd (.pointer (some ⟨g, 0, none⟩))).run Tryd.prog w = .ok (.agg (HdC m)) w := by
  unfold ldHd
  simp only [Instr.loadAt, Instr.sureAddr, Sem.run_bind, Sem.run_pure, Result.andThen]
  exact run_lvHd A
theorem run_laHd {a : Addr} {m : Hdr} (A : HdAt w a m) : (ldHd (.pointer (some a))).run Tryd.prog w = .ok (.agg (HdC m)) w := by
  have hl := run_loadCells_list (P := Tryd.prog) (w := w) a (HdC m).toList (fun j v hv => by
    match j, hv with
    | 0, hv => cases hv; rw [add_nought]; exact A.c0
    | 1, hv => cases hv; exact A.c1
    | 2, hv => cases hv; exact A.c2
    | 3, hv => cases hv; exact A.c3
    | 4, hv => cases hv; exact A.c4
    | 5, hv => cases hv; exact A.c5
    | j + 6, hv => simp [HdC] at hv)
  unfold ldHd
  simp only [Instr.loadAt, Instr.sureAddr, Sem.run_bind, Sem.run_pure, Result.andThen]
  cases hq : Tryd.prog.info? 23 with
  | none => have := sizeHd; simp [hq] at this
  | some x =>
    have hs : x.size = 6 := by have := sizeHd; simpa [hq] using this
    have hagg : (isAgg 23).run Tryd.prog w = .ok true w := by
      unfold isAgg
      rw [Sem.run_bind, run_underlying Tryd.underlying23 w]
      rfl
    have e2 : (HdC m).toList.length = 6 := rfl
    rw [e2] at hl
    simp [loadVar, Sem.run_bind, hagg, sizeOf, typeInfo, hq, hs, hl]
theorem run_stHd {m m' : Hdr} (A : HdBox w g m) : (stHd (.pointer (some ⟨g, 0, none⟩)) (.agg (HdC m'))).run Tryd.prog w = .ok () (w.setRow g (HdC m')) := by
  unfold stHd
  have h := run_storeCells_from (P := Tryd.prog) g 23 (HdC m').toList 0 (HdC m) w A (by simp [HdC]) (HdC_one m')
  cases hq : Tryd.prog.info? 23 with
  | none => have := sizeHd; simp [hq] at this
  | some x =>
    have hs : x.size = 6 := by have := sizeHd; simpa [hq] using this
    simp only [Instr.storeAt, Instr.sureAddr, Sem.run_bind, Sem.run_pure, Result.andThen, storeVar, sizeOf, typeInfo, cells_HdV, HdC_size]
    simp at h
    simp [h, hq, hs]
theorem HdBox.setRow {m m' : Hdr} (A : HdBox w g m) : HdBox (w.setRow g (HdC m')) g m' := setRow_heap w g _ _ _ _ A
theorem madeHd (w : World) (m : Hdr) (g : Nat) (hg : w.heap.size = g) : ∃ w' : World, (stHd (.pointer (some ⟨g, 0, none⟩)) (.agg (HdC m))).run Tryd.prog (w.alloc (.cells (HdC hd0) 23)) = .ok () w' ∧ HdBox w' g m ∧ Below w.heap.size w w' ∧ w'.heap.size = w.heap.size + 1 := by
  subst hg
  refine ⟨_, run_stHd (HdBox_new w _), (HdBox_new w _).setRow, below_setRow (below_new w _) (Nat.le_refl _), by simp [World.setRow]⟩
theorem res1Hd {m : Hdr} {fn : Func} {p : Tmp} (h : fn.results = #[.cell p 23]) {tmps : Array Value} (hp : tmps.getD p undef = .pointer (some ⟨g, 0, none⟩)) (A : HdBox w g m) :
    (results fn tmps).run Tryd.prog w = .ok (HdV m) w := by
  have hl := run_lvHd A
  simp only [results, h]
  rw [Array.getD_eq_getD_getElem?] at hp
  simp [hp, asAddr, hl]
end Go.Proofs.YtocfbanbphhhbaaDoor
