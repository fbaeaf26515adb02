/- Mails in memory. -/
import Derived.Test.YtpnlfljndkfplaaURj
import Derived.Laws.Tables
import Derived.Laws.CopyOwn
import Derived.Lib.OthersKept
import Derived.Deep.MidRow
namespace Go.Proofs.Ytpnlfljndkfplaa
open Go.RowKit

theorem ret_bool {a b : Bool} (h : a = b) : Ending.returned (.bool a) = .returned (.bool b) := by rw [h]
theorem ret_int {k : IntKind} {a b : Int} (h : a = b) : Ending.returned (.int k a) = .returned (.int k b) := by rw [h]
theorem add_zero (p : Addr) : p.add 0 = p := by unfold Addr.add; split <;> simp_all
theorem block_add (p : Addr) (m : Nat) : (p.add m).block = p.block := by unfold Addr.add; split <;> rfl
theorem below_setRow {w w' : World} {n g : Nat} {cs : Array Value} (h : Below n w w') (hg : n ≤ g) : Below n w (w'.setRow g cs) :=
  h.trans ⟨rfl, rfl, rfl, by simp [World.setRow], fun k hk => setRow_other _ _ _ _ (by omega)⟩
variable {w w' : World} {g : Nat}
/-! ### parts -/
structure Pt where
  cart : Int
  vo : Option Addr
  vn : Nat
  vc : Nat
def pt0 : Pt := ⟨0, none, 0, 0⟩
def PC (p : Pt) : Array Value := #[.int .i64 p.cart, .slice p.vo p.vn p.vc]
abbrev PV (p : Pt) : Value := .agg (PC p)
theorem PC_size (p : Pt) : (PC p).size = 2 := rfl
theorem PC_one (p : Pt) : ∀ v ∈ (PC p).toList, v.oneCell' = true := by
  intro v hv; simp [PC] at hv; rcases hv with rfl | rfl <;> rfl
theorem cells_PV (p : Pt) : (PV p).cells = PC p := by simp [Value.cells]
theorem zero_PC : (#[.int .i64 0, .slice none 0 0] : Array Value) = PC pt0 := rfl
structure PtAt (w : World) (a : Addr) (p : Pt) : Prop where
  c0 : w.cell? a = some (.int .i64 p.cart)
  c1 : w.cell? (a.add 1) = some (.slice p.vo p.vn p.vc)
theorem PtAt.on {a : Addr} {p : Pt} (S : PtAt w a p) (hb : Below w.heap.size w w') : PtAt w' a p := by
  have h0 := World.block_lt_of_cell? _ _ S.c0
  exact ⟨by rw [hb.cell h0]; exact S.c0, by rw [hb.cell (by rw [block_add]; exact h0)]; exact S.c1⟩
def PBox (w : World) (g : Nat) (p : Pt) : Prop := w.heap[g]? = some (.cells (PC p) 46 (0, 0))
theorem PBox.lt {p : Pt} (h : PBox w g p) : g < w.heap.size := (Array.getElem?_eq_some_iff.1 h).1
theorem PBox.at {p : Pt} (h : PBox w g p) : PtAt w ⟨g, 0, none⟩ p := by
  unfold PBox at h
  refine ⟨?_, ?_⟩ <;> simp [Addr.add, World.cell?, h, PC]
theorem pbox_new (w : World) (p : Pt) : PBox (w.alloc (.cells (PC p) 46)) w.heap.size p := by unfold PBox; rw [heap_alloc_new]
def ldP (v : Value) : Sem Value := Instr.loadAt 46 v
theorem ldP_eq (v : Value) : Instr.loadAt 46 v = ldP v := rfl
def stP (p v : Value) : Sem Unit := Instr.storeAt 46 p v
theorem stP_eq (p v : Value) : Instr.storeAt 46 p v = stP p v := rfl
theorem sizeP : (Try.prog.info? 46).map (·.size) = some 2 := by kernel_rfl
theorem run_ldP {a : Addr} {p : Pt} (A : PtAt w a p) : (ldP (.pointer (some a))).run Try.prog w = .ok (.agg (PC p)) w := by
  have hl := run_loadCells_list (P := Try.prog) (w := w) a (PC p).toList (fun j v hv => by
    match j, hv with
    | 0, hv => cases hv; rw [add_zero]; exact A.c0
    | 1, hv => cases hv; exact A.c1
    | j + 2, hv => simp [PC] at hv)
  unfold ldP
  simp only [Instr.loadAt, Instr.sureAddr, Sem.run_bind, Sem.run_pure, Result.andThen]
  cases hq : Try.prog.info? 46 with
  | none => have := sizeP; simp [hq] at this
  | some x =>
    have hs : x.size = 2 := by have := sizeP; simpa [hq] using this
    have hagg : (isAgg 46).run Try.prog w = .ok true w := by
      unfold isAgg
      rw [Sem.run_bind, run_underlying Try.underlying46 w]
      rfl
    have e2 : (PC p).toList.length = 2 := rfl
    rw [e2] at hl
    simp [loadVar, Sem.run_bind, hagg, sizeOf, typeInfo, hq, hs, hl]
theorem run_stP {p p' : Pt} (A : PBox w g p) : (stP (.pointer (some ⟨g, 0, none⟩)) (.agg (PC p'))).run Try.prog w = .ok () (w.setRow g (PC p')) := by
  unfold stP
  have h := run_storeCells_from (P := Try.prog) g 46 (PC p').toList 0 (PC p) w A (by simp [PC]) (PC_one p')
  cases hq : Try.prog.info? 46 with
  | none => have := sizeP; simp [hq] at this
  | some x =>
    have hs : x.size = 2 := by have := sizeP; simpa [hq] using this
    simp only [Instr.storeAt, Instr.sureAddr, Sem.run_bind, Sem.run_pure, Result.andThen, storeVar, sizeOf, typeInfo, cells_PV, PC_size]
    simp at h
    simp [h, hq, hs]
theorem PBox.setRow {p p' : Pt} (A : PBox w g p) : PBox (w.setRow g (PC p')) g p' := setRow_heap w g _ _ _ _ A
theorem madeP (w : World) (p : Pt) (g : Nat) (hg : w.heap.size = g) : ∃ w' : World, (stP (.pointer (some ⟨g, 0, none⟩)) (.agg (PC p))).run Try.prog (w.alloc (.cells (PC pt0) 46)) = .ok () w' ∧ PBox w' g p ∧ Below w.heap.size w w' ∧ w'.heap.size = w.heap.size + 1 := by
  subst hg
  refine ⟨_, run_stP (pbox_new w pt0), (pbox_new w pt0).setRow, below_setRow (below_new w _) (Nat.le_refl _), by simp [World.setRow]⟩
/-- a row of parts -/
structure PSrc (w : World) (ao : Option Addr) (m c : Nat) (X : List Pt) : Prop where
  len : X.length = m
  nil : ao = none → m = 0 ∧ c = 0
  cell : ∀ ad, ao = some ad → ∀ t, t < m → PtAt w (ad.add (t * 2)) (X.getD t pt0)
  big : m ≤ 4398046511104
theorem PSrc.below {ao : Option Addr} {m c : Nat} {X : List Pt} (h : PSrc w ao m c X) (hb : Below w.heap.size w w') : PSrc w' ao m c X :=
  ⟨h.len, h.nil, fun ad ha t ht => (h.cell ad ha t ht).on hb, h.big⟩
theorem PSrc.empty (w : World) : PSrc w none 0 0 [] := ⟨rfl, fun _ => ⟨rfl, rfl⟩, (fun ad h => by cases h), by omega⟩
theorem PSrc.at {ao : Option Addr} {m c : Nat} {X : List Pt} (h : PSrc w ao m c X) (k : Nat) (hk : k < m) : ∃ bb oo, ao = some ⟨bb, oo, none⟩ ∧ PtAt w ⟨bb, oo + k * 2, none⟩ (X.getD k pt0) := by
  cases ao with
  | none => have := h.nil rfl; omega
  | some ad =>
    have := World.cell?_spot (h.cell ad rfl 0 (by omega)).c0
    obtain ⟨bb, oo, s⟩ := ad
    have hs : s = none := by simpa [Addr.add] using this
    subst hs
    have A := h.cell _ rfl k hk
    rw [Addr.add_lit] at A
    exact ⟨bb, oo, rfl, A⟩
/-! ### mails -/
structure Ml where
  kind : Int
  fr : Int
  to_ : Int
  lo : Int
  hi : Int
  po : Option Addr
  pn : Nat
  pc : Nat
def ml0 : Ml := ⟨0, 0, 0, 0, 0, none, 0, 0⟩
def MC (m : Ml) : Array Value := #[.int .i64 m.kind, .int .i64 m.fr, .int .i64 m.to_, .int .i64 m.lo, .int .i64 m.hi, .slice m.po m.pn m.pc]
abbrev MV (m : Ml) : Value := .agg (MC m)
theorem MC_size (m : Ml) : (MC m).size = 6 := rfl
theorem MC_one (m : Ml) : ∀ v ∈ (MC m).toList, v.oneCell' = true := by
  intro v hv; simp [MC] at hv; rcases hv with rfl | rfl | rfl | rfl | rfl | rfl <;> rfl
theorem cells_MV (m : Ml) : (MV m).cells = MC m := by simp [Value.cells]
theorem to_MC (a b c d e : Int) (po : Option Addr) (pn pc : Nat) : (#[.int .i64 a, .int .i64 b, .int .i64 c, .int .i64 d, .int .i64 e, .slice po pn pc] : Array Value) = MC ⟨a, b, c, d, e, po, pn, pc⟩ := rfl
theorem MC_s0 (a b c d e z : Int) (po : Option Addr) (pn pc : Nat) : (MC ⟨a, b, c, d, e, po, pn, pc⟩).setIfInBounds 0 (.int .i64 z) = MC ⟨z, b, c, d, e, po, pn, pc⟩ := rfl
theorem MC_s1 (a b c d e z : Int) (po : Option Addr) (pn pc : Nat) : (MC ⟨a, b, c, d, e, po, pn, pc⟩).setIfInBounds 1 (.int .i64 z) = MC ⟨a, z, c, d, e, po, pn, pc⟩ := rfl
theorem MC_s2 (a b c d e z : Int) (po : Option Addr) (pn pc : Nat) : (MC ⟨a, b, c, d, e, po, pn, pc⟩).setIfInBounds 2 (.int .i64 z) = MC ⟨a, b, z, d, e, po, pn, pc⟩ := rfl
theorem MC_s3 (a b c d e z : Int) (po : Option Addr) (pn pc : Nat) : (MC ⟨a, b, c, d, e, po, pn, pc⟩).setIfInBounds 3 (.int .i64 z) = MC ⟨a, b, c, z, e, po, pn, pc⟩ := rfl
theorem MC_s4 (a b c d e z : Int) (po : Option Addr) (pn pc : Nat) : (MC ⟨a, b, c, d, e, po, pn, pc⟩).setIfInBounds 4 (.int .i64 z) = MC ⟨a, b, c, d, z, po, pn, pc⟩ := rfl
theorem MC_s5 (a b c d e : Int) (po qo : Option Addr) (pn pc qn qc : Nat) : (MC ⟨a, b, c, d, e, po, pn, pc⟩).setIfInBounds 5 (.slice qo qn qc) = MC ⟨a, b, c, d, e, qo, qn, qc⟩ := rfl
def MBox (w : World) (g : Nat) (m : Ml) : Prop := w.heap[g]? = some (.cells (MC m) 24 (0, 0))
variable {m m' : Ml}
theorem MBox.lt (h : MBox w g m) : g < w.heap.size := (Array.getElem?_eq_some_iff.1 h).1
theorem MBox.below (h : MBox w g m) (hb : Below w.heap.size w w') : MBox w' g m := (hb.block g h.lt).trans h
theorem MBox.c0 (h : MBox w g m) : w.cell? ⟨g, 0, none⟩ = some (.int .i64 m.kind) := by unfold MBox at h; simp [World.cell?, h, MC]
theorem MBox.c1 (h : MBox w g m) : w.cell? ⟨g, 1, none⟩ = some (.int .i64 m.fr) := by unfold MBox at h; simp [World.cell?, h, MC]
theorem MBox.c2 (h : MBox w g m) : w.cell? ⟨g, 2, none⟩ = some (.int .i64 m.to_) := by unfold MBox at h; simp [World.cell?, h, MC]
theorem MBox.c3 (h : MBox w g m) : w.cell? ⟨g, 3, none⟩ = some (.int .i64 m.lo) := by unfold MBox at h; simp [World.cell?, h, MC]
theorem MBox.c4 (h : MBox w g m) : w.cell? ⟨g, 4, none⟩ = some (.int .i64 m.hi) := by unfold MBox at h; simp [World.cell?, h, MC]
theorem MBox.c5 (h : MBox w g m) : w.cell? ⟨g, 5, none⟩ = some (.slice m.po m.pn m.pc) := by unfold MBox at h; simp [World.cell?, h, MC]
theorem mbox_new (w : World) (m : Ml) : MBox (w.alloc (.cells (MC m) 24)) w.heap.size m := by unfold MBox; rw [heap_alloc_new]
def ldM (v : Value) : Sem Value := Instr.loadAt 24 v
theorem ldM_eq (v : Value) : Instr.loadAt 24 v = ldM v := rfl
def stM (p v : Value) : Sem Unit := Instr.storeAt 24 p v
theorem stM_eq (p v : Value) : Instr.storeAt 24 p v = stM p v := rfl
theorem sizeM : (Try.prog.info? 24).map (·.size) = some 6 := by kernel_rfl
theorem MBox.range (h : MBox w g m) : w.rangeAt g 0 (MC m).toList := by
  intro j v hv
  rw [Nat.zero_add]
  unfold MBox at h
  simp only [Array.getElem?_toList] at hv
  simp [World.cell?, h, hv]
theorem run_lvM (A : MBox w g m) : (loadVar 24 ⟨g, 0, none⟩).run Try.prog w = .ok (MV m) w := by
  have := run_loadVar_mid (P := Try.prog) w g 0 24 (MC m).toList _ A.range Try.underlying24 rfl (by rw [sizeM]; rfl)
  simpa using this
theorem run_ldM (A : MBox w g m) : (ldM (.pointer (some ⟨g, 0, none⟩))).run Try.prog w = .ok (.agg (MC m)) w := by
  unfold ldM
  simp only [Instr.loadAt, Instr.sureAddr, Sem.run_bind, Sem.run_pure, Result.andThen]
  exact run_lvM A
theorem run_stM (A : MBox w g m) : (stM (.pointer (some ⟨g, 0, none⟩)) (.agg (MC m'))).run Try.prog w = .ok () (w.setRow g (MC m')) := by
  unfold stM
  have h := run_storeCells_from (P := Try.prog) g 24 (MC m').toList 0 (MC m) w A (by simp [MC]) (MC_one m')
  cases hq : Try.prog.info? 24 with
  | none => have := sizeM; simp [hq] at this
  | some x =>
    have hs : x.size = 6 := by have := sizeM; simpa [hq] using this
    simp only [Instr.storeAt, Instr.sureAddr, Sem.run_bind, Sem.run_pure, Result.andThen, storeVar, sizeOf, typeInfo, cells_MV, MC_size]
    simp at h
    simp [h, hq, hs]
theorem MBox.setRow (A : MBox w g m) : MBox (w.setRow g (MC m')) g m' := setRow_heap w g _ _ _ _ A
theorem madeM (w : World) (m : Ml) (g : Nat) (hg : w.heap.size = g) : ∃ w' : World, (stM (.pointer (some ⟨g, 0, none⟩)) (.agg (MC m))).run Try.prog (w.alloc (.cells (MC ⟨0, 0, 0, 0, 0, none, 0, 0⟩) 24)) = .ok () w' ∧ MBox w' g m ∧ Below w.heap.size w w' ∧ w'.heap.size = w.heap.size + 1 := by
  subst hg
  refine ⟨_, run_stM (mbox_new w _), (mbox_new w _).setRow, below_setRow (below_new w _) (Nat.le_refl _), by simp [World.setRow]⟩
theorem resM {fn : Func} {p u : Tmp} (h : fn.results = #[.cell p 24, .tmp u]) {tmps : Array Value} {v : Value} (hp : tmps.getD p undef = .pointer (some ⟨g, 0, none⟩)) (hu : tmps.getD u undef = v) (A : MBox w g m) :
    (results fn tmps).run Try.prog w = .ok (.tuple #[MV m, v]) w := by
  have hl := run_lvM A
  simp only [results, h]
  rw [Array.getD_eq_getD_getElem?] at hp hu
  simp [hp, hu, asAddr, hl]
theorem resM1 {fn : Func} {p : Tmp} (h : fn.results = #[.cell p 24]) {tmps : Array Value} (hp : tmps.getD p undef = .pointer (some ⟨g, 0, none⟩)) (A : MBox w g m) :
    (results fn tmps).run Try.prog w = .ok (MV m) w := by
  have hl := run_lvM A
  simp only [results, h]
  rw [Array.getD_eq_getD_getElem?] at hp
  simp [hp, asAddr, hl]
/-! ### the form, plain -/
def isR (r : Int) : Bool := decide (0 ≤ r ∧ r < 16)
def kindB (m : Ml) : Bool :=
  if m.kind = 1 then true else if m.kind = 2 then decide (m.lo = 0) else if m.kind = 3 then decide (m.lo = 0 ∧ m.pn = 0) else if m.kind = 4 ∨ m.kind = 5 then decide (m.hi = 0) else if m.kind = 6 then decide (m.hi = m.lo + 1) else false
def ofKind (m : Ml) : Bool := if m.lo < 0 ∨ m.hi < m.lo ∨ 4611686018427387904 < m.hi then false else kindB m
def rise (b : Int) : List Pt → Bool
  | [] => true
  | p :: X => decide (b < p.cart ∧ p.cart < 64) && rise p.cart X
def inForm (m : Ml) (X : List Pt) : Bool := isR m.fr && (isR m.to_ && (!decide (m.fr = m.to_) && (ofKind m && rise (-1) X)))
def ckE (m : Ml) (X : List Pt) : Int := if inForm m X = true then 0 else 1
end Go.Proofs.Ytpnlfljndkfplaa
