/- BCn GBs GRe PRg PTw -/
import Derived.Test.YtcnciccljblkfaaGreatEf08
import Derived.Test.YtcnciccljblkfaaGreatEf01
import Derived.Deep.MidRow
import Derived.Test.YtcnciccljblkfaaGreatEf00
import Derived.RegionTactic
import Derived.Test.YtcnciccljblkfaaGreatEf10
namespace Go.Proofs.YtcnciccljblkfaaGreat
open Go.RowKit
theorem countP_more {D : List Rn} {p q : Rn → Bool} {a : Rn} (ha : a ∈ D) (hp : p a = true) (hq : q a = false) (hqp : ∀ x, q x = true → p x = true) : D.countP q + 1 ≤ D.countP p := by
 induction D with
 | nil => cases ha
 | cons x D ih =>
  have hm : D.countP q ≤ D.countP p := List.countP_mono_left (fun y _ h => hqp y h)
  rcases List.mem_cons.1 ha with rfl | h
  ·rw [List.countP_cons_of_pos hp, List.countP_cons_of_neg (by rw [hq]; decide)]
   omega
  ·have h1 := ih h
   cases hx : q x
   ·rw [List.countP_cons_of_neg (by rw [hx]; decide)]
    have h2 : D.countP p ≤ (x :: D).countP p := by rw [List.countP_cons]; omega
    omega
   ·rw [List.countP_cons_of_pos hx, List.countP_cons_of_pos (hqp x hx)]
    omega
theorem runs_count (D : List Rn) (r : Int) : ∀ (X : List Rn) (l : Int), 1 ≤ l → form l X → (∀ n, mem X n → (⟨r, n⟩ : Rn) ∈ D) → X.length ≤ D.countP (fun d => decide (d.lo = r) && decide (l ≤ d.hi))
 | [], _, _, _, _ => Nat.zero_le _
 | x :: X, l, hl, hf, hD => by
  have h1 := hf.1
  have h2 := hf.2.1
  have h3 := runs_count D r X (x.hi + 2) (by omega) hf.2.2.2 (fun n hn => hD n ((mem_cons _ _ _).2 (.inr hn)))
  have h4 : (⟨r, x.lo⟩ : Rn) ∈ D := hD x.lo ((mem_cons _ _ _).2 (.inl ⟨by omega, by have := hf.2.2.1; omega, Int.le_refl _, h2⟩))
  have h5 := countP_more (p := fun d => decide (d.lo = r) && decide (l ≤ d.hi)) (q := fun d => decide (d.lo = r) && decide (x.hi + 2 ≤ d.hi)) h4 (by simp; omega) (by simp; omega) (fun y hy => by simp at hy ⊢; omega)
  simp only [List.length_cons]
  omega
theorem cloud_count {N : Nat → List Rn} (D : List Rn) : ∀ k : Nat, (∀ r, r < k → form 1 (N r) ∧ ∀ n, mem (N r) n → (⟨(r : Int), n⟩ : Rn) ∈ D) → (cloudN N k).length ≤ D.countP (fun d => decide (0 ≤ d.lo) && decide (d.lo < (k : Int)))
 | 0, _ => Nat.zero_le _
 | k + 1, h => by
  have h1 := cloud_count D k (fun r hr => h r (by omega))
  have h2 := restOf_len (N k)
  have h3 := runs_count D k (N k) 1 (Int.le_refl _) (h k (by omega)).1 (h k (by omega)).2
  have h4 : D.countP (fun d => decide (0 ≤ d.lo) && decide (d.lo < (k : Int))) + D.countP (fun d => decide (d.lo = (k : Int)) && decide (1 ≤ d.hi)) ≤ D.countP (fun d => decide (0 ≤ d.lo) && decide (d.lo < ((k + 1 : Nat) : Int))) := by
   clear h h1 h2 h3
   induction D with
   | nil => simp
   | cons x D ih =>
    rw [List.countP_cons, List.countP_cons, List.countP_cons]
    have h5 : (if (decide (0 ≤ x.lo) && decide (x.lo < (k : Int))) = true then 1 else 0) + (if (decide (x.lo = (k : Int)) && decide (1 ≤ x.hi)) = true then 1 else 0) ≤ (if (decide (0 ≤ x.lo) && decide (x.lo < ((k + 1 : Nat) : Int))) = true then 1 else 0) := by
     simp only [Bool.and_eq_true, decide_eq_true_eq]
     split <;> split <;> split <;> omega
    omega
  rw [cloudN, List.length_append, tag_length]
  omega
theorem canon_count {G : Nat → List Rn} {P : Pst} (h : CanonOf G P) (D : List Rn) (hD : ∀ r : Nat, r < 16 → ∀ n, mem (G r) n → (⟨(r : Int), n⟩ : Rn) ∈ D) : P.cloud.length ≤ D.length := by
 obtain ⟨N, hN, rfl⟩ := h
 exact Nat.le_trans (cloud_count D 16 (fun r hr => ⟨(hN r hr).1, fun n hn => hD r hr n (((hN r hr).2 n).1 hn)⟩)) List.countP_le_length
end Go.Proofs.YtcnciccljblkfaaGreat
namespace Go.Proofs.YtcnciccljblkfaaGreat
theorem block_of_add (p : Addr) (m : Nat) : (p.add m).block = p.block := block_add p m
theorem add_nought (p : Addr) : p.add 0 = p := add_zero p
end Go.Proofs.YtcnciccljblkfaaGreat
namespace Go.Proofs.YtcnciccljblkfaaGreat
open Go.RowKit
variable {w w' : World} {g : Nat}
structure RecV where
 sku : ByteArray
 veco : Option Addr
 vecn : Nat
 vecc : Nat
 cloudo : Option Addr
 cloudn : Nat
 cloudc : Nat
def re0 : RecV := ⟨⟨#[]⟩, none, 0, 0, none, 0, 0⟩
def ReC (m : RecV) : Array Value := #[.string m.sku, .slice m.veco m.vecn m.vecc, .slice m.cloudo m.cloudn m.cloudc]
abbrev ReV (m : RecV) : Value := .agg (ReC m)
theorem ReC_size (m : RecV) : (ReC m).size = 3 := rfl
theorem ReC_one (m : RecV) : ∀ v ∈ (ReC m).toList, v.oneCell' = true := by
 intro v hv; simp [ReC] at hv; rcases hv with rfl | rfl | rfl <;> rfl
theorem cells_ReV (m : RecV) : (ReV m).cells = ReC m := by simp [Value.cells]
structure ReAt (w : World) (a : Addr) (m : RecV) : Prop where
 c0 : w.cell? a = some (.string m.sku)
 c1 : w.cell? (a.add 1) = some (.slice m.veco m.vecn m.vecc)
 c2 : w.cell? (a.add 2) = some (.slice m.cloudo m.cloudn m.cloudc)
theorem ReAt.on {a : Addr} {m : RecV} (S : ReAt w a m) (hb : Below w.heap.size w w') : ReAt w' a m := by
 have h0 := World.block_lt_of_cell? _ _ S.c0
 exact ⟨by rw [hb.cell h0]; exact S.c0, by rw [hb.cell (by rw [block_of_add]; exact h0)]; exact S.c1, by rw [hb.cell (by rw [block_of_add]; exact h0)]; exact S.c2⟩
def ReBox (w : World) (g : Nat) (m : RecV) : Prop := w.heap[g]? = some (.cells (ReC m) 52 (0, 0))
theorem ReBox.lt {m : RecV} (h : ReBox w g m) : g < w.heap.size := (Array.getElem?_eq_some_iff.1 h).1
theorem ReBox.below {m : RecV} (h : ReBox w g m) (hb : Below w.heap.size w w') : ReBox w' g m := (hb.block g h.lt).trans h
theorem ReBox.c0 {m : RecV} (h : ReBox w g m) : w.cell? ⟨g, 0, none⟩ = some (.string m.sku) := by unfold ReBox at h; simp [World.cell?, h, ReC]
theorem ReBox.c1 {m : RecV} (h : ReBox w g m) : w.cell? ⟨g, 1, none⟩ = some (.slice m.veco m.vecn m.vecc) := by unfold ReBox at h; simp [World.cell?, h, ReC]
theorem ReBox.c2 {m : RecV} (h : ReBox w g m) : w.cell? ⟨g, 2, none⟩ = some (.slice m.cloudo m.cloudn m.cloudc) := by unfold ReBox at h; simp [World.cell?, h, ReC]
theorem ReBox_new (w : World) (m : RecV) : ReBox (w.alloc (.cells (ReC m) 52)) w.heap.size m := by unfold ReBox; rw [heap_alloc_new]
def ldRe (v : Value) : Sem Value := Instr.loadAt 52 v
theorem ldRe_eq (v : Value) : Instr.loadAt 52 v = ldRe v := rfl
def stRe (p v : Value) : Sem Unit := Instr.storeAt 52 p v
theorem stRe_eq (p v : Value) : Instr.storeAt 52 p v = stRe p v := rfl
theorem sizeRe : (Tryz.prog.info? 52).map (·.size) = some 3 := by kernel_rfl
theorem ReBox.range {m : RecV} (h : ReBox w g m) : w.rangeAt g 0 (ReC m).toList := by
 intro j v hv
 rw [Nat.zero_add]
 unfold ReBox at h
 simp only [Array.getElem?_toList] at hv
 simp [World.cell?, h, hv]
theorem run_lvRe {m : RecV} (A : ReBox w g m) : (loadVar 52 ⟨g, 0, none⟩).run Tryz.prog w = .ok (ReV m) w := by
 have := run_loadVar_mid (P := Tryz.prog) w g 0 52 (ReC m).toList _ A.range Tryz.underlying52 rfl (by rw [sizeRe]; rfl)
 simpa using this
theorem run_ldRe {m : RecV} (A : ReBox w g m) : (ldRe (.pointer (some ⟨g, 0, none⟩))).run Tryz.prog w = .ok (.agg (ReC m)) w := by
 unfold ldRe
 simp only [Instr.loadAt, Instr.sureAddr, Sem.run_bind, Sem.run_pure, Result.andThen]
 exact run_lvRe A
theorem run_laRe {a : Addr} {m : RecV} (A : ReAt w a m) : (ldRe (.pointer (some a))).run Tryz.prog w = .ok (.agg (ReC m)) w := by
 have hl := run_loadCells_list (P := Tryz.prog) (w := w) a (ReC m).toList (fun j v hv => by
  match j, hv with
  | 0, hv => cases hv; rw [add_nought]; exact A.c0
  | 1, hv => cases hv; exact A.c1
  | 2, hv => cases hv; exact A.c2
  | j + 3, hv => simp [ReC] at hv)
 unfold ldRe
 simp only [Instr.loadAt, Instr.sureAddr, Sem.run_bind, Sem.run_pure, Result.andThen]
 cases hq : Tryz.prog.info? 52 with
 | none => have := sizeRe; simp [hq] at this
 | some x =>
  have hs : x.size = 3 := by have := sizeRe; simpa [hq] using this
  have hagg : (isAgg 52).run Tryz.prog w = .ok true w := by
   unfold isAgg
   rw [Sem.run_bind, run_underlying Tryz.underlying52 w]
   rfl
  have e2 : (ReC m).toList.length = 3 := rfl
  rw [e2] at hl
  simp [loadVar, Sem.run_bind, hagg, sizeOf, typeInfo, hq, hs, hl]
theorem run_stRe {m m' : RecV} (A : ReBox w g m) : (stRe (.pointer (some ⟨g, 0, none⟩)) (.agg (ReC m'))).run Tryz.prog w = .ok () (w.setRow g (ReC m')) := by
 unfold stRe
 have h := run_storeCells_from (P := Tryz.prog) g 52 (ReC m').toList 0 (ReC m) w A (by simp [ReC]) (ReC_one m')
 cases hq : Tryz.prog.info? 52 with
 | none => have := sizeRe; simp [hq] at this
 | some x =>
  have hs : x.size = 3 := by have := sizeRe; simpa [hq] using this
  simp only [Instr.storeAt, Instr.sureAddr, Sem.run_bind, Sem.run_pure, Result.andThen, storeVar, sizeOf, typeInfo, cells_ReV, ReC_size]
  simp at h
  simp [h, hq, hs]
theorem ReBox.setRow {m m' : RecV} (A : ReBox w g m) : ReBox (w.setRow g (ReC m')) g m' := setRow_heap w g _ _ _ _ A
theorem madeRe (w : World) (m : RecV) (g : Nat) (hg : w.heap.size = g) : ∃ w' : World, (stRe (.pointer (some ⟨g, 0, none⟩)) (.agg (ReC m))).run Tryz.prog (w.alloc (.cells (ReC re0) 52)) = .ok () w' ∧ ReBox w' g m ∧ Below w.heap.size w w' ∧ w'.heap.size = w.heap.size + 1 := by
 subst hg
 refine ⟨_, run_stRe (ReBox_new w _), (ReBox_new w _).setRow, below_setRow (below_new w _) (Nat.le_refl _), by simp [World.setRow]⟩
structure FacV where
 addso : Option Addr
 addsn : Nat
 addsc : Nat
 veco : Option Addr
 vecn : Nat
 vecc : Nat
 cloudo : Option Addr
 cloudn : Nat
 cloudc : Nat
 recso : Option Addr
 recsn : Nat
 recsc : Nat
def fa0 : FacV := ⟨none, 0, 0, none, 0, 0, none, 0, 0, none, 0, 0⟩
def FaC (m : FacV) : Array Value := #[.slice m.addso m.addsn m.addsc, .slice m.veco m.vecn m.vecc, .slice m.cloudo m.cloudn m.cloudc, .slice m.recso m.recsn m.recsc]
abbrev FaV (m : FacV) : Value := .agg (FaC m)
theorem FaC_size (m : FacV) : (FaC m).size = 4 := rfl
theorem cells_FaV (m : FacV) : (FaV m).cells = FaC m := by simp [Value.cells]
structure FaAt (w : World) (a : Addr) (m : FacV) : Prop where
 c0 : w.cell? a = some (.slice m.addso m.addsn m.addsc)
 c1 : w.cell? (a.add 1) = some (.slice m.veco m.vecn m.vecc)
 c2 : w.cell? (a.add 2) = some (.slice m.cloudo m.cloudn m.cloudc)
 c3 : w.cell? (a.add 3) = some (.slice m.recso m.recsn m.recsc)
def FaBox (w : World) (g : Nat) (m : FacV) : Prop := w.heap[g]? = some (.cells (FaC m) 29 (0, 0))
theorem FaBox.lt {m : FacV} (h : FaBox w g m) : g < w.heap.size := (Array.getElem?_eq_some_iff.1 h).1
theorem FaBox.below {m : FacV} (h : FaBox w g m) (hb : Below w.heap.size w w') : FaBox w' g m := (hb.block g h.lt).trans h
theorem FaBox.c0 {m : FacV} (h : FaBox w g m) : w.cell? ⟨g, 0, none⟩ = some (.slice m.addso m.addsn m.addsc) := by unfold FaBox at h; simp [World.cell?, h, FaC]
theorem FaBox.c1 {m : FacV} (h : FaBox w g m) : w.cell? ⟨g, 1, none⟩ = some (.slice m.veco m.vecn m.vecc) := by unfold FaBox at h; simp [World.cell?, h, FaC]
theorem FaBox.c2 {m : FacV} (h : FaBox w g m) : w.cell? ⟨g, 2, none⟩ = some (.slice m.cloudo m.cloudn m.cloudc) := by unfold FaBox at h; simp [World.cell?, h, FaC]
theorem FaBox.c3 {m : FacV} (h : FaBox w g m) : w.cell? ⟨g, 3, none⟩ = some (.slice m.recso m.recsn m.recsc) := by unfold FaBox at h; simp [World.cell?, h, FaC]
theorem FaBox_new (w : World) (m : FacV) : FaBox (w.alloc (.cells (FaC m) 29)) w.heap.size m := by unfold FaBox; rw [heap_alloc_new]
def ldFa (v : Value) : Sem Value := Instr.loadAt 29 v
theorem ldFa_eq (v : Value) : Instr.loadAt 29 v = ldFa v := rfl
def stFa (p v : Value) : Sem Unit := Instr.storeAt 29 p v
theorem stFa_eq (p v : Value) : Instr.storeAt 29 p v = stFa p v := rfl
theorem sizeFa : (Tryz.prog.info? 29).map (·.size) = some 4 := by kernel_rfl
theorem FaBox.range {m : FacV} (h : FaBox w g m) : w.rangeAt g 0 (FaC m).toList := by
 intro j v hv
 rw [Nat.zero_add]
 unfold FaBox at h
 simp only [Array.getElem?_toList] at hv
 simp [World.cell?, h, hv]
theorem run_lvFa {m : FacV} (A : FaBox w g m) : (loadVar 29 ⟨g, 0, none⟩).run Tryz.prog w = .ok (FaV m) w := by
 have := run_loadVar_mid (P := Tryz.prog) w g 0 29 (FaC m).toList _ A.range Tryz.underlying29 rfl (by rw [sizeFa]; rfl)
 simpa using this
theorem run_ldFa {m : FacV} (A : FaBox w g m) : (ldFa (.pointer (some ⟨g, 0, none⟩))).run Tryz.prog w = .ok (.agg (FaC m)) w := by
 unfold ldFa
 simp only [Instr.loadAt, Instr.sureAddr, Sem.run_bind, Sem.run_pure, Result.andThen]
 exact run_lvFa A
end Go.Proofs.YtcnciccljblkfaaGreat
namespace Go.Proofs.YtcnciccljblkfaaGreat
open Go.RowKit

def cntF (n : Nat) (l : Array Bool) : Nat := (List.range n).countP (fun i => !l.getD i true)
theorem countP_less {p q : Nat → Bool} {i : Nat} : ∀ {xs : List Nat}, (∀ j, q j = true → p j = true) → i ∈ xs → p i = true → q i = false → xs.countP q < xs.countP p
 | [], _, h, _, _ => by cases h
 | x :: xs, hpq, h, hp, hq => by
  have hle : xs.countP q ≤ xs.countP p := List.countP_mono_left (fun j _ => hpq j)
  rcases List.mem_cons.1 h with rfl | h
  ·rw [List.countP_cons_of_neg (by simp [hq]), List.countP_cons_of_pos (by simp [hp])]; omega
  ·have := countP_less hpq h hp hq
   rw [List.countP_cons, List.countP_cons]
   have hx := hpq x
   cases hqx : q x with
   | true => simp [hx hqx]; exact this
   | false => cases p x <;> simp <;> omega
theorem ready_mem {md : Region.Mode} {ops : Array Oper} {l : Array Bool} {i : Nat} (h : i ∈ Region.ready md ops l) : i < ops.size ∧ l.getD i true = false ∧ ∀ o, ops[i]? = some o → ∀ e ∈ o.after, Region.binds md e = true → l.getD e.on false = true := by
 unfold Region.ready at h
 rw [List.mem_filter, List.mem_range] at h
 obtain ⟨h1, h2⟩ := h
 simp only [Bool.and_eq_true, Bool.not_eq_true'] at h2
 refine ⟨h1, h2.1, fun o ho e he hb => ?_⟩
 have h3 := h2.2
 rw [ho] at h3
 simp only [Option.map_some, Option.getD_some] at h3
 have := Array.all_eq_true'.1 h3 e he
 simpa [hb] using this
theorem ready_nil {md : Region.Mode} {ops : Array Oper} {l : Array Bool} (h : cntF ops.size l = 0) : Region.ready md ops l = [] := by
 unfold Region.ready
 rw [List.filter_eq_nil_iff]
 intro i hi
 have := List.countP_eq_zero.1 h i hi
 simp at this
 simp [this]
theorem wpAny_inv {P : Program} {md : Region.Mode} {ops : Array Oper} {Q : Exit → Act → World → Prop} (I : Array Bool → Act → World → Prop) (hz : ∀ l a w, I l a w → l.size = ops.size)
  (hs : ∀ l a w, I l a w → ∀ i, i ∈ Region.ready md ops l → wpOp P ops Q i (fun a' w' => I (l.setIfInBounds i true) a' w') a w)
  (he : ∀ l a w, I l a w → Region.ready md ops l = [] → Q .normal a w) :
  ∀ (fuel : Nat) (l : Array Bool) (a : Act) (w : World), I l a w → cntF ops.size l ≤ fuel → wpAny P md ops Q fuel l a w
 | 0, l, a, w, h, hf => ⟨ready_nil (by omega), he l a w h (ready_nil (by omega))⟩
 | fuel + 1, l, a, w, h, hf => by
  refine ⟨he l a w h, fun i hi => wpOp_mono (fun a' w' h' => ?_) (hs l a w h i hi)⟩
  refine wpAny_inv I hz hs he fuel _ a' w' h' ?_
  obtain ⟨h1, h2, _⟩ := ready_mem hi
  have hl := hz l a w h
  have : cntF ops.size (l.setIfInBounds i true) < cntF ops.size l := by
   unfold cntF
   refine countP_less (i := i) (fun j hj => ?_) (List.mem_range.2 h1) (by simp only [h2]; rfl) ?_
   ·by_cases e : i = j
    ·subst e
     simp [Array.getD, hl, h1] at hj
    ·simpa [Array.getD_eq_getD_getElem?, Array.getElem?_setIfInBounds, e] using hj
   ·simp [Array.getD, hl, h1]
  omega
theorem wp_region_inv {P : Program} {ops : Array Oper} {Q : Exit → Act → World → Prop} {id : Nat} {a : Act} {w : World} (hm : P.follows .mixedOrders = true) (I : Array Bool → Act → World → Prop) (h0 : I (Array.replicate ops.size false) a w.drew) (hz : ∀ l a w, I l a w → l.size = ops.size)
  (hs : ∀ l a w, I l a w → ∀ i, i ∈ Region.ready .any ops l → wpOp P ops Q i (fun a' w' => I (l.setIfInBounds i true) a' w') a w)
  (he : ∀ l a w, I l a w → Region.ready .any ops l = [] → Q .normal a w) : (Code.region id ops true).wp P Q a w :=
 wp_region_any hm (wpAny_inv I hz hs he _ _ _ _ h0 (by unfold cntF; have := List.countP_le_length (p := fun i => !(Array.replicate ops.size false).getD i true) (l := List.range ops.size); simpa using this))
def backward (ops : Array Oper) : Bool := (List.range ops.size).all fun i => ((ops[i]?).map fun o => o.after.all fun e => !Region.binds .any e || decide (e.on < i)).getD true
theorem ready_done {ops : Array Oper} {l : Array Bool} (hb : backward ops = true) (hz : l.size = ops.size) (h : Region.ready .any ops l = []) : ∀ i, i < ops.size → l.getD i false = true := by
 intro i
 induction i using Nat.strongRecOn with
 | _ i ih =>
  intro hi
  unfold Region.ready at h
  rw [List.filter_eq_nil_iff] at h
  have h1 := h i (List.mem_range.2 hi)
  have h2 := List.all_eq_true.1 hb i (List.mem_range.2 hi)
  rw [Array.getElem?_eq_getElem hi] at h1 h2
  simp only [Option.map_some, Option.getD_some] at h1 h2
  have h3 : (ops[i].after.all fun e => !Region.binds .any e || l.getD e.on false) = true := by
   rw [Array.all_eq_true']
   intro e he
   have := Array.all_eq_true'.1 h2 e he
   cases hb : Region.binds .any e with
   | false => simp
   | true =>
    simp only [hb, Bool.not_true, Bool.false_or, decide_eq_true_eq] at this
    rw [ih e.on this (by omega)]
    simp
  rw [h3] at h1
  have hl : i < l.size := by omega
  simp [Array.getD, hl] at h1 ⊢
  exact h1
theorem set_same {l : Array Bool} {i : Nat} (h : i < l.size) : (l.setIfInBounds i true).getD i false = true := by simp [Array.getD, h]
theorem set_other {l : Array Bool} {i j : Nat} (h : i ≠ j) : (l.setIfInBounds i true).getD j false = l.getD j false := by simp [Array.getD_eq_getD_getElem?, h]
theorem no_true {l : Array Bool} {i : Nat} (h : l.getD i true = false) : l.getD i false = false := by
 rw [Array.getD_eq_getD_getElem?] at h ⊢
 cases hq : l[i]? with
 | none => rw [hq] at h; cases h
 | some x => rw [hq] at h; exact h
theorem rep_false (n i : Nat) : (Array.replicate n false).getD i false = false := by
 rw [Array.getD_eq_getD_getElem?, Array.getElem?_replicate]; split <;> rfl
end Go.Proofs.YtcnciccljblkfaaGreat
namespace Go.Proofs.YtcnciccljblkfaaGreat
open Go.RowKit

abbrev ptr (g : Nat) : Value := .pointer (some ⟨g, 0, none⟩)
def sl00 : Nat → Sl := fun _ => sl0
structure TwoI (wk : World) (pa pb : Pv) (l : Array Bool) (W : World) (va xa ca vb xb cb ba bb : Value) : Prop where
 sz : l.size = 10
 b : Below wk.heap.size wk W
 h0 : l.getD 0 false = true → va = PV pa
 h1 : l.getD 1 false = true → l.getD 8 false = false → ∃ g, xa = .slice (some ⟨g, 0, none⟩) 1 1 ∧ PRow W (some ⟨g, 0, none⟩) 1 [pa]
 h2 : l.getD 2 false = true → ∃ F, ca = SAv F ∧ RowsIn wk.heap.size W F (runsOf [pa]) ∧ (l.getD 6 false = true → ∀ g, ba = ptr g → FarS F g) ∧ (l.getD 7 false = true → ∀ g, bb = ptr g → FarS F g)
 h3 : l.getD 3 false = true → vb = PV pb
 h4 : l.getD 4 false = true → l.getD 8 false = false → ∃ g, xb = .slice (some ⟨g, 0, none⟩) 1 1 ∧ PRow W (some ⟨g, 0, none⟩) 1 [pb]
 h5 : l.getD 5 false = true → ∃ F, cb = SAv F ∧ RowsIn wk.heap.size W F (runsOf [pb]) ∧ (l.getD 6 false = true → ∀ g, ba = ptr g → FarS F g) ∧ (l.getD 7 false = true → ∀ g, bb = ptr g → FarS F g)
 h6 : l.getD 6 false = true → ∃ g, ba = ptr g ∧ wk.heap.size ≤ g ∧ g < W.heap.size ∧ (l.getD 8 false = false → Sets W g sl00) ∧ (l.getD 8 false = true → ∀ F, ca = SAv F → Sets W g F)
 h7 : l.getD 7 false = true → ∃ g, bb = ptr g ∧ wk.heap.size ≤ g ∧ g < W.heap.size ∧ (l.getD 9 false = false → Sets W g sl00) ∧ (l.getD 9 false = true → ∀ F, cb = SAv F → Sets W g F)
 h67 : l.getD 6 false = true → l.getD 7 false = true → ba ≠ bb
 c8 : l.getD 8 false = true → l.getD 2 false = true ∧ l.getD 5 false = true ∧ l.getD 6 false = true ∧ l.getD 7 false = true
 c9 : l.getD 9 false = true → l.getD 5 false = true ∧ l.getD 7 false = true
section
variable {wk : World} {pa pb : Pv} {l : Array Bool} {W W' : World} {va xa ca vb xb cb ba bb : Value}
theorem SA_inj {F G : Nat → Sl} (h : SAv F = SAv G) : SA F = SA G := by injection h
theorem Sets.same {w : World} {g : Nat} {F G : Nat → Sl} (h : Sets w g F) (e : SAv G = SAv F) : Sets w g G := by unfold Sets at h ⊢; rw [SA_inj e]; exact h
theorem FarS.lo {lo : Nat} {F : Nat → Sl} {G : Nat → List Rn} (h : RowsIn lo W F G) {g : Nat} (hg : g < lo) : FarS F g := fun r hr ad e => by have := h.lo r hr ad e; omega
theorem FarS.hi {lo : Nat} {F : Nat → Sl} {G : Nat → List Rn} (h : RowsIn lo W F G) : FarS F W.heap.size := fun r hr ad e => by have := h.hi r hr ad e; omega
theorem ptr_inj {g g' : Nat} (h : ptr g = ptr g') : g = g' := by simpa [ptr] using h
theorem TwoI.on (T : TwoI wk pa pb l W va xa ca vb xb cb ba bb) (hb : Below W.heap.size W W') : TwoI wk pa pb l W' va xa ca vb xb cb ba bb := by
 refine ⟨T.sz, T.b.trans (hb.mono T.b.size), T.h0, fun h h' => ?_, fun h => ?_, T.h3, fun h h' => ?_, fun h => ?_, fun h => ?_, fun h => ?_, T.h67, T.c8, T.c9⟩
 ·obtain ⟨g, e, R⟩ := T.h1 h h'; exact ⟨g, e, R.below hb⟩
 ·obtain ⟨F, e, R, f⟩ := T.h2 h; exact ⟨F, e, R.below hb, f⟩
 ·obtain ⟨g, e, R⟩ := T.h4 h h'; exact ⟨g, e, R.below hb⟩
 ·obtain ⟨F, e, R, f⟩ := T.h5 h; exact ⟨F, e, R.below hb, f⟩
 ·obtain ⟨g, e, h1, h2, h3, h4⟩ := T.h6 h; exact ⟨g, e, h1, Nat.lt_of_lt_of_le h2 hb.size, fun q => (h3 q).below hb, fun q F e => (h4 q F e).below hb⟩
 ·obtain ⟨g, e, h1, h2, h3, h4⟩ := T.h7 h; exact ⟨g, e, h1, Nat.lt_of_lt_of_le h2 hb.size, fun q => (h3 q).below hb, fun q F e => (h4 q F e).below hb⟩
theorem TwoI.s0 (T : TwoI wk pa pb l W va xa ca vb xb cb ba bb) : TwoI wk pa pb (l.setIfInBounds 0 true) W (PV pa) xa ca vb xb cb ba bb := by
 refine ⟨by simpa using T.sz, T.b, fun _ => rfl, ?_, ?_, ?_, ?_, ?_, ?_, ?_, ?_, ?_, ?_⟩ <;> simp only [set_other (show (0 : Nat) ≠ 1 by decide), set_other (show (0 : Nat) ≠ 2 by decide), set_other (show (0 : Nat) ≠ 3 by decide), set_other (show (0 : Nat) ≠ 4 by decide), set_other (show (0 : Nat) ≠ 5 by decide), set_other (show (0 : Nat) ≠ 6 by decide), set_other (show (0 : Nat) ≠ 7 by decide), set_other (show (0 : Nat) ≠ 8 by decide), set_other (show (0 : Nat) ≠ 9 by decide)]
 ·exact T.h1
 ·exact T.h2
 ·exact T.h3
 ·exact T.h4
 ·exact T.h5
 ·exact T.h6
 ·exact T.h7
 ·exact T.h67
 ·exact fun h => by have := T.c8 h; simp [this]
 ·exact fun h => by have := T.c9 h; simp [this]
theorem TwoI.s3 (T : TwoI wk pa pb l W va xa ca vb xb cb ba bb) : TwoI wk pa pb (l.setIfInBounds 3 true) W va xa ca (PV pb) xb cb ba bb := by
 refine ⟨by simpa using T.sz, T.b, ?_, ?_, ?_, fun _ => rfl, ?_, ?_, ?_, ?_, ?_, ?_, ?_⟩ <;> simp only [set_other (show (3 : Nat) ≠ 0 by decide), set_other (show (3 : Nat) ≠ 1 by decide), set_other (show (3 : Nat) ≠ 2 by decide), set_other (show (3 : Nat) ≠ 4 by decide), set_other (show (3 : Nat) ≠ 5 by decide), set_other (show (3 : Nat) ≠ 6 by decide), set_other (show (3 : Nat) ≠ 7 by decide), set_other (show (3 : Nat) ≠ 8 by decide), set_other (show (3 : Nat) ≠ 9 by decide)]
 ·exact T.h0
 ·exact T.h1
 ·exact T.h2
 ·exact T.h4
 ·exact T.h5
 ·exact T.h6
 ·exact T.h7
 ·exact T.h67
 ·exact fun h => by have := T.c8 h; simp [this]
 ·exact fun h => by have := T.c9 h; simp [this]
theorem TwoI.s1 (T : TwoI wk pa pb l W va xa ca vb xb cb ba bb) (hS : PSrc W pa) : TwoI wk pa pb (l.setIfInBounds 1 true) (W.alloc (.cells (PC pa) 26)) va (.slice (some ⟨W.heap.size, 0, none⟩) 1 1) ca vb xb cb ba bb := by
 have T := T.on (below_new W (.cells (PC pa) 26))
 refine ⟨by simpa using T.sz, T.b, ?_, fun _ _ => ⟨_, rfl, prow_one W pa hS⟩, ?_, ?_, ?_, ?_, ?_, ?_, ?_, ?_, ?_⟩ <;> simp only [set_other (show (1 : Nat) ≠ 0 by decide), set_other (show (1 : Nat) ≠ 2 by decide), set_other (show (1 : Nat) ≠ 3 by decide), set_other (show (1 : Nat) ≠ 4 by decide), set_other (show (1 : Nat) ≠ 5 by decide), set_other (show (1 : Nat) ≠ 6 by decide), set_other (show (1 : Nat) ≠ 7 by decide), set_other (show (1 : Nat) ≠ 8 by decide), set_other (show (1 : Nat) ≠ 9 by decide)]
 ·exact T.h0
 ·exact T.h2
 ·exact T.h3
 ·exact T.h4
 ·exact T.h5
 ·exact T.h6
 ·exact T.h7
 ·exact T.h67
 ·exact fun h => by have := T.c8 h; simp [this]
 ·exact fun h => by have := T.c9 h; simp [this]
theorem TwoI.s4 (T : TwoI wk pa pb l W va xa ca vb xb cb ba bb) (hS : PSrc W pb) : TwoI wk pa pb (l.setIfInBounds 4 true) (W.alloc (.cells (PC pb) 26)) va xa ca vb (.slice (some ⟨W.heap.size, 0, none⟩) 1 1) cb ba bb := by
 have T := T.on (below_new W (.cells (PC pb) 26))
 refine ⟨by simpa using T.sz, T.b, ?_, ?_, ?_, ?_, fun _ _ => ⟨_, rfl, prow_one W pb hS⟩, ?_, ?_, ?_, ?_, ?_, ?_⟩ <;> simp only [set_other (show (4 : Nat) ≠ 0 by decide), set_other (show (4 : Nat) ≠ 1 by decide), set_other (show (4 : Nat) ≠ 2 by decide), set_other (show (4 : Nat) ≠ 3 by decide), set_other (show (4 : Nat) ≠ 5 by decide), set_other (show (4 : Nat) ≠ 6 by decide), set_other (show (4 : Nat) ≠ 7 by decide), set_other (show (4 : Nat) ≠ 8 by decide), set_other (show (4 : Nat) ≠ 9 by decide)]
 ·exact T.h0
 ·exact T.h1
 ·exact T.h2
 ·exact T.h3
 ·exact T.h5
 ·exact T.h6
 ·exact T.h7
 ·exact T.h67
 ·exact fun h => by have := T.c8 h; simp [this]
 ·exact fun h => by have := T.c9 h; simp [this]
theorem TwoI.s2 (T : TwoI wk pa pb l W va xa ca vb xb cb ba bb) (h8 : l.getD 8 false = false) {F : Nat → Sl} (R : RowsIn W.heap.size W' F (runsOf [pa])) (hb : Below W.heap.size W W') : TwoI wk pa pb (l.setIfInBounds 2 true) W' va xa (SAv F) vb xb cb ba bb := by
 have hl := T.b.size
 have T' := T.on hb
 have f6 : l.getD 6 false = true → ∀ g, ba = ptr g → FarS F g := fun h g e => by
  obtain ⟨g', e', _, h2, _⟩ := T.h6 h
  obtain rfl := ptr_inj (e.symm.trans e')
  exact FarS.lo R h2
 have f7 : l.getD 7 false = true → ∀ g, bb = ptr g → FarS F g := fun h g e => by
  obtain ⟨g', e', _, h2, _⟩ := T.h7 h
  obtain rfl := ptr_inj (e.symm.trans e')
  exact FarS.lo R h2
 refine ⟨by simpa using T.sz, T'.b, ?_, ?_, ?_, ?_, ?_, ?_, ?_, ?_, ?_, ?_, ?_⟩ <;> simp only [set_same (show 2 < l.size by rw [T.sz]; decide), set_other (show (2 : Nat) ≠ 0 by decide), set_other (show (2 : Nat) ≠ 1 by decide), set_other (show (2 : Nat) ≠ 3 by decide), set_other (show (2 : Nat) ≠ 4 by decide), set_other (show (2 : Nat) ≠ 5 by decide), set_other (show (2 : Nat) ≠ 6 by decide), set_other (show (2 : Nat) ≠ 7 by decide), set_other (show (2 : Nat) ≠ 8 by decide), set_other (show (2 : Nat) ≠ 9 by decide)]
 ·exact T'.h0
 ·exact T'.h1
 ·exact fun _ => ⟨F, rfl, ⟨R.src, R.eq, fun r hr ad e => Nat.le_trans hl (R.lo r hr ad e), R.hi⟩, f6, f7⟩
 ·exact T'.h3
 ·exact T'.h4
 ·exact T'.h5
 ·intro h
  obtain ⟨g, e, h1, h2, h3, _⟩ := T'.h6 h
  exact ⟨g, e, h1, h2, h3, fun q => absurd q (by rw [h8]; decide)⟩
 ·exact T'.h7
 ·exact T'.h67
 ·exact fun h => by have := T.c8 h; simp [this]
 ·exact fun h => by have := T.c9 h; simp [this]
theorem TwoI.s5 (T : TwoI wk pa pb l W va xa ca vb xb cb ba bb) (h9 : l.getD 9 false = false) {F : Nat → Sl} (R : RowsIn W.heap.size W' F (runsOf [pb])) (hb : Below W.heap.size W W') : TwoI wk pa pb (l.setIfInBounds 5 true) W' va xa ca vb xb (SAv F) ba bb := by
 have hl := T.b.size
 have T' := T.on hb
 have f6 : l.getD 6 false = true → ∀ g, ba = ptr g → FarS F g := fun h g e => by
  obtain ⟨g', e', _, h2, _⟩ := T.h6 h
  obtain rfl := ptr_inj (e.symm.trans e')
  exact FarS.lo R h2
 have f7 : l.getD 7 false = true → ∀ g, bb = ptr g → FarS F g := fun h g e => by
  obtain ⟨g', e', _, h2, _⟩ := T.h7 h
  obtain rfl := ptr_inj (e.symm.trans e')
  exact FarS.lo R h2
 refine ⟨by simpa using T.sz, T'.b, ?_, ?_, ?_, ?_, ?_, ?_, ?_, ?_, ?_, ?_, ?_⟩ <;> simp only [set_same (show 5 < l.size by rw [T.sz]; decide), set_other (show (5 : Nat) ≠ 0 by decide), set_other (show (5 : Nat) ≠ 1 by decide), set_other (show (5 : Nat) ≠ 2 by decide), set_other (show (5 : Nat) ≠ 3 by decide), set_other (show (5 : Nat) ≠ 4 by decide), set_other (show (5 : Nat) ≠ 6 by decide), set_other (show (5 : Nat) ≠ 7 by decide), set_other (show (5 : Nat) ≠ 8 by decide), set_other (show (5 : Nat) ≠ 9 by decide)]
 ·exact T'.h0
 ·exact T'.h1
 ·exact T'.h2
 ·exact T'.h3
 ·exact T'.h4
 ·exact fun _ => ⟨F, rfl, ⟨R.src, R.eq, fun r hr ad e => Nat.le_trans hl (R.lo r hr ad e), R.hi⟩, f6, f7⟩
 ·exact T'.h6
 ·intro h
  obtain ⟨g, e, h1, h2, h3, _⟩ := T'.h7 h
  exact ⟨g, e, h1, h2, h3, fun q => absurd q (by rw [h9]; decide)⟩
 ·exact T'.h67
 ·exact fun h => by have := T.c8 h; simp [this]
 ·exact fun h => by have := T.c9 h; simp [this]
theorem TwoI.s6 (T : TwoI wk pa pb l W va xa ca vb xb cb ba bb) (h8 : l.getD 8 false = false) : TwoI wk pa pb (l.setIfInBounds 6 true) (W.alloc (.cells (SA sl00) 100)) va xa ca vb xb cb (ptr W.heap.size) bb := by
 have hl := T.b.size
 have T' := T.on (below_new W (.cells (SA sl00) 100))
 have n7 : l.getD 7 false = true → ptr W.heap.size ≠ bb := fun h e => by
  obtain ⟨g', e', _, h2, _⟩ := T.h7 h
  have := ptr_inj (e.trans e')
  omega
 refine ⟨by simpa using T.sz, T'.b, ?_, ?_, ?_, ?_, ?_, ?_, ?_, ?_, ?_, ?_, ?_⟩ <;> simp only [set_same (show 6 < l.size by rw [T.sz]; decide), set_other (show (6 : Nat) ≠ 0 by decide), set_other (show (6 : Nat) ≠ 1 by decide), set_other (show (6 : Nat) ≠ 2 by decide), set_other (show (6 : Nat) ≠ 3 by decide), set_other (show (6 : Nat) ≠ 4 by decide), set_other (show (6 : Nat) ≠ 5 by decide), set_other (show (6 : Nat) ≠ 7 by decide), set_other (show (6 : Nat) ≠ 8 by decide), set_other (show (6 : Nat) ≠ 9 by decide)]
 ·exact T'.h0
 ·exact T'.h1
 ·intro h
  obtain ⟨F, e, R, _, f7⟩ := T.h2 h
  exact ⟨F, e, R.below (below_new _ _), fun _ g eg => by obtain rfl := ptr_inj eg; exact FarS.hi R, f7⟩
 ·exact T'.h3
 ·exact T'.h4
 ·intro h
  obtain ⟨F, e, R, _, f7⟩ := T.h5 h
  exact ⟨F, e, R.below (below_new _ _), fun _ g eg => by obtain rfl := ptr_inj eg; exact FarS.hi R, f7⟩
 ·exact fun _ => ⟨_, rfl, hl, by simp, fun _ => sets_new W sl00, fun q => absurd q (by rw [h8]; decide)⟩
 ·exact T'.h7
 ·exact fun _ => n7
 ·exact fun h => by have := T.c8 h; simp [this]
 ·exact fun h => by have := T.c9 h; simp [this]
theorem TwoI.s7 (T : TwoI wk pa pb l W va xa ca vb xb cb ba bb) (h9 : l.getD 9 false = false) : TwoI wk pa pb (l.setIfInBounds 7 true) (W.alloc (.cells (SA sl00) 100)) va xa ca vb xb cb ba (ptr W.heap.size) := by
 have hl := T.b.size
 have T' := T.on (below_new W (.cells (SA sl00) 100))
 have n6 : l.getD 6 false = true → ba ≠ ptr W.heap.size := fun h e => by
  obtain ⟨g', e', _, h2, _⟩ := T.h6 h
  have := ptr_inj (e.symm.trans e')
  omega
 refine ⟨by simpa using T.sz, T'.b, ?_, ?_, ?_, ?_, ?_, ?_, ?_, ?_, ?_, ?_, ?_⟩ <;> simp only [set_same (show 7 < l.size by rw [T.sz]; decide), set_other (show (7 : Nat) ≠ 0 by decide), set_other (show (7 : Nat) ≠ 1 by decide), set_other (show (7 : Nat) ≠ 2 by decide), set_other (show (7 : Nat) ≠ 3 by decide), set_other (show (7 : Nat) ≠ 4 by decide), set_other (show (7 : Nat) ≠ 5 by decide), set_other (show (7 : Nat) ≠ 6 by decide), set_other (show (7 : Nat) ≠ 8 by decide), set_other (show (7 : Nat) ≠ 9 by decide)]
 ·exact T'.h0
 ·exact T'.h1
 ·intro h
  obtain ⟨F, e, R, f6, _⟩ := T.h2 h
  exact ⟨F, e, R.below (below_new _ _), f6, fun _ g eg => by obtain rfl := ptr_inj eg; exact FarS.hi R⟩
 ·exact T'.h3
 ·exact T'.h4
 ·intro h
  obtain ⟨F, e, R, f6, _⟩ := T.h5 h
  exact ⟨F, e, R.below (below_new _ _), f6, fun _ g eg => by obtain rfl := ptr_inj eg; exact FarS.hi R⟩
 ·exact T'.h6
 ·exact fun _ => ⟨_, rfl, hl, by simp, fun _ => sets_new W sl00, fun q => absurd q (by rw [h9]; decide)⟩
 ·exact fun h _ => n6 h
 ·exact fun h => by have := T.c8 h; simp [this]
 ·exact fun h => by have := T.c9 h; simp [this]
theorem TwoI.s8 (T : TwoI wk pa pb l W va xa ca vb xb cb ba bb) (h2 : l.getD 2 false = true) (h5 : l.getD 5 false = true) (h6 : l.getD 6 false = true) (h7 : l.getD 7 false = true) (h8 : l.getD 8 false = false) :
  ∃ F g, ca = SAv F ∧ ba = ptr g ∧ Sets W g sl00 ∧ TwoI wk pa pb (l.setIfInBounds 8 true) (W.setRow g (SA F)) va xa ca vb xb cb ba bb := by
 obtain ⟨F, eF, RF, f6, f7⟩ := T.h2 h2
 obtain ⟨g, eg, g1, g2, g3, _⟩ := T.h6 h6
 refine ⟨F, g, eF, eg, g3 h8, ?_⟩
 have hz : ∀ cs : Array Value, (W.setRow g cs).heap.size = W.heap.size := fun cs => by simp [World.setRow]
 refine ⟨by simpa using T.sz, below_setRow T.b g1, ?_, ?_, ?_, ?_, ?_, ?_, ?_, ?_, ?_, ?_, ?_⟩ <;> simp only [set_same (show 8 < l.size by rw [T.sz]; decide), set_other (show (8 : Nat) ≠ 0 by decide), set_other (show (8 : Nat) ≠ 1 by decide), set_other (show (8 : Nat) ≠ 2 by decide), set_other (show (8 : Nat) ≠ 3 by decide), set_other (show (8 : Nat) ≠ 4 by decide), set_other (show (8 : Nat) ≠ 5 by decide), set_other (show (8 : Nat) ≠ 6 by decide), set_other (show (8 : Nat) ≠ 7 by decide), set_other (show (8 : Nat) ≠ 9 by decide)]
 ·exact T.h0
 ·exact fun _ h => by cases h
 ·exact fun h => ⟨F, eF, RF.off (f6 h6 g eg) _, f6, f7⟩
 ·exact T.h3
 ·exact fun _ h => by cases h
 ·intro h
  obtain ⟨G, eG, RG, k6, k7⟩ := T.h5 h
  exact ⟨G, eG, RG.off (k6 h6 g eg) _, k6, k7⟩
 ·exact fun _ => ⟨g, eg, g1, by rw [hz]; exact g2, fun h => (by cases h), fun _ F' e' => ((g3 h8).setRow (F' := F)).same (e'.symm.trans eF)⟩
 ·intro h
  obtain ⟨g', e', k1, k2, k3, k4⟩ := T.h7 h
  have hne : g' ≠ g := fun e => T.h67 h6 h (by rw [eg, e', e])
  exact ⟨g', e', k1, by rw [hz]; exact k2, fun q => (setRow_other _ _ _ _ hne).trans (k3 q), fun q G eG => (setRow_other _ _ _ _ hne).trans (k4 q G eG)⟩
 ·exact T.h67
 ·exact fun _ => by simp [h2, h5, h6, h7]
 ·exact fun h => by have := T.c9 h; simp [this]
theorem TwoI.s9 (T : TwoI wk pa pb l W va xa ca vb xb cb ba bb) (h5 : l.getD 5 false = true) (h7 : l.getD 7 false = true) (h8 : l.getD 8 false = true) (h9 : l.getD 9 false = false) :
  ∃ F g, cb = SAv F ∧ bb = ptr g ∧ Sets W g sl00 ∧ TwoI wk pa pb (l.setIfInBounds 9 true) (W.setRow g (SA F)) va xa ca vb xb cb ba bb := by
 obtain ⟨F, eF, RF, f6, f7⟩ := T.h5 h5
 obtain ⟨g, eg, g1, g2, g3, _⟩ := T.h7 h7
 refine ⟨F, g, eF, eg, g3 h9, ?_⟩
 have hz : ∀ cs : Array Value, (W.setRow g cs).heap.size = W.heap.size := fun cs => by simp [World.setRow]
 refine ⟨by simpa using T.sz, below_setRow T.b g1, ?_, ?_, ?_, ?_, ?_, ?_, ?_, ?_, ?_, ?_, ?_⟩ <;> simp only [set_same (show 9 < l.size by rw [T.sz]; decide), set_other (show (9 : Nat) ≠ 0 by decide), set_other (show (9 : Nat) ≠ 1 by decide), set_other (show (9 : Nat) ≠ 2 by decide), set_other (show (9 : Nat) ≠ 3 by decide), set_other (show (9 : Nat) ≠ 4 by decide), set_other (show (9 : Nat) ≠ 5 by decide), set_other (show (9 : Nat) ≠ 6 by decide), set_other (show (9 : Nat) ≠ 7 by decide), set_other (show (9 : Nat) ≠ 8 by decide)]
 ·exact T.h0
 ·exact fun _ h => by rw [h8] at h; cases h
 ·intro h
  obtain ⟨G, eG, RG, k6, k7⟩ := T.h2 h
  exact ⟨G, eG, RG.off (k7 h7 g eg) _, k6, k7⟩
 ·exact T.h3
 ·exact fun _ h => by rw [h8] at h; cases h
 ·exact fun h => ⟨F, eF, RF.off (f7 h7 g eg) _, f6, f7⟩
 ·intro h
  obtain ⟨g', e', k1, k2, k3, k4⟩ := T.h6 h
  have hne : g' ≠ g := fun e => T.h67 h h7 (by rw [eg, e', e])
  exact ⟨g', e', k1, by rw [hz]; exact k2, fun q => (setRow_other _ _ _ _ hne).trans (k3 q), fun q G eG => (setRow_other _ _ _ _ hne).trans (k4 q G eG)⟩
 ·exact fun _ => ⟨g, eg, g1, by rw [hz]; exact g2, fun h => (by cases h), fun _ F' e' => ((g3 h9).setRow (F' := F)).same (e'.symm.trans eF)⟩
 ·exact T.h67
 ·exact fun h => by have := T.c8 h; simp [this]
 ·exact fun _ => by simp [h5, h7]
theorem TwoI.all (T : TwoI wk pa pb l W va xa ca vb xb cb ba bb) (h : ∀ i, i < 10 → l.getD i false = true) :
  ∃ F G g g', va = PV pa ∧ vb = PV pb ∧ ca = SAv F ∧ cb = SAv G ∧ ba = ptr g ∧ bb = ptr g' ∧ g ≠ g' ∧ wk.heap.size ≤ g ∧ wk.heap.size ≤ g' ∧ Sets W g F ∧ Sets W g' G ∧ RowsIn wk.heap.size W F (runsOf [pa]) ∧ RowsIn wk.heap.size W G (runsOf [pb]) ∧ FarS F g ∧ FarS G g ∧ Below wk.heap.size wk W := by
 obtain ⟨F, eF, RF, f6, _⟩ := T.h2 (h 2 (by decide))
 obtain ⟨G, eG, RG, k6, _⟩ := T.h5 (h 5 (by decide))
 obtain ⟨g, eg, g1, _, _, g4⟩ := T.h6 (h 6 (by decide))
 obtain ⟨g', eg', g1', _, _, g4'⟩ := T.h7 (h 7 (by decide))
 exact ⟨F, G, g, g', T.h0 (h 0 (by decide)), T.h3 (h 3 (by decide)), eF, eG, eg, eg', fun e => T.h67 (h 6 (by decide)) (h 7 (by decide)) (by rw [eg, eg', e]), g1, g1', g4 (h 8 (by decide)) F eF, g4' (h 9 (by decide)) G eG, RF, RG, f6 (h 6 (by decide)) g eg, k6 (h 6 (by decide)) g eg, T.b⟩
theorem TwoI.start (wk : World) (pa pb : Pv) (va xa ca vb xb cb ba bb : Value) : TwoI wk pa pb (Array.replicate 10 false) wk.drew va xa ca vb xb cb ba bb := by
 refine ⟨by simp, below_drew1 wk, ?_, ?_, ?_, ?_, ?_, ?_, ?_, ?_, ?_, ?_, ?_⟩ <;> simp only [rep_false] <;> (intro h; cases h)
end
end Go.Proofs.YtcnciccljblkfaaGreat

