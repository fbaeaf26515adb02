/- vector's Has, Norm. -/
import Derived.Test.YtojpjakpcihacaaGreatRKit
import Derived.Deep.RegionWith
import Derived.Laws.MakeOwn

namespace Go.Proofs.YtojpjakpcihacaaGreat.V
open Go.RowKit


/-- a list that was handed in: its numbers, nil or not -/
def Src (w : World) (ao : Option Addr) (m c : Nat) (Z : List Int) : Prop :=
  Z.length = m ∧ (ao = none → m = 0 ∧ c = 0) ∧ ∀ ad, ao = some ad → ∀ t, t < m → w.cell? (ad.add t) = some (.int .i64 (Z.getD t 0))
theorem Src.below {w w' : World} {ao : Option Addr} {m c : Nat} {Z : List Int} (h : Src w ao m c Z) (hb : Below w.heap.size w w') : Src w' ao m c Z :=
  ⟨h.1, h.2.1, fun ad ha t ht => (hb.cell (World.block_lt_of_cell? w _ (h.2.2 ad ha t ht))).trans (h.2.2 ad ha t ht)⟩

def isR (r : Int) : Bool := decide (0 ≤ r) && decide (r < 16)
/-- a number, brought between 0 and 1000000000 -/
def clamp (z : Int) : Int := if z < 0 then 0 else if 1000000000 < z then 1000000000 else z
/-- the number at a replica -/
def at' (Z : List Int) (r : Nat) : Int := if r < 16 then clamp (Z.getD r 0) else 0
def atI (Z : List Int) (r : Int) : Int := if isR r = true then at' Z r.toNat else 0

theorem isRep_any (r : Int) (w : World) : Calls Tryz.prog 52 #[.int .i64 r] w fun e w' => e = .returned (.bool (isR r)) ∧ w' = w := by
  go_enter Tryz.func52, Tryz.ntmps52
  by_cases h0 : 0 ≤ r
  · have HR : Hid (isR r = decide (r < 16)) := by show _ = _; unfold isR; rw [decide_eq_true h0, Bool.true_and]
    go_wp2
    go_ret
    exact ⟨ret_bool HR.out.symm, rfl⟩
  · have HR : Hid (isR r = false) := by show _ = _; unfold isR; rw [decide_eq_false h0, Bool.false_and]
    go_wp2
    go_ret
    exact ⟨ret_bool HR.out.symm, rfl⟩

theorem at_any (ao : Option Addr) (n cap : Nat) (Z : List Int) (r : Int) (w : World) (hS : Src w ao n cap Z) :
    Calls Tryz.prog 30 #[.slice ao n cap, .int .i64 r] w fun e w' => e = .returned (.int .i64 (atI Z r)) ∧ w' = w := by
  obtain ⟨x, Hx⟩ : ∃ x, Hid (isR r = x) := ⟨_, rfl⟩
  cases x with
  | false =>
    have HA : Hid (atI Z r = 0) := by show _ = _; unfold atI; rw [Hx.out]; rfl
    go_enter Tryz.func30, Tryz.ntmps30
    go_wp2_with (go_at_call 52; refine (isRep_any r _).mono ?_; rintro e w' ⟨rfl, rfl⟩; rw [Hx.out])
    go_ret
    exact ⟨ret_int HA.out.symm, rfl⟩
  | true =>
    have hr : 0 ≤ r ∧ r < 16 := by have := Hx.out; unfold isR at this; simpa using this
    have HA : Hid (atI Z r = clamp (Z.getD r.toNat 0)) := by show _ = _; unfold atI at'; rw [if_pos Hx.out, if_pos (by omega)]
    obtain ⟨k, rfl⟩ : ∃ k : Nat, r = k := ⟨r.toNat, by omega⟩
    rw [Int.toNat_natCast] at HA
    by_cases hlt : k < n
    · cases ao with
      | none => have := hS.2.1 rfl; omega
      | some ad =>
        have hcell := hS.2.2 ad rfl k hlt
        obtain ⟨z, hz⟩ : ∃ z, Z.getD k 0 = z := ⟨_, rfl⟩
        rw [hz] at hcell HA
        clear hz hS
        by_cases h1 : z < 0
        · have HC : Hid (atI Z k = 0) := by show _ = _; rw [HA.out]; unfold clamp; rw [if_pos h1]
          go_enter Tryz.func30, Tryz.ntmps30
          go_wp2_with (go_at_call 52; refine (isRep_any k _).mono ?_; rintro e w' ⟨rfl, rfl⟩; rw [Hx.out])
          go_ret
          exact ⟨ret_int HC.out.symm, rfl⟩
        · by_cases h2 : 1000000000 < z
          · have HC : Hid (atI Z k = 1000000000) := by show _ = _; rw [HA.out]; unfold clamp; rw [if_neg h1, if_pos h2]
            go_enter Tryz.func30, Tryz.ntmps30
            go_wp2_with (go_at_call 52; refine (isRep_any k _).mono ?_; rintro e w' ⟨rfl, rfl⟩; rw [Hx.out])
            go_ret
            exact ⟨ret_int HC.out.symm, rfl⟩
          · have HC : Hid (atI Z k = z) := by show _ = _; rw [HA.out]; unfold clamp; rw [if_neg h1, if_neg h2]
            go_enter Tryz.func30, Tryz.ntmps30
            go_wp2_with (go_at_call 52; refine (isRep_any k _).mono ?_; rintro e w' ⟨rfl, rfl⟩; rw [Hx.out])
            go_ret
            exact ⟨ret_int HC.out.symm, rfl⟩
    · have HC : Hid (atI Z k = 0) := by
        show _ = _; rw [HA.out, List.getD, List.getElem?_eq_none (by have := hS.1; omega)]; rfl
      go_enter Tryz.func30, Tryz.ntmps30
      go_wp2_with (go_at_call 52; refine (isRep_any k _).mono ?_; rintro e w' ⟨rfl, rfl⟩; rw [Hx.out])
      go_ret
      exact ⟨ret_int HC.out.symm, rfl⟩


def VC (f : Nat → Int) : Array Value := ((List.range 16).map fun r => Value.int .i64 (f r)).toArray
abbrev VA (f : Nat → Int) : Value := .agg (VC f)
theorem VC_size (f : Nat → Int) : (VC f).size = 16 := by simp [VC]
theorem VC_at (f : Nat → Int) (t : Nat) (h : t < 16) : (VC f)[t]? = some (.int .i64 (f t)) := by simp [VC, h]
theorem VC_congr {f g : Nat → Int} (h : ∀ r, r < 16 → f r = g r) : VC f = VC g := by
  unfold VC; congr 1; apply List.map_congr_left; intro r hr; rw [h r (by simpa using hr)]
theorem VA_congr {f g : Nat → Int} (h : ∀ r, r < 16 → f r = g r) : VA f = VA g := by unfold VA; rw [VC_congr h]
theorem VC_one (f : Nat → Int) : ∀ v ∈ (VC f).toList, v.oneCell' = true := by
  intro v hv; simp only [VC, List.mem_map] at hv; obtain ⟨r, _, rfl⟩ := hv; rfl
theorem cells_VA (f : Nat → Int) : (VA f).cells = VC f := by
  simp [Value.cells]
/-- the block g is an array variable with these numbers -/
def Arr (w : World) (g : Nat) (T : TypeId) (f : Nat → Int) : Prop := w.heap[g]? = some (.cells (VC f) T (0, 0))
def fset (f : Nat → Int) (k : Nat) (z : Int) : Nat → Int := fun r => if r = k then z else f r

section
variable {w w' : World} {g : Nat} {T : TypeId} {f : Nat → Int}
theorem Arr.lt (h : Arr w g T f) : g < w.heap.size := (Array.getElem?_eq_some_iff.1 h).1
theorem Arr.cell (h : Arr w g T f) (t : Nat) (ht : t < 16) : w.cell? ⟨g, t, none⟩ = some (.int .i64 (f t)) := by
  unfold Arr at h; simp [World.cell?, h, VC_at f t ht]
theorem Arr.frozen (h : Arr w g T f) (t : Nat) : w.frozen? ⟨g, t, none⟩ = false := by unfold Arr at h; simp [World.frozen?, h]
theorem VC_set (f : Nat → Int) (t : Nat) (z : Int) : (VC f).setIfInBounds t (.int .i64 z) = VC (fset f t z) := by
  apply Array.ext
  · simp [VC]
  · intro i h1 h2
    simp [VC] at h2
    by_cases h : t = i
    · subst h; simp [VC, fset]
    · have : ¬ i = t := fun e => h e.symm
      simp [VC, fset, h, this]
theorem Arr.set (h : Arr w g T f) (t : Nat) (z : Int) : Arr (w.setCell ⟨g, t, none⟩ (.int .i64 z)) g T (fset f t z) := by
  unfold Arr at h ⊢
  simp [World.setCell, h, Array.getElem?_modify, ← VC_set]
theorem Arr.congr {f' : Nat → Int} (h : Arr w g T f) (e : ∀ r, r < 16 → f r = f' r) : Arr w g T f' := by
  unfold Arr at h ⊢; rw [← VC_congr e]; exact h
theorem Arr.setOther (h : Arr w g T f) (a : Addr) (v : Value) (hne : a.block ≠ g) : Arr (w.setCell a v) g T f := by
  unfold Arr at h ⊢
  simp [World.setCell, h, Array.getElem?_modify, hne]
theorem Arr.below (h : Arr w g T f) (hb : Below w.heap.size w w') : Arr w' g T f := (hb.block g h.lt).trans h
theorem Arr.alloc (h : Arr w g T f) (o : Obj) : Arr (w.alloc o) g T f := (Below.heap_alloc w o g h.lt).trans h
theorem arr_new (w : World) (T : TypeId) (f : Nat → Int) : Arr (w.alloc (.cells (VC f) T)) w.heap.size T f := by unfold Arr; rw [heap_alloc_new]
theorem arr_new2 (w : World) (o : Obj) (T : TypeId) (f : Nat → Int) : Arr ((w.alloc o).alloc (.cells (VC f) T)) (w.heap.size + 1) T f := by
  have := arr_new (w.alloc o) T f
  rwa [World.size_alloc] at this
theorem zeros_VC : (#[.int .i64 0, .int .i64 0, .int .i64 0, .int .i64 0, .int .i64 0, .int .i64 0, .int .i64 0, .int .i64 0, .int .i64 0, .int .i64 0, .int .i64 0, .int .i64 0, .int .i64 0, .int .i64 0, .int .i64 0, .int .i64 0] : Array Value) = VC (fun _ => 0) := rfl
end

def ld56 (v : Value) : Sem Value := Instr.loadAt 165 v
theorem ld56_eq (v : Value) : Instr.loadAt 165 v = ld56 v := rfl
def st56 (p v : Value) : Sem Unit := Instr.storeAt 165 p v
theorem st56_eq (p v : Value) : Instr.storeAt 165 p v = st56 p v := rfl
theorem size56 : (Tryz.prog.info? 165).map (·.size) = some 16 := by kernel_rfl
theorem run_lv56 {w : World} {g : Nat} {T : TypeId} {f : Nat → Int} (A : Arr w g T f) : (loadVar 165 ⟨g, 0, none⟩).run Tryz.prog w = .ok (VA f) w := by
  have hl := run_loadCells_list (P := Tryz.prog) (w := w) ⟨g, 0, none⟩ (VC f).toList (fun j v hv => by
    rw [Addr.add_lit, Nat.zero_add]
    have hj : j < 16 := by have := (List.getElem?_eq_some_iff.1 hv).1; simpa [VC] using this
    rw [A.cell j hj]
    have := VC_at f j hj
    simp only [Array.getElem?_toList] at hv
    rw [this] at hv; exact hv)
  cases hq : Tryz.prog.info? 165 with
  | none => have := size56; simp [hq] at this
  | some x =>
    have hs : x.size = 16 := by have := size56; simpa [hq] using this
    have hagg : (isAgg 165).run Tryz.prog w = .ok true w := by
      unfold isAgg
      rw [Sem.run_bind, run_underlying Tryz.underlying165 w]
      rfl
    have e : (VC f).toList.length = 16 := by simp [VC]
    rw [e] at hl
    simp [loadVar, Sem.run_bind, hagg, sizeOf, typeInfo, hq, hs, hl, VA]
theorem run_ld56 {w : World} {g : Nat} {T : TypeId} {f : Nat → Int} (A : Arr w g T f) : (ld56 (.pointer (some ⟨g, 0, none⟩))).run Tryz.prog w = .ok (VA f) w := by
  unfold ld56
  simp only [Instr.loadAt, Instr.sureAddr, Sem.run_bind, Sem.run_pure, Result.andThen]
  exact run_lv56 A
theorem run_st56 {w : World} {g : Nat} {T : TypeId} {f f' : Nat → Int} (A : Arr w g T f) :
    (st56 (.pointer (some ⟨g, 0, none⟩)) (VA f')).run Tryz.prog w = .ok () (w.setRow g (VC f')) := by
  unfold st56
  have h := run_storeCells_from (P := Tryz.prog) g T (VC f').toList 0 (VC f) w A (by simp [VC]) (VC_one f')
  cases hq : Tryz.prog.info? 165 with
  | none => have := size56; simp [hq] at this
  | some x =>
    have hs : x.size = 16 := by have := size56; simpa [hq] using this
    simp only [Instr.storeAt, Instr.sureAddr, Sem.run_bind, Sem.run_pure, Result.andThen, storeVar, sizeOf, typeInfo, cells_VA, VC_size]
    simp at h
    simp [h, hq, hs]
theorem Arr.setRow {w : World} {g : Nat} {T : TypeId} {f f' : Nat → Int} (A : Arr w g T f) : Arr (w.setRow g (VC f')) g T f' := setRow_heap w g _ _ _ _ A
theorem Arr.setRowOther {w : World} {g g' : Nat} {T : TypeId} {f f' : Nat → Int} (A : Arr w g T f) (h : g ≠ g') : Arr (w.setRow g' (VC f')) g T f := (setRow_other w g' g _ h).trans A
theorem below_setRow {w w' : World} {n g : Nat} {cs : Array Value} (h : Below n w w') (hg : n ≤ g) : Below n w (w'.setRow g cs) :=
  h.trans ⟨rfl, rfl, rfl, by simp [World.setRow], fun k hk => setRow_other _ _ _ _ (by omega)⟩
theorem below_setCell {w w' : World} {n : Nat} {a : Addr} {v : Value} (h : Below n w w') (hg : n ≤ a.block) : Below n w (w'.setCell a v) :=
  h.trans ⟨rfl, rfl, rfl, by simp [World.setCell], fun k hk => by simp [World.setCell, Array.getElem?_modify, show ¬ a.block = k by omega]⟩
theorem res56 {fn : Func} {p : Tmp} {w : World} {g : Nat} {T : TypeId} {f : Nat → Int} (h : fn.results = #[.cell p 165]) {tmps : Array Value} (hp : tmps.getD p undef = .pointer (some ⟨g, 0, none⟩)) (A : Arr w g T f) :
    (results fn tmps).run Tryz.prog w = .ok (VA f) w := by
  have hl := run_lv56 A
  simp only [results, h]
  rw [Array.getD_eq_getD_getElem?] at hp
  simp [hp, asAddr, hl]
attribute [local go_sem ↓] ld56_eq st56_eq

set_option maxHeartbeats 800000 in
theorem meant_any (ao : Option Addr) (n cap : Nat) (Z : List Int) (w : World) (hS : Src w ao n cap Z) :
    Calls Tryz.prog 143 #[.slice ao n cap] w fun e w' => e = .returned (VA (at' Z)) ∧ Below w.heap.size w w' := by
  have HS := hide hS
  clear hS
  go_enter Tryz.func143, Tryz.ntmps143
  go_wp2
  go_loopw [5] (fun i wr => ∃ k : Nat, k ≤ 16 ∧ i = .int .i64 k ∧ Hid (Arr wr w.heap.size 165 fun _ => 0) ∧ Hid (Arr wr (w.heap.size + 1) 165 fun r => if r < k then at' Z r else 0) ∧ Hid (Below w.heap.size w wr)) (fun i _ => 16 - (intOf i).toNat)
  case atStart =>
    rw [zeros_VC]
    exact ⟨0, Nat.zero_le _, rfl, (arr_new w 165 _).alloc _, (arr_new2 w _ 165 _).congr (fun r _ => by simp), ((Below.refl _ _).alloc (Nat.le_refl _) _).alloc (by simp) _⟩
  case round =>
    obtain ⟨k, hk, rfl, A0, A1, HB⟩ := hrel
    by_cases hlt : k < 16
    · have HC := hide (at_any ao n cap Z k wr (HS.out.below HB.out))
      have HI : Hid (atI Z k = at' Z k) := by show _ = _; unfold atI; rw [if_pos (by simp [isR]; omega), Int.toNat_natCast]
      have c1 := A1.out.cell k hlt
      have z1 := A1.out.frozen k
      go_wp2_with (go_at_call 30; refine HC.out.mono ?_; rintro e w' ⟨rfl, rfl⟩)
      go_roundw
      case rel =>
        refine ⟨k + 1, by omega, by go_num, A0.out.setOther _ _ (by simp), (A1.out.set k _).congr (fun r _ => ?_), below_setCell HB.out (by simp)⟩
        rw [HI.out]; unfold fset
        by_cases e : r = k
        · subst e; simp
        · by_cases h : r < k
          · simp [e, h]; omega
          · simp [e, h]; omega
      case measure => simp [intOf]; omega
    · obtain rfl : k = 16 := by omega
      have A1' := A1.out.congr (f' := at' Z) (fun r hr => by simp [hr])
      have l1 := run_ld56 A1'
      have s1 := run_st56 (f' := at' Z) A0.out
      go_wp2
      refine bodyPost_ret (v := VA (at' Z)) ?_ rfl ⟨rfl, below_setRow HB.out (Nat.le_refl _)⟩
      exact res56 Tryz.results143 rfl (A0.out.setRow)
end Go.Proofs.YtojpjakpcihacaaGreat.V

namespace Go.Proofs.YtojpjakpcihacaaGreat.V
open Go.RowKit
attribute [local go_sem] zeros_VC

def hasD (Z : List Int) (r m : Int) : Bool := decide (1 ≤ m) && decide (m ≤ atI Z r)
theorem clamp_bd (z : Int) : 0 ≤ clamp z ∧ clamp z ≤ 1000000000 := by unfold clamp; split; omega; split <;> omega
theorem at'_bd (Z : List Int) (r : Nat) : 0 ≤ at' Z r ∧ at' Z r ≤ 1000000000 := by
  unfold at'; split
  · exact clamp_bd _
  · omega
theorem atI_bd (Z : List Int) (r : Int) : 0 ≤ atI Z r ∧ atI Z r ≤ 1000000000 := by
  unfold atI; split
  · exact at'_bd _ _
  · omega

theorem at_below (ao : Option Addr) (n cap : Nat) (Z : List Int) (r : Int) (w : World) (hS : Src w ao n cap Z) :
    Calls Tryz.prog 30 #[.slice ao n cap, .int .i64 r] w fun e w' => e = .returned (.int .i64 (atI Z r)) ∧ Below w.heap.size w w' := by
  refine (at_any ao n cap Z r w hS).mono ?_
  rintro e w' ⟨rfl, rfl⟩
  exact ⟨rfl, Below.refl _ _⟩

theorem below_drew {n : Nat} {w w' : World} (h : Below n w w') : Below n w w'.drew := h.trans ⟨rfl, rfl, rfl, Nat.le_refl _, fun _ _ => rfl⟩
attribute [local go_sem ↓] ld56_eq st56_eq
attribute [local go_sem] zeros_VC cells_VA

/-- how many of the first k numbers, without the noughts at the end -/
def topN (f : Nat → Int) : Nat → Nat
  | 0 => 0
  | k + 1 => if f k = 0 then topN f k else k + 1
def top (f : Nat → Int) : Nat := topN f 16
/-- the list in form -/
def short (f : Nat → Int) : List Int := (List.range (top f)).map f
theorem topN_le (f : Nat → Int) (k : Nat) : topN f k ≤ k := by
  induction k with
  | zero => simp [topN]
  | succ k ih => unfold topN; split <;> omega
theorem top_le (f : Nat → Int) : top f ≤ 16 := topN_le f 16
theorem short_length (f : Nat → Int) : (short f).length = top f := by simp [short]
/-- a list is handed back, new or not; old memory stands -/
def Gives (w w' : World) (e : Ending) (Z : List Int) : Prop := ∃ ao n c, e = .returned (.slice ao n c) ∧ Src w' ao n c Z ∧ Below w.heap.size w w'

/-- .. and it is new -/
def GivesN (w w' : World) (e : Ending) (Z : List Int) : Prop := ∃ ao n c, e = .returned (.slice ao n c) ∧ Src w' ao n c Z ∧ Below w.heap.size w w' ∧ ∀ ad, ao = some ad → w.heap.size ≤ ad.block
theorem GivesN.gives {w w' : World} {e : Ending} {Z : List Int} (h : GivesN w w' e Z) : Gives w w' e Z := by
  obtain ⟨ao, n, c, he, S, b, _⟩ := h
  exact ⟨ao, n, c, he, S, b⟩

theorem info3 : (Tryz.prog.info? 3).map (fun i => (i.zero, i.size, i.bytes)) = some (some (.int .i64 0), 1, 8) := by kernel_rfl
theorem madeZeros (n : Nat) : madeCells #[Value.int .i64 0] n = ((List.replicate n (0 : Int)).map (Value.int .i64)).toArray := by
  apply Array.ext
  · simp [madeCells]
  · intro i h1 h2
    simp [madeCells, Nat.mod_one]
theorem run_mk (w : World) (n : Nat) (hn : n ≤ 16) : (Instr.makeSlice 22 (.int .i64 (n : Int)) (.int .i64 (n : Int))).run Tryz.prog w = .ok (.slice (some ⟨w.heap.size, 0, none⟩) n n) (w.alloc (.cells ((List.replicate n (0 : Int)).map (Value.int .i64)).toArray 3)) := by
  obtain ⟨i0, hi, hz0, hz1, hz2⟩ := info_parts info3
  have h := run_make (P := Tryz.prog) w 22 3 i0 (.int .i64 0) Tryz.underlying22 hi hz0 .i64 .i64 (n : Int) (n : Int) (by omega) (by omega) (by rw [hz2]; omega) (by omega)
  rw [hz1, Int.toNat_natCast, Nat.mul_one] at h
  have hcl : (Value.int .i64 0).cells = #[Value.int .i64 0] := rfl
  rw [hcl, madeZeros] at h
  exact h

def mk22 (a b : Value) : Sem Value := Instr.makeSlice 22 a b
theorem mk22_eq (a b : Value) : Instr.makeSlice 22 a b = mk22 a b := rfl
def cp22 (a b : Value) : Sem Value := Builtin.copy_ #[22, 22] 3 #[a, b]
theorem cp22_eq (a b : Value) : Builtin.copy_ #[22, 22] 3 #[a, b] = cp22 a b := rfl
attribute [local go_sem ↓] mk22_eq cp22_eq
theorem size3 : (Tryz.prog.info? 3).map (·.size) = some 1 := by kernel_rfl
/-- make and copy, one behind the other: the world behind them -/
theorem made_copied (f : Nat → Int) (w wr : World) (k : Nat) (K : Int) (hK : K = (k : Int)) (hk : k ≤ 16) (hT : k = top f) (A : Arr wr w.heap.size 165 f) (hz : wr.heap.size = w.heap.size + 1) (hb : Below w.heap.size w wr) :
    ∃ w1 w2 : World, (mk22 (.int .i64 K) (.int .i64 K)).run Tryz.prog wr = .ok (.slice (some ⟨w.heap.size + 1, 0, none⟩) k k) w1 ∧
      (cp22 (.slice (some ⟨w.heap.size + 1, 0, none⟩) k k) (.slice (some ⟨w.heap.size, 0, none⟩) k 16)).run Tryz.prog w1 = .ok (goInt K) w2 ∧
      Src w2 (some ⟨w.heap.size + 1, 0, none⟩) k k (short f) ∧ Below w.heap.size w w2 := by
  subst hK
  have h1 := run_mk wr k hk
  rw [hz] at h1
  have A1 := A.alloc (.cells ((List.replicate k (0 : Int)).map (Value.int .i64)).toArray 3)
  have hg : (wr.alloc (.cells ((List.replicate k (0 : Int)).map (Value.int .i64)).toArray 3)).heap[w.heap.size + 1]? = some (.cells ((List.replicate k (0 : Int)).map (Value.int .i64)).toArray 3 (0, 0)) := by
    rw [← hz]; exact heap_alloc_new wr _
  have hl : ((short f).map (Value.int .i64)).length = k := by rw [List.length_map, short_length, hT]
  have h2 := run_copy_row (P := Tryz.prog) (wr.alloc (.cells ((List.replicate k (0 : Int)).map (Value.int .i64)).toArray 3)) 22 22 3 3 (w.heap.size + 1) 0 k k ⟨w.heap.size, 0, none⟩ k 16 _ 3 ((short f).map (Value.int .i64)) Tryz.underlying22 size3 hg
    (by rw [hl]; simp) (fun j v hv => by
      rw [Addr.add_lit, Nat.zero_add]
      simp only [List.getElem?_map, Option.map_eq_some_iff] at hv
      obtain ⟨z, hz1, rfl⟩ := hv
      have hj : j < top f := by rw [← short_length]; exact (List.getElem?_eq_some_iff.1 hz1).1
      have h16 := top_le f
      rw [A1.cell j (by omega)]
      simp [short, hj] at hz1
      rw [hz1]) (by rw [hl]; simp) (fun v hv => by simp only [List.mem_map] at hv; obtain ⟨z, _, rfl⟩ := hv; rfl)
  rw [hl] at h2
  refine ⟨_, _, h1, h2, ?_, ?_⟩
  · refine ⟨by rw [short_length, hT], fun h => (by cases h), fun ad h t ht => ?_⟩
    obtain rfl := Option.some.inj h
    simp only [Addr.add_lit, Nat.zero_add]
    rw [cell_setRow_same _ _ t _ _ _ _ hg]
    have hl2 : (short f).length = k := by rw [short_length, hT]
    have ht' : t < (short f).length := by omega
    simp [List.getD]
    rw [List.getElem?_eq_getElem ht']; rfl
  · exact below_setRow (hb.alloc (by omega) _) (by omega)

set_option maxHeartbeats 1600000 in
theorem list_new (f : Nat → Int) (w : World) : Calls Tryz.prog 144 #[VA f] w fun e w' => GivesN w w' e (short f) := by
  go_enter Tryz.func144, Tryz.ntmps144
  go_wp2
  go_loopw [3] (fun i wr => ∃ k : Nat, k ≤ 16 ∧ i = .int .i64 k ∧ Hid (topN f k = top f) ∧ Hid (Arr wr w.heap.size 165 f) ∧ Hid (wr.heap.size = w.heap.size + 1) ∧ Hid (Below w.heap.size w wr)) (fun i _ => (intOf i).toNat)
  case atStart => exact ⟨16, Nat.le_refl _, rfl, rfl, arr_new w 165 f, by show _ = _; simp, (Below.refl _ _).alloc (Nat.le_refl _) _⟩
  case round =>
    obtain ⟨k, hk, rfl, HT, A, HZ, HB⟩ := hrel
    cases k with
    | zero =>
      have ht : 0 = top f := by rw [← HT.out]; rfl
      obtain ⟨w1, w2, m1, m2, S, b2⟩ := made_copied f w wr 0 0 rfl hk ht A.out HZ.out HB.out
      have S' := hide S
      have b2' := hide b2
      clear S b2 ht
      go_wp2
      go_ret
      exact ⟨_, _, _, rfl, S'.out, b2'.out, fun ad h => by obtain rfl := Option.some.inj h; simp⟩
    | succ k =>
      have c1 := A.out.cell k (by omega)
      obtain ⟨z, Hz⟩ : ∃ z, Hid (f k = z) := ⟨_, rfl⟩
      rw [Hz.out] at c1
      by_cases h0 : z = 0
      · subst h0
        have HN : Hid (topN f k = top f) := by show _ = _; rw [← HT.out]; conv => rhs; unfold topN; rw [if_pos Hz.out]
        go_wp2
        go_roundw
        case rel => exact ⟨k, by omega, by go_num, HN, A, HZ, HB⟩
        case measure => simp [intOf]
      · have ht : k + 1 = top f := by rw [← HT.out]; unfold topN; rw [Hz.out, if_neg h0]
        have h0' : (z == 0) = false := by simpa using h0
        obtain ⟨w1, w2, m1, m2, S, b2⟩ := made_copied f w wr (k + 1) ((k : Int) + 1) (by omega) hk ht A.out HZ.out HB.out
        have S' := hide S
        have b2' := hide b2
        clear S b2 ht h0
        have q1 : (k : Int) + 1 ≤ 16 := by omega
        have q0 : 0 ≤ (k : Int) + 1 := by omega
        go_wp2
        go_ret
        exact ⟨_, _, _, rfl, S'.out, b2'.out, fun ad h => by obtain rfl := Option.some.inj h; simp⟩
theorem list_any (f : Nat → Int) (w : World) : Calls Tryz.prog 144 #[VA f] w fun e w' => Gives w w' e (short f) := (list_new f w).mono fun _ _ h => h.gives
theorem Gives.on {w w1 w' : World} {e : Ending} {Z : List Int} (h : Gives w1 w' e Z) (hb : Below w.heap.size w w1) : Gives w w' e Z := by
  obtain ⟨ao, n, c, he, S, b⟩ := h
  exact ⟨ao, n, c, he, S, hb.trans (b.mono hb.size)⟩
theorem below_on2 {a b c : World} (h1 : Below a.heap.size a b) (h2 : Below b.heap.size b c) : Below a.heap.size a c := h1.trans (h2.mono h1.size)

theorem norm_new (ao : Option Addr) (n cap : Nat) (Z : List Int) (w : World) (hS : Src w ao n cap Z) :
    Calls Tryz.prog 122 #[.slice ao n cap] w fun e w' => GivesN w w' e (short (at' Z)) := by
  have HS := hide hS
  clear hS
  go_enter Tryz.func122, Tryz.ntmps122
  go_wp2_with fail
  refine (meant_any ao n cap Z _ HS.out).mono ?_
  rintro e w1 ⟨rfl, b1⟩
  go_wp2_with fail
  refine (list_new (at' Z) _).mono ?_
  rintro e w2 ⟨ao2, n2, c2, rfl, S2, b2, f2⟩
  have B := hide (below_on2 b1 b2)
  have S := hide S2
  have F := hide (fun ad h => Nat.le_trans b1.size (f2 ad h))
  clear b1 b2 S2 f2
  go_wp2_with fail
  go_ret
  exact ⟨_, _, _, rfl, S.out, B.out, F.out⟩
theorem norm_any (ao : Option Addr) (n cap : Nat) (Z : List Int) (w : World) (hS : Src w ao n cap Z) :
    Calls Tryz.prog 122 #[.slice ao n cap] w fun e w' => Gives w w' e (short (at' Z)) := (norm_new ao n cap Z w hS).mono fun _ _ h => h.gives
theorem Src.off {w w' : World} {ao : Option Addr} {n c : Nat} {Z : List Int} (h : Src w ao n c Z) (hk : ∀ ad, ao = some ad → w'.heap[ad.block]? = w.heap[ad.block]?) : Src w' ao n c Z :=
  ⟨h.1, h.2.1, fun ad ha t ht => by rw [← h.2.2 ad ha t ht]; unfold World.cell?; rw [block_add, hk ad ha]⟩
end Go.Proofs.YtojpjakpcihacaaGreat.V
