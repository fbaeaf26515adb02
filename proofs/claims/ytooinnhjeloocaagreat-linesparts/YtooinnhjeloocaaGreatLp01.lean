/- VKa -/
import Derived.Test.YtooinnhjeloocaaGreatLp00
import Derived.Deep.RegionWith
import Derived.Laws.MakeOwn
namespace Go.Proofs.YtooinnhjeloocaaGreat.V
open Go.RowKit


/-- a list that was handed in: its numbers, nil or not -/
def Src (w : World) (ao : Option Addr) (m c : Nat) (Z : List Int) : Prop :=
  Z.length = m ∧ (ao = none → m = 0 ∧ c = 0) ∧ ∀ ad, ao = some ad → ∀ t, t < m → w.cell? (ad.add t) = some (.int .i64 (Z.getD t 0))
theorem Src.below {w w' : World} {ao : Option Addr} {m c : Nat} {Z : List Int} (h : Src w ao m c Z) (hb : Below w.heap.size w w') : Src w' ao m c Z :=
  ⟨h.1, h.2.1, fun ad ha t ht => (hb.cell (World.block_lt_of_cell? w _ (h.2.2 ad ha t ht))).trans (h.2.2 ad ha t ht)⟩

def isR (r : Int) : Bool := decide (0 ≤ r) && decide (r < 16)
/-- a number, brought between 0 and 1000000000 -/
def clamp (z : Int) : Int := if z < 0 then 0 else if 1000000000 < z then 1000000000 else z
/-- the number at a replica -/
def at' (Z : List Int) (r : Nat) : Int := if r < 16 then clamp (Z.getD r 0) else 0
def atI (Z : List Int) (r : Int) : Int := if isR r = true then at' Z r.toNat else 0

theorem isRep_any (r : Int) (w : World) : Calls Tryz.prog 68 #[.int .i64 r] w fun e w' => e = .returned (.bool (isR r)) ∧ w' = w := by
  go_enter Tryz.func68, Tryz.ntmps68
  by_cases h0 : 0 ≤ r
  · have HR : Hid (isR r = decide (r < 16)) := by show _ = _; unfold isR; rw [decide_eq_true h0, Bool.true_and]
    go_wp2
    go_ret
    exact ⟨ret_bool HR.out.symm, rfl⟩
  · have HR : Hid (isR r = false) := by show _ = _; unfold isR; rw [decide_eq_false h0, Bool.false_and]
    go_wp2
    go_ret
    exact ⟨ret_bool HR.out.symm, rfl⟩

theorem at_any (ao : Option Addr) (n cap : Nat) (Z : List Int) (r : Int) (w : World) (hS : Src w ao n cap Z) :
    Calls Tryz.prog 51 #[.slice ao n cap, .int .i64 r] w fun e w' => e = .returned (.int .i64 (atI Z r)) ∧ w' = w := by
  obtain ⟨x, Hx⟩ : ∃ x, Hid (isR r = x) := ⟨_, rfl⟩
  cases x with
  | false =>
    have HA : Hid (atI Z r = 0) := by show _ = _; unfold atI; rw [Hx.out]; rfl
    go_enter Tryz.func51, Tryz.ntmps51
    go_wp2_with (go_at_call 68; refine (isRep_any r _).mono ?_; rintro e w' ⟨rfl, rfl⟩; rw [Hx.out])
    go_ret
    exact ⟨ret_int HA.out.symm, rfl⟩
  | true =>
    have hr : 0 ≤ r ∧ r < 16 := by have := Hx.out; unfold isR at this; simpa using this
    have HA : Hid (atI Z r = clamp (Z.getD r.toNat 0)) := by show _ = _; unfold atI at'; rw [if_pos Hx.out, if_pos (by omega)]
    obtain ⟨k, rfl⟩ : ∃ k : Nat, r = k := ⟨r.toNat, by omega⟩
    rw [Int.toNat_natCast] at HA
    by_cases hlt : k < n
    · cases ao with
      | none => have := hS.2.1 rfl; omega
      | some ad =>
        have hcell := hS.2.2 ad rfl k hlt
        obtain ⟨z, hz⟩ : ∃ z, Z.getD k 0 = z := ⟨_, rfl⟩
        rw [hz] at hcell HA
        clear hz hS
        by_cases h1 : z < 0
        · have HC : Hid (atI Z k = 0) := by show _ = _; rw [HA.out]; unfold clamp; rw [if_pos h1]
          go_enter Tryz.func51, Tryz.ntmps51
          go_wp2_with (go_at_call 68; refine (isRep_any k _).mono ?_; rintro e w' ⟨rfl, rfl⟩; rw [Hx.out])
          go_ret
          exact ⟨ret_int HC.out.symm, rfl⟩
        · by_cases h2 : 1000000000 < z
          · have HC : Hid (atI Z k = 1000000000) := by show _ = _; rw [HA.out]; unfold clamp; rw [if_neg h1, if_pos h2]
            go_enter Tryz.func51, Tryz.ntmps51
            go_wp2_with (go_at_call 68; refine (isRep_any k _).mono ?_; rintro e w' ⟨rfl, rfl⟩; rw [Hx.out])
            go_ret
            exact ⟨ret_int HC.out.symm, rfl⟩
          · have HC : Hid (atI Z k = z) := by show _ = _; rw [HA.out]; unfold clamp; rw [if_neg h1, if_neg h2]
            go_enter Tryz.func51, Tryz.ntmps51
            go_wp2_with (go_at_call 68; refine (isRep_any k _).mono ?_; rintro e w' ⟨rfl, rfl⟩; rw [Hx.out])
            go_ret
            exact ⟨ret_int HC.out.symm, rfl⟩
    · have HC : Hid (atI Z k = 0) := by
        show _ = _; rw [HA.out, List.getD, List.getElem?_eq_none (by have := hS.1; omega)]; rfl
      go_enter Tryz.func51, Tryz.ntmps51
      go_wp2_with (go_at_call 68; refine (isRep_any k _).mono ?_; rintro e w' ⟨rfl, rfl⟩; rw [Hx.out])
      go_ret
      exact ⟨ret_int HC.out.symm, rfl⟩


def VC (f : Nat → Int) : Array Value := ((List.range 16).map fun r => Value.int .i64 (f r)).toArray
abbrev VA (f : Nat → Int) : Value := .agg (VC f)
theorem VC_size (f : Nat → Int) : (VC f).size = 16 := by simp [VC]
theorem VC_at (f : Nat → Int) (t : Nat) (h : t < 16) : (VC f)[t]? = some (.int .i64 (f t)) := by simp [VC, h]
theorem VC_congr {f g : Nat → Int} (h : ∀ r, r < 16 → f r = g r) : VC f = VC g := by
  unfold VC; congr 1; apply List.map_congr_left; intro r hr; rw [h r (by simpa using hr)]
theorem VA_congr {f g : Nat → Int} (h : ∀ r, r < 16 → f r = g r) : VA f = VA g := by unfold VA; rw [VC_congr h]
theorem VC_one (f : Nat → Int) : ∀ v ∈ (VC f).toList, v.oneCell' = true := by
  intro v hv; simp only [VC, List.mem_map] at hv; obtain ⟨r, _, rfl⟩ := hv; rfl
theorem cells_VA (f : Nat → Int) : (VA f).cells = VC f := by
  simp [Value.cells]
/-- the block g is an array variable with these numbers -/
def Arr (w : World) (g : Nat) (T : TypeId) (f : Nat → Int) : Prop := w.heap[g]? = some (.cells (VC f) T (0, 0))
def fset (f : Nat → Int) (k : Nat) (z : Int) : Nat → Int := fun r => if r = k then z else f r

section
variable {w w' : World} {g : Nat} {T : TypeId} {f : Nat → Int}
theorem Arr.lt (h : Arr w g T f) : g < w.heap.size := (Array.getElem?_eq_some_iff.1 h).1
theorem Arr.cell (h : Arr w g T f) (t : Nat) (ht : t < 16) : w.cell? ⟨g, t, none⟩ = some (.int .i64 (f t)) := by
  unfold Arr at h; simp [World.cell?, h, VC_at f t ht]
theorem Arr.frozen (h : Arr w g T f) (t : Nat) : w.frozen? ⟨g, t, none⟩ = false := by unfold Arr at h; simp [World.frozen?, h]
theorem VC_set (f : Nat → Int) (t : Nat) (z : Int) : (VC f).setIfInBounds t (.int .i64 z) = VC (fset f t z) := by
  apply Array.ext
  · simp [VC]
  · intro i h1 h2
    simp [VC] at h2
    by_cases h : t = i
    · subst h; simp [VC, fset]
    · have : ¬ i = t := fun e => h e.symm
      simp [VC, fset, h, this]
theorem Arr.set (h : Arr w g T f) (t : Nat) (z : Int) : Arr (w.setCell ⟨g, t, none⟩ (.int .i64 z)) g T (fset f t z) := by
  unfold Arr at h ⊢
  simp [World.setCell, h, Array.getElem?_modify, ← VC_set]
theorem Arr.congr {f' : Nat → Int} (h : Arr w g T f) (e : ∀ r, r < 16 → f r = f' r) : Arr w g T f' := by
  unfold Arr at h ⊢; rw [← VC_congr e]; exact h
theorem Arr.setOther (h : Arr w g T f) (a : Addr) (v : Value) (hne : a.block ≠ g) : Arr (w.setCell a v) g T f := by
  unfold Arr at h ⊢
  simp [World.setCell, h, Array.getElem?_modify, hne]
theorem Arr.below (h : Arr w g T f) (hb : Below w.heap.size w w') : Arr w' g T f := (hb.block g h.lt).trans h
theorem Arr.alloc (h : Arr w g T f) (o : Obj) : Arr (w.alloc o) g T f := (Below.heap_alloc w o g h.lt).trans h
theorem arr_new (w : World) (T : TypeId) (f : Nat → Int) : Arr (w.alloc (.cells (VC f) T)) w.heap.size T f := by unfold Arr; rw [heap_alloc_new]
theorem arr_new2 (w : World) (o : Obj) (T : TypeId) (f : Nat → Int) : Arr ((w.alloc o).alloc (.cells (VC f) T)) (w.heap.size + 1) T f := by
  have := arr_new (w.alloc o) T f
  rwa [World.size_alloc] at this
theorem zeros_VC : (#[.int .i64 0, .int .i64 0, .int .i64 0, .int .i64 0, .int .i64 0, .int .i64 0, .int .i64 0, .int .i64 0, .int .i64 0, .int .i64 0, .int .i64 0, .int .i64 0, .int .i64 0, .int .i64 0, .int .i64 0, .int .i64 0] : Array Value) = VC (fun _ => 0) := rfl
end

def ld56 (v : Value) : Sem Value := Instr.loadAt 121 v
theorem ld56_eq (v : Value) : Instr.loadAt 121 v = ld56 v := rfl
def st56 (p v : Value) : Sem Unit := Instr.storeAt 121 p v
theorem st56_eq (p v : Value) : Instr.storeAt 121 p v = st56 p v := rfl
theorem size56 : (Tryz.prog.info? 121).map (·.size) = some 16 := by kernel_rfl
theorem run_lv56 {w : World} {g : Nat} {T : TypeId} {f : Nat → Int} (A : Arr w g T f) : (loadVar 121 ⟨g, 0, none⟩).run Tryz.prog w = .ok (VA f) w := by
  have hl := run_loadCells_list (P := Tryz.prog) (w := w) ⟨g, 0, none⟩ (VC f).toList (fun j v hv => by
    rw [Addr.add_lit, Nat.zero_add]
    have hj : j < 16 := by have := (List.getElem?_eq_some_iff.1 hv).1; simpa [VC] using this
    rw [A.cell j hj]
    have := VC_at f j hj
    simp only [Array.getElem?_toList] at hv
    rw [this] at hv; exact hv)
  cases hq : Tryz.prog.info? 121 with
  | none => have := size56; simp [hq] at this
  | some x =>
    have hs : x.size = 16 := by have := size56; simpa [hq] using this
    have hagg : (isAgg 121).run Tryz.prog w = .ok true w := by
      unfold isAgg
      rw [Sem.run_bind, run_underlying Tryz.underlying121 w]
      rfl
    have e : (VC f).toList.length = 16 := by simp [VC]
    rw [e] at hl
    simp [loadVar, Sem.run_bind, hagg, sizeOf, typeInfo, hq, hs, hl, VA]
theorem run_ld56 {w : World} {g : Nat} {T : TypeId} {f : Nat → Int} (A : Arr w g T f) : (ld56 (.pointer (some ⟨g, 0, none⟩))).run Tryz.prog w = .ok (VA f) w := by
  unfold ld56
  simp only [Instr.loadAt, Instr.sureAddr, Sem.run_bind, Sem.run_pure, Result.andThen]
  exact run_lv56 A
theorem run_st56 {w : World} {g : Nat} {T : TypeId} {f f' : Nat → Int} (A : Arr w g T f) :
    (st56 (.pointer (some ⟨g, 0, none⟩)) (VA f')).run Tryz.prog w = .ok () (w.setRow g (VC f')) := by
  unfold st56
  have h := run_storeCells_from (P := Tryz.prog) g T (VC f').toList 0 (VC f) w A (by simp [VC]) (VC_one f')
  cases hq : Tryz.prog.info? 121 with
  | none => have := size56; simp [hq] at this
  | some x =>
    have hs : x.size = 16 := by have := size56; simpa [hq] using this
    simp only [Instr.storeAt, Instr.sureAddr, Sem.run_bind, Sem.run_pure, Result.andThen, storeVar, sizeOf, typeInfo, cells_VA, VC_size]
    simp at h
    simp [h, hq, hs]
theorem Arr.setRow {w : World} {g : Nat} {T : TypeId} {f f' : Nat → Int} (A : Arr w g T f) : Arr (w.setRow g (VC f')) g T f' := setRow_heap w g _ _ _ _ A
theorem Arr.setRowOther {w : World} {g g' : Nat} {T : TypeId} {f f' : Nat → Int} (A : Arr w g T f) (h : g ≠ g') : Arr (w.setRow g' (VC f')) g T f := (setRow_other w g' g _ h).trans A
theorem below_setRow {w w' : World} {n g : Nat} {cs : Array Value} (h : Below n w w') (hg : n ≤ g) : Below n w (w'.setRow g cs) :=
  h.trans ⟨rfl, rfl, rfl, by simp [World.setRow], fun k hk => setRow_other _ _ _ _ (by omega)⟩
theorem below_setCell {w w' : World} {n : Nat} {a : Addr} {v : Value} (h : Below n w w') (hg : n ≤ a.block) : Below n w (w'.setCell a v) :=
  h.trans ⟨rfl, rfl, rfl, by simp [World.setCell], fun k hk => by simp [World.setCell, Array.getElem?_modify, show ¬ a.block = k by omega]⟩
theorem res56 {fn : Func} {p : Tmp} {w : World} {g : Nat} {T : TypeId} {f : Nat → Int} (h : fn.results = #[.cell p 121]) {tmps : Array Value} (hp : tmps.getD p undef = .pointer (some ⟨g, 0, none⟩)) (A : Arr w g T f) :
    (results fn tmps).run Tryz.prog w = .ok (VA f) w := by
  have hl := run_lv56 A
  simp only [results, h]
  rw [Array.getD_eq_getD_getElem?] at hp
  simp [hp, asAddr, hl]
attribute [local go_sem ↓] ld56_eq st56_eq
set_option maxHeartbeats 800000 in
theorem meant_any (ao : Option Addr) (n cap : Nat) (Z : List Int) (w : World) (hS : Src w ao n cap Z) :
    Calls Tryz.prog 90 #[.slice ao n cap] w fun e w' => e = .returned (VA (at' Z)) ∧ Below w.heap.size w w' := by
  have HS := hide hS
  clear hS
  go_enter Tryz.func90, Tryz.ntmps90
  go_wp2
  go_loopw [5] (fun i wr => ∃ k : Nat, k ≤ 16 ∧ i = .int .i64 k ∧ Hid (Arr wr w.heap.size 121 fun _ => 0) ∧ Hid (Arr wr (w.heap.size + 1) 121 fun r => if r < k then at' Z r else 0) ∧ Hid (Below w.heap.size w wr)) (fun i _ => 16 - (intOf i).toNat)
  case atStart =>
    rw [zeros_VC]
    exact ⟨0, Nat.zero_le _, rfl, (arr_new w 121 _).alloc _, (arr_new2 w _ 121 _).congr (fun r _ => by simp), ((Below.refl _ _).alloc (Nat.le_refl _) _).alloc (by simp) _⟩
  case round =>
    obtain ⟨k, hk, rfl, A0, A1, HB⟩ := hrel
    by_cases hlt : k < 16
    · have HC := hide (at_any ao n cap Z k wr (HS.out.below HB.out))
      have HI : Hid (atI Z k = at' Z k) := by show _ = _; unfold atI; rw [if_pos (by simp [isR]; omega), Int.toNat_natCast]
      have c1 := A1.out.cell k hlt
      have z1 := A1.out.frozen k
      go_wp2_with (go_at_call 51; refine HC.out.mono ?_; rintro e w' ⟨rfl, rfl⟩)
      go_roundw
      case rel =>
        refine ⟨k + 1, by omega, by go_num, A0.out.setOther _ _ (by simp), (A1.out.set k _).congr (fun r _ => ?_), below_setCell HB.out (by simp)⟩
        rw [HI.out]; unfold fset
        by_cases e : r = k
        · subst e; simp
        · by_cases h : r < k
          · simp [e, h]; omega
          · simp [e, h]; omega
      case measure => simp [intOf]; omega
    · obtain rfl : k = 16 := by omega
      have A1' := A1.out.congr (f' := at' Z) (fun r hr => by simp [hr])
      have l1 := run_ld56 A1'
      have s1 := run_st56 (f' := at' Z) A0.out
      go_wp2
      refine bodyPost_ret (v := VA (at' Z)) ?_ rfl ⟨rfl, below_setRow HB.out (Nat.le_refl _)⟩
      exact res56 Tryz.results90 rfl (A0.out.setRow)
end Go.Proofs.YtooinnhjeloocaaGreat.V
