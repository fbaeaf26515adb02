/- VKb -/
import Derived.Test.YtooinnhjeloocaaGreatLp01
import Derived.Deep.RegionWith
import Derived.Laws.MakeOwn
namespace Go.Proofs.YtooinnhjeloocaaGreat.V
open Go.RowKit
attribute [local go_sem] zeros_VC
def hasD (Z : List Int) (r m : Int) : Bool := decide (1 ≤ m) && decide (m ≤ atI Z r)
theorem clamp_bd (z : Int) : 0 ≤ clamp z ∧ clamp z ≤ 1000000000 := by unfold clamp; split; omega; split <;> omega
theorem at'_bd (Z : List Int) (r : Nat) : 0 ≤ at' Z r ∧ at' Z r ≤ 1000000000 := by
  unfold at'; split
  · exact clamp_bd _
  · omega
theorem atI_bd (Z : List Int) (r : Int) : 0 ≤ atI Z r ∧ atI Z r ≤ 1000000000 := by
  unfold atI; split
  · exact at'_bd _ _
  · omega

theorem at_below (ao : Option Addr) (n cap : Nat) (Z : List Int) (r : Int) (w : World) (hS : Src w ao n cap Z) :
    Calls Tryz.prog 51 #[.slice ao n cap, .int .i64 r] w fun e w' => e = .returned (.int .i64 (atI Z r)) ∧ Below w.heap.size w w' := by
  refine (at_any ao n cap Z r w hS).mono ?_
  rintro e w' ⟨rfl, rfl⟩
  exact ⟨rfl, Below.refl _ _⟩

set_option maxHeartbeats 1600000 in
theorem has_any (ao : Option Addr) (n cap : Nat) (Z : List Int) (r m : Int) (w : World) (hS : Src w ao n cap Z) :
    Calls Tryz.prog 53 #[.slice ao n cap, .agg #[.int .i64 r, .int .i64 m]] w fun e w' => e = .returned (.bool (hasD Z r m)) ∧ Below w.heap.size w w' := by
  have HB : Hid (Below w.heap.size w (w.alloc (.cells #[.int .i64 r, .int .i64 m] 28))) := (Below.refl _ _).alloc (Nat.le_refl _) _
  have HS := hide (hS.below HB.out)
  clear hS
  obtain ⟨w0, Hw0⟩ : ∃ w0, Hid (w.alloc (.cells #[.int .i64 r, .int .i64 m] 28) = w0) := ⟨_, rfl⟩
  have k0 := cell_regrown (show w0.cell? ⟨w.heap.size, 0, none⟩ = some (.int .i64 r) by rw [← Hw0.out]; simp)
  have k1 := cell_regrown (show w0.cell? ⟨w.heap.size, 1, none⟩ = some (.int .i64 m) by rw [← Hw0.out]; simp)
  rw [Hw0.out] at HB HS
  obtain ⟨a, HA⟩ : ∃ a, Hid (atI Z r = a) := ⟨_, rfl⟩
  have cA : ∀ d os, Calls Tryz.prog 51 #[.slice ao n cap, .int .i64 r] (Sort.grow (redrawn w0 d) os) fun e w'' => e = .returned (.int .i64 a) ∧ ∃ p : Regrown, w'' = Sort.grow (redrawn w0 p.d) p.os := fun d os => by
    have := at_below ao n cap Z r (Sort.grow (redrawn w0 d) os) (HS.out.below (below_regrown w0 d os))
    rw [HA.out] at this
    exact Calls.regrown_of this
  by_cases h1 : 1 ≤ m
  · have HR : Hid (hasD Z r m = decide (m ≤ a)) := by show _ = _; unfold hasD; rw [decide_eq_true h1, Bool.true_and, HA.out]
    go_enter Tryz.func53, Tryz.ntmps53
    go_wp2_with fail
    rw [Hw0.out]
    refine wp_region_quiet_below (by kernel_rfl) (by kernel_rfl) ?_
    repeat (quiet_step ((go_at_call 51; exact cA _ _)))
    refine wpQuiet_nil ?_
    intro _ hw'
    obtain ⟨⟨dq, osq⟩, hw''⟩ := hw'
    subst hw''
    have HBE : Hid (Below w.heap.size w (Sort.grow (redrawn w0 dq) osq)) := HB.out.trans ((below_regrown w0 dq osq).mono HB.out.size)
    go_wp2
    go_ret
    exact ⟨ret_bool HR.out.symm, HBE.out⟩
  · have HR : Hid (hasD Z r m = false) := by show _ = _; unfold hasD; rw [decide_eq_false h1, Bool.false_and]
    have h1' := decide_eq_false h1
    go_enter Tryz.func53, Tryz.ntmps53
    go_wp2_with fail
    rw [Hw0.out]
    refine wp_region_quiet_below (by kernel_rfl) (by kernel_rfl) ?_
    repeat (quiet_step (fail))
    refine wpQuiet_nil ?_
    intro _ hw'
    obtain ⟨⟨dq, osq⟩, hw''⟩ := hw'
    subst hw''
    have HBE : Hid (Below w.heap.size w (Sort.grow (redrawn w0 dq) osq)) := HB.out.trans ((below_regrown w0 dq osq).mono HB.out.size)
    go_wp2
    go_ret
    exact ⟨ret_bool HR.out.symm, HBE.out⟩

theorem below_drew {n : Nat} {w w' : World} (h : Below n w w') : Below n w w'.drew := h.trans ⟨rfl, rfl, rfl, Nat.le_refl _, fun _ _ => rfl⟩
attribute [local go_sem ↓] ld56_eq st56_eq
attribute [local go_sem] zeros_VC cells_VA
/-- how many of the first k numbers, without the noughts at the end -/
def topN (f : Nat → Int) : Nat → Nat
  | 0 => 0
  | k + 1 => if f k = 0 then topN f k else k + 1
def top (f : Nat → Int) : Nat := topN f 16
/-- the list in form -/
def short (f : Nat → Int) : List Int := (List.range (top f)).map f
theorem topN_le (f : Nat → Int) (k : Nat) : topN f k ≤ k := by
  induction k with
  | zero => simp [topN]
  | succ k ih => unfold topN; split <;> omega
theorem top_le (f : Nat → Int) : top f ≤ 16 := topN_le f 16
theorem short_length (f : Nat → Int) : (short f).length = top f := by simp [short]
/-- a list is handed back, new or not; old memory stands -/
def Gives (w w' : World) (e : Ending) (Z : List Int) : Prop := ∃ ao n c, e = .returned (.slice ao n c) ∧ Src w' ao n c Z ∧ Below w.heap.size w w'

/-- .. and it is new -/
def GivesN (w w' : World) (e : Ending) (Z : List Int) : Prop := ∃ ao n c, e = .returned (.slice ao n c) ∧ Src w' ao n c Z ∧ Below w.heap.size w w' ∧ ∀ ad, ao = some ad → w.heap.size ≤ ad.block
theorem GivesN.gives {w w' : World} {e : Ending} {Z : List Int} (h : GivesN w w' e Z) : Gives w w' e Z := by
  obtain ⟨ao, n, c, he, S, b, _⟩ := h
  exact ⟨ao, n, c, he, S, b⟩

theorem info3 : (Tryz.prog.info? 3).map (fun i => (i.zero, i.size, i.bytes)) = some (some (.int .i64 0), 1, 8) := by kernel_rfl
theorem madeZeros (n : Nat) : madeCells #[Value.int .i64 0] n = ((List.replicate n (0 : Int)).map (Value.int .i64)).toArray := by
  apply Array.ext
  · simp [madeCells]
  · intro i h1 h2
    simp [madeCells, Nat.mod_one]
theorem run_mk (w : World) (n : Nat) (hn : n ≤ 16) : (Instr.makeSlice 23 (.int .i64 (n : Int)) (.int .i64 (n : Int))).run Tryz.prog w = .ok (.slice (some ⟨w.heap.size, 0, none⟩) n n) (w.alloc (.cells ((List.replicate n (0 : Int)).map (Value.int .i64)).toArray 3)) := by
  obtain ⟨i0, hi, hz0, hz1, hz2⟩ := info_parts info3
  have h := run_make (P := Tryz.prog) w 23 3 i0 (.int .i64 0) Tryz.underlying23 hi hz0 .i64 .i64 (n : Int) (n : Int) (by omega) (by omega) (by rw [hz2]; omega) (by omega)
  rw [hz1, Int.toNat_natCast, Nat.mul_one] at h
  have hcl : (Value.int .i64 0).cells = #[Value.int .i64 0] := rfl
  rw [hcl, madeZeros] at h
  exact h

def mk22 (a b : Value) : Sem Value := Instr.makeSlice 23 a b
theorem mk22_eq (a b : Value) : Instr.makeSlice 23 a b = mk22 a b := rfl
def cp22 (a b : Value) : Sem Value := Builtin.copy_ #[23, 23] 3 #[a, b]
theorem cp22_eq (a b : Value) : Builtin.copy_ #[23, 23] 3 #[a, b] = cp22 a b := rfl
attribute [local go_sem ↓] mk22_eq cp22_eq
theorem size3 : (Tryz.prog.info? 3).map (·.size) = some 1 := by kernel_rfl
/-- make and copy, one behind the other: the world behind them -/
theorem made_copied (f : Nat → Int) (w wr : World) (k : Nat) (K : Int) (hK : K = (k : Int)) (hk : k ≤ 16) (hT : k = top f) (A : Arr wr w.heap.size 121 f) (hz : wr.heap.size = w.heap.size + 1) (hb : Below w.heap.size w wr) :
    ∃ w1 w2 : World, (mk22 (.int .i64 K) (.int .i64 K)).run Tryz.prog wr = .ok (.slice (some ⟨w.heap.size + 1, 0, none⟩) k k) w1 ∧
      (cp22 (.slice (some ⟨w.heap.size + 1, 0, none⟩) k k) (.slice (some ⟨w.heap.size, 0, none⟩) k 16)).run Tryz.prog w1 = .ok (goInt K) w2 ∧
      Src w2 (some ⟨w.heap.size + 1, 0, none⟩) k k (short f) ∧ Below w.heap.size w w2 := by
  subst hK
  have h1 := run_mk wr k hk
  rw [hz] at h1
  have A1 := A.alloc (.cells ((List.replicate k (0 : Int)).map (Value.int .i64)).toArray 3)
  have hg : (wr.alloc (.cells ((List.replicate k (0 : Int)).map (Value.int .i64)).toArray 3)).heap[w.heap.size + 1]? = some (.cells ((List.replicate k (0 : Int)).map (Value.int .i64)).toArray 3 (0, 0)) := by
    rw [← hz]; exact heap_alloc_new wr _
  have hl : ((short f).map (Value.int .i64)).length = k := by rw [List.length_map, short_length, hT]
  have h2 := run_copy_row (P := Tryz.prog) (wr.alloc (.cells ((List.replicate k (0 : Int)).map (Value.int .i64)).toArray 3)) 23 23 3 3 (w.heap.size + 1) 0 k k ⟨w.heap.size, 0, none⟩ k 16 _ 3 ((short f).map (Value.int .i64)) Tryz.underlying23 size3 hg
    (by rw [hl]; simp) (fun j v hv => by
      rw [Addr.add_lit, Nat.zero_add]
      simp only [List.getElem?_map, Option.map_eq_some_iff] at hv
      obtain ⟨z, hz1, rfl⟩ := hv
      have hj : j < top f := by rw [← short_length]; exact (List.getElem?_eq_some_iff.1 hz1).1
      have h16 := top_le f
      rw [A1.cell j (by omega)]
      simp [short, hj] at hz1
      rw [hz1]) (by rw [hl]; simp) (fun v hv => by simp only [List.mem_map] at hv; obtain ⟨z, _, rfl⟩ := hv; rfl)
  rw [hl] at h2
  refine ⟨_, _, h1, h2, ?_, ?_⟩
  · refine ⟨by rw [short_length, hT], fun h => (by cases h), fun ad h t ht => ?_⟩
    obtain rfl := Option.some.inj h
    simp only [Addr.add_lit, Nat.zero_add]
    rw [cell_setRow_same _ _ t _ _ _ _ hg]
    have hl2 : (short f).length = k := by rw [short_length, hT]
    have ht' : t < (short f).length := by omega
    simp [List.getD]
    rw [List.getElem?_eq_getElem ht']; rfl
  · exact below_setRow (hb.alloc (by omega) _) (by omega)

set_option maxHeartbeats 1600000 in
theorem list_new (f : Nat → Int) (w : World) : Calls Tryz.prog 91 #[VA f] w fun e w' => GivesN w w' e (short f) := by
  go_enter Tryz.func91, Tryz.ntmps91
  go_wp2
  go_loopw [3] (fun i wr => ∃ k : Nat, k ≤ 16 ∧ i = .int .i64 k ∧ Hid (topN f k = top f) ∧ Hid (Arr wr w.heap.size 121 f) ∧ Hid (wr.heap.size = w.heap.size + 1) ∧ Hid (Below w.heap.size w wr)) (fun i _ => (intOf i).toNat)
  case atStart => exact ⟨16, Nat.le_refl _, rfl, rfl, arr_new w 121 f, by show _ = _; simp, (Below.refl _ _).alloc (Nat.le_refl _) _⟩
  case round =>
    obtain ⟨k, hk, rfl, HT, A, HZ, HB⟩ := hrel
    cases k with
    | zero =>
      have ht : 0 = top f := by rw [← HT.out]; rfl
      obtain ⟨w1, w2, m1, m2, S, b2⟩ := made_copied f w wr 0 0 rfl hk ht A.out HZ.out HB.out
      have S' := hide S
      have b2' := hide b2
      clear S b2 ht
      go_wp2
      go_ret
      exact ⟨_, _, _, rfl, S'.out, b2'.out, fun ad h => by obtain rfl := Option.some.inj h; simp⟩
    | succ k =>
      have c1 := A.out.cell k (by omega)
      obtain ⟨z, Hz⟩ : ∃ z, Hid (f k = z) := ⟨_, rfl⟩
      rw [Hz.out] at c1
      by_cases h0 : z = 0
      · subst h0
        have HN : Hid (topN f k = top f) := by show _ = _; rw [← HT.out]; conv => rhs; unfold topN; rw [if_pos Hz.out]
        go_wp2
        go_roundw
        case rel => exact ⟨k, by omega, by go_num, HN, A, HZ, HB⟩
        case measure => simp [intOf]
      · have ht : k + 1 = top f := by rw [← HT.out]; unfold topN; rw [Hz.out, if_neg h0]
        have h0' : (z == 0) = false := by simpa using h0
        obtain ⟨w1, w2, m1, m2, S, b2⟩ := made_copied f w wr (k + 1) ((k : Int) + 1) (by omega) hk ht A.out HZ.out HB.out
        have S' := hide S
        have b2' := hide b2
        clear S b2 ht h0
        have q1 : (k : Int) + 1 ≤ 16 := by omega
        have q0 : 0 ≤ (k : Int) + 1 := by omega
        go_wp2
        go_ret
        exact ⟨_, _, _, rfl, S'.out, b2'.out, fun ad h => by obtain rfl := Option.some.inj h; simp⟩
theorem list_any (f : Nat → Int) (w : World) : Calls Tryz.prog 91 #[VA f] w fun e w' => Gives w w' e (short f) := (list_new f w).mono fun _ _ h => h.gives
theorem Gives.on {w w1 w' : World} {e : Ending} {Z : List Int} (h : Gives w1 w' e Z) (hb : Below w.heap.size w w1) : Gives w w' e Z := by
  obtain ⟨ao, n, c, he, S, b⟩ := h
  exact ⟨ao, n, c, he, S, hb.trans (b.mono hb.size)⟩
theorem below_on2 {a b c : World} (h1 : Below a.heap.size a b) (h2 : Below b.heap.size b c) : Below a.heap.size a c := h1.trans (h2.mono h1.size)

theorem norm_new (ao : Option Addr) (n cap : Nat) (Z : List Int) (w : World) (hS : Src w ao n cap Z) :
    Calls Tryz.prog 64 #[.slice ao n cap] w fun e w' => GivesN w w' e (short (at' Z)) := by
  have HS := hide hS
  clear hS
  go_enter Tryz.func64, Tryz.ntmps64
  go_wp2_with fail
  refine (meant_any ao n cap Z _ HS.out).mono ?_
  rintro e w1 ⟨rfl, b1⟩
  go_wp2_with fail
  refine (list_new (at' Z) _).mono ?_
  rintro e w2 ⟨ao2, n2, c2, rfl, S2, b2, f2⟩
  have B := hide (below_on2 b1 b2)
  have S := hide S2
  have F := hide (fun ad h => Nat.le_trans b1.size (f2 ad h))
  clear b1 b2 S2 f2
  go_wp2_with fail
  go_ret
  exact ⟨_, _, _, rfl, S.out, B.out, F.out⟩
theorem norm_any (ao : Option Addr) (n cap : Nat) (Z : List Int) (w : World) (hS : Src w ao n cap Z) :
    Calls Tryz.prog 64 #[.slice ao n cap] w fun e w' => Gives w w' e (short (at' Z)) := (norm_new ao n cap Z w hS).mono fun _ _ h => h.gives
theorem Src.off {w w' : World} {ao : Option Addr} {n c : Nat} {Z : List Int} (h : Src w ao n c Z) (hk : ∀ ad, ao = some ad → w'.heap[ad.block]? = w.heap[ad.block]?) : Src w' ao n c Z :=
  ⟨h.1, h.2.1, fun ad ha t ht => by rw [← h.2.2 ad ha t ht]; unfold World.cell?; rw [block_add, hk ad ha]⟩
end Go.Proofs.YtooinnhjeloocaaGreat.V
