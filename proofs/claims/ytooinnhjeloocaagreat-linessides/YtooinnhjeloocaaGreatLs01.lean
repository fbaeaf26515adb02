/- VKb QIn RPu RSl -/
import Derived.Test.YtooinnhjeloocaaGreatLs00
import Derived.Deep.RegionWith
import Derived.Laws.MakeOwn
import Derived.Laws.AppendOwnNone
import Derived.Maps.AppendAt
namespace Go.Proofs.YtooinnhjeloocaaGreat.V
open Go.RowKit
attribute [local go_sem] zeros_VC
def hasD (Z : List Int) (r m : Int) : Bool := decide (1 ≤ m) && decide (m ≤ atI Z r)
theorem clamp_bd (z : Int) : 0 ≤ clamp z ∧ clamp z ≤ 1000000000 := by unfold clamp; split; omega; split <;> omega
theorem at'_bd (Z : List Int) (r : Nat) : 0 ≤ at' Z r ∧ at' Z r ≤ 1000000000 := by
  unfold at'; split
  · exact clamp_bd _
  · omega
theorem atI_bd (Z : List Int) (r : Int) : 0 ≤ atI Z r ∧ atI Z r ≤ 1000000000 := by
  unfold atI; split
  · exact at'_bd _ _
  · omega

theorem at_below (ao : Option Addr) (n cap : Nat) (Z : List Int) (r : Int) (w : World) (hS : Src w ao n cap Z) :
    Calls Tryz.prog 51 #[.slice ao n cap, .int .i64 r] w fun e w' => e = .returned (.int .i64 (atI Z r)) ∧ Below w.heap.size w w' := by
  refine (at_any ao n cap Z r w hS).mono ?_
  rintro e w' ⟨rfl, rfl⟩
  exact ⟨rfl, Below.refl _ _⟩

set_option maxHeartbeats 1600000 in
theorem has_any (ao : Option Addr) (n cap : Nat) (Z : List Int) (r m : Int) (w : World) (hS : Src w ao n cap Z) :
    Calls Tryz.prog 53 #[.slice ao n cap, .agg #[.int .i64 r, .int .i64 m]] w fun e w' => e = .returned (.bool (hasD Z r m)) ∧ Below w.heap.size w w' := by
  have HB : Hid (Below w.heap.size w (w.alloc (.cells #[.int .i64 r, .int .i64 m] 28))) := (Below.refl _ _).alloc (Nat.le_refl _) _
  have HS := hide (hS.below HB.out)
  clear hS
  obtain ⟨w0, Hw0⟩ : ∃ w0, Hid (w.alloc (.cells #[.int .i64 r, .int .i64 m] 28) = w0) := ⟨_, rfl⟩
  have k0 := cell_regrown (show w0.cell? ⟨w.heap.size, 0, none⟩ = some (.int .i64 r) by rw [← Hw0.out]; simp)
  have k1 := cell_regrown (show w0.cell? ⟨w.heap.size, 1, none⟩ = some (.int .i64 m) by rw [← Hw0.out]; simp)
  rw [Hw0.out] at HB HS
  obtain ⟨a, HA⟩ : ∃ a, Hid (atI Z r = a) := ⟨_, rfl⟩
  have cA : ∀ d os, Calls Tryz.prog 51 #[.slice ao n cap, .int .i64 r] (Sort.grow (redrawn w0 d) os) fun e w'' => e = .returned (.int .i64 a) ∧ ∃ p : Regrown, w'' = Sort.grow (redrawn w0 p.d) p.os := fun d os => by
    have := at_below ao n cap Z r (Sort.grow (redrawn w0 d) os) (HS.out.below (below_regrown w0 d os))
    rw [HA.out] at this
    exact Calls.regrown_of this
  by_cases h1 : 1 ≤ m
  · have HR : Hid (hasD Z r m = decide (m ≤ a)) := by show _ = _; unfold hasD; rw [decide_eq_true h1, Bool.true_and, HA.out]
    go_enter Tryz.func53, Tryz.ntmps53
    go_wp2_with fail
    rw [Hw0.out]
    refine wp_region_quiet_below (by kernel_rfl) (by kernel_rfl) ?_
    repeat (quiet_step ((go_at_call 51; exact cA _ _)))
    refine wpQuiet_nil ?_
    intro _ hw'
    obtain ⟨⟨dq, osq⟩, hw''⟩ := hw'
    subst hw''
    have HBE : Hid (Below w.heap.size w (Sort.grow (redrawn w0 dq) osq)) := HB.out.trans ((below_regrown w0 dq osq).mono HB.out.size)
    go_wp2
    go_ret
    exact ⟨ret_bool HR.out.symm, HBE.out⟩
  · have HR : Hid (hasD Z r m = false) := by show _ = _; unfold hasD; rw [decide_eq_false h1, Bool.false_and]
    have h1' := decide_eq_false h1
    go_enter Tryz.func53, Tryz.ntmps53
    go_wp2_with fail
    rw [Hw0.out]
    refine wp_region_quiet_below (by kernel_rfl) (by kernel_rfl) ?_
    repeat (quiet_step (fail))
    refine wpQuiet_nil ?_
    intro _ hw'
    obtain ⟨⟨dq, osq⟩, hw''⟩ := hw'
    subst hw''
    have HBE : Hid (Below w.heap.size w (Sort.grow (redrawn w0 dq) osq)) := HB.out.trans ((below_regrown w0 dq osq).mono HB.out.size)
    go_wp2
    go_ret
    exact ⟨ret_bool HR.out.symm, HBE.out⟩

theorem below_drew {n : Nat} {w w' : World} (h : Below n w w') : Below n w w'.drew := h.trans ⟨rfl, rfl, rfl, Nat.le_refl _, fun _ _ => rfl⟩
attribute [local go_sem ↓] ld56_eq st56_eq
attribute [local go_sem] zeros_VC cells_VA
/-- how many of the first k numbers, without the noughts at the end -/
def topN (f : Nat → Int) : Nat → Nat
  | 0 => 0
  | k + 1 => if f k = 0 then topN f k else k + 1
def top (f : Nat → Int) : Nat := topN f 16
/-- the list in form -/
def short (f : Nat → Int) : List Int := (List.range (top f)).map f
theorem topN_le (f : Nat → Int) (k : Nat) : topN f k ≤ k := by
  induction k with
  | zero => simp [topN]
  | succ k ih => unfold topN; split <;> omega
theorem top_le (f : Nat → Int) : top f ≤ 16 := topN_le f 16
theorem short_length (f : Nat → Int) : (short f).length = top f := by simp [short]
/-- a list is handed back, new or not; old memory stands -/
def Gives (w w' : World) (e : Ending) (Z : List Int) : Prop := ∃ ao n c, e = .returned (.slice ao n c) ∧ Src w' ao n c Z ∧ Below w.heap.size w w'

/-- .. and it is new -/
def GivesN (w w' : World) (e : Ending) (Z : List Int) : Prop := ∃ ao n c, e = .returned (.slice ao n c) ∧ Src w' ao n c Z ∧ Below w.heap.size w w' ∧ ∀ ad, ao = some ad → w.heap.size ≤ ad.block
theorem GivesN.gives {w w' : World} {e : Ending} {Z : List Int} (h : GivesN w w' e Z) : Gives w w' e Z := by
  obtain ⟨ao, n, c, he, S, b, _⟩ := h
  exact ⟨ao, n, c, he, S, b⟩

theorem info3 : (Tryz.prog.info? 3).map (fun i => (i.zero, i.size, i.bytes)) = some (some (.int .i64 0), 1, 8) := by kernel_rfl
theorem madeZeros (n : Nat) : madeCells #[Value.int .i64 0] n = ((List.replicate n (0 : Int)).map (Value.int .i64)).toArray := by
  apply Array.ext
  · simp [madeCells]
  · intro i h1 h2
    simp [madeCells, Nat.mod_one]
theorem run_mk (w : World) (n : Nat) (hn : n ≤ 16) : (Instr.makeSlice 23 (.int .i64 (n : Int)) (.int .i64 (n : Int))).run Tryz.prog w = .ok (.slice (some ⟨w.heap.size, 0, none⟩) n n) (w.alloc (.cells ((List.replicate n (0 : Int)).map (Value.int .i64)).toArray 3)) := by
  obtain ⟨i0, hi, hz0, hz1, hz2⟩ := info_parts info3
  have h := run_make (P := Tryz.prog) w 23 3 i0 (.int .i64 0) Tryz.underlying23 hi hz0 .i64 .i64 (n : Int) (n : Int) (by omega) (by omega) (by rw [hz2]; omega) (by omega)
  rw [hz1, Int.toNat_natCast, Nat.mul_one] at h
  have hcl : (Value.int .i64 0).cells = #[Value.int .i64 0] := rfl
  rw [hcl, madeZeros] at h
  exact h

def mk22 (a b : Value) : Sem Value := Instr.makeSlice 23 a b
theorem mk22_eq (a b : Value) : Instr.makeSlice 23 a b = mk22 a b := rfl
def cp22 (a b : Value) : Sem Value := Builtin.copy_ #[23, 23] 3 #[a, b]
theorem cp22_eq (a b : Value) : Builtin.copy_ #[23, 23] 3 #[a, b] = cp22 a b := rfl
attribute [local go_sem ↓] mk22_eq cp22_eq
theorem size3 : (Tryz.prog.info? 3).map (·.size) = some 1 := by kernel_rfl
/-- make and copy, one behind the other: the world behind them -/
theorem made_copied (f : Nat → Int) (w wr : World) (k : Nat) (K : Int) (hK : K = (k : Int)) (hk : k ≤ 16) (hT : k = top f) (A : Arr wr w.heap.size 121 f) (hz : wr.heap.size = w.heap.size + 1) (hb : Below w.heap.size w wr) :
    ∃ w1 w2 : World, (mk22 (.int .i64 K) (.int .i64 K)).run Tryz.prog wr = .ok (.slice (some ⟨w.heap.size + 1, 0, none⟩) k k) w1 ∧
      (cp22 (.slice (some ⟨w.heap.size + 1, 0, none⟩) k k) (.slice (some ⟨w.heap.size, 0, none⟩) k 16)).run Tryz.prog w1 = .ok (goInt K) w2 ∧
      Src w2 (some ⟨w.heap.size + 1, 0, none⟩) k k (short f) ∧ Below w.heap.size w w2 := by
  subst hK
  have h1 := run_mk wr k hk
  rw [hz] at h1
  have A1 := A.alloc (.cells ((List.replicate k (0 : Int)).map (Value.int .i64)).toArray 3)
  have hg : (wr.alloc (.cells ((List.replicate k (0 : Int)).map (Value.int .i64)).toArray 3)).heap[w.heap.size + 1]? = some (.cells ((List.replicate k (0 : Int)).map (Value.int .i64)).toArray 3 (0, 0)) := by
    rw [← hz]; exact heap_alloc_new wr _
  have hl : ((short f).map (Value.int .i64)).length = k := by rw [List.length_map, short_length, hT]
  have h2 := run_copy_row (P := Tryz.prog) (wr.alloc (.cells ((List.replicate k (0 : Int)).map (Value.int .i64)).toArray 3)) 23 23 3 3 (w.heap.size + 1) 0 k k ⟨w.heap.size, 0, none⟩ k 16 _ 3 ((short f).map (Value.int .i64)) Tryz.underlying23 size3 hg
    (by rw [hl]; simp) (fun j v hv => by
      rw [Addr.add_lit, Nat.zero_add]
      simp only [List.getElem?_map, Option.map_eq_some_iff] at hv
      obtain ⟨z, hz1, rfl⟩ := hv
      have hj : j < top f := by rw [← short_length]; exact (List.getElem?_eq_some_iff.1 hz1).1
      have h16 := top_le f
      rw [A1.cell j (by omega)]
      simp [short, hj] at hz1
      rw [hz1]) (by rw [hl]; simp) (fun v hv => by simp only [List.mem_map] at hv; obtain ⟨z, _, rfl⟩ := hv; rfl)
  rw [hl] at h2
  refine ⟨_, _, h1, h2, ?_, ?_⟩
  · refine ⟨by rw [short_length, hT], fun h => (by cases h), fun ad h t ht => ?_⟩
    obtain rfl := Option.some.inj h
    simp only [Addr.add_lit, Nat.zero_add]
    rw [cell_setRow_same _ _ t _ _ _ _ hg]
    have hl2 : (short f).length = k := by rw [short_length, hT]
    have ht' : t < (short f).length := by omega
    simp [List.getD]
    rw [List.getElem?_eq_getElem ht']; rfl
  · exact below_setRow (hb.alloc (by omega) _) (by omega)

set_option maxHeartbeats 1600000 in
theorem list_new (f : Nat → Int) (w : World) : Calls Tryz.prog 91 #[VA f] w fun e w' => GivesN w w' e (short f) := by
  go_enter Tryz.func91, Tryz.ntmps91
  go_wp2
  go_loopw [3] (fun i wr => ∃ k : Nat, k ≤ 16 ∧ i = .int .i64 k ∧ Hid (topN f k = top f) ∧ Hid (Arr wr w.heap.size 121 f) ∧ Hid (wr.heap.size = w.heap.size + 1) ∧ Hid (Below w.heap.size w wr)) (fun i _ => (intOf i).toNat)
  case atStart => exact ⟨16, Nat.le_refl _, rfl, rfl, arr_new w 121 f, by show _ = _; simp, (Below.refl _ _).alloc (Nat.le_refl _) _⟩
  case round =>
    obtain ⟨k, hk, rfl, HT, A, HZ, HB⟩ := hrel
    cases k with
    | zero =>
      have ht : 0 = top f := by rw [← HT.out]; rfl
      obtain ⟨w1, w2, m1, m2, S, b2⟩ := made_copied f w wr 0 0 rfl hk ht A.out HZ.out HB.out
      have S' := hide S
      have b2' := hide b2
      clear S b2 ht
      go_wp2
      go_ret
      exact ⟨_, _, _, rfl, S'.out, b2'.out, fun ad h => by obtain rfl := Option.some.inj h; simp⟩
    | succ k =>
      have c1 := A.out.cell k (by omega)
      obtain ⟨z, Hz⟩ : ∃ z, Hid (f k = z) := ⟨_, rfl⟩
      rw [Hz.out] at c1
      by_cases h0 : z = 0
      · subst h0
        have HN : Hid (topN f k = top f) := by show _ = _; rw [← HT.out]; conv => rhs; unfold topN; rw [if_pos Hz.out]
        go_wp2
        go_roundw
        case rel => exact ⟨k, by omega, by go_num, HN, A, HZ, HB⟩
        case measure => simp [intOf]
      · have ht : k + 1 = top f := by rw [← HT.out]; unfold topN; rw [Hz.out, if_neg h0]
        have h0' : (z == 0) = false := by simpa using h0
        obtain ⟨w1, w2, m1, m2, S, b2⟩ := made_copied f w wr (k + 1) ((k : Int) + 1) (by omega) hk ht A.out HZ.out HB.out
        have S' := hide S
        have b2' := hide b2
        clear S b2 ht h0
        have q1 : (k : Int) + 1 ≤ 16 := by omega
        have q0 : 0 ≤ (k : Int) + 1 := by omega
        go_wp2
        go_ret
        exact ⟨_, _, _, rfl, S'.out, b2'.out, fun ad h => by obtain rfl := Option.some.inj h; simp⟩
theorem list_any (f : Nat → Int) (w : World) : Calls Tryz.prog 91 #[VA f] w fun e w' => Gives w w' e (short f) := (list_new f w).mono fun _ _ h => h.gives
theorem Gives.on {w w1 w' : World} {e : Ending} {Z : List Int} (h : Gives w1 w' e Z) (hb : Below w.heap.size w w1) : Gives w w' e Z := by
  obtain ⟨ao, n, c, he, S, b⟩ := h
  exact ⟨ao, n, c, he, S, hb.trans (b.mono hb.size)⟩
theorem below_on2 {a b c : World} (h1 : Below a.heap.size a b) (h2 : Below b.heap.size b c) : Below a.heap.size a c := h1.trans (h2.mono h1.size)

theorem norm_new (ao : Option Addr) (n cap : Nat) (Z : List Int) (w : World) (hS : Src w ao n cap Z) :
    Calls Tryz.prog 64 #[.slice ao n cap] w fun e w' => GivesN w w' e (short (at' Z)) := by
  have HS := hide hS
  clear hS
  go_enter Tryz.func64, Tryz.ntmps64
  go_wp2_with fail
  refine (meant_any ao n cap Z _ HS.out).mono ?_
  rintro e w1 ⟨rfl, b1⟩
  go_wp2_with fail
  refine (list_new (at' Z) _).mono ?_
  rintro e w2 ⟨ao2, n2, c2, rfl, S2, b2, f2⟩
  have B := hide (below_on2 b1 b2)
  have S := hide S2
  have F := hide (fun ad h => Nat.le_trans b1.size (f2 ad h))
  clear b1 b2 S2 f2
  go_wp2_with fail
  go_ret
  exact ⟨_, _, _, rfl, S.out, B.out, F.out⟩
theorem norm_any (ao : Option Addr) (n cap : Nat) (Z : List Int) (w : World) (hS : Src w ao n cap Z) :
    Calls Tryz.prog 64 #[.slice ao n cap] w fun e w' => Gives w w' e (short (at' Z)) := (norm_new ao n cap Z w hS).mono fun _ _ h => h.gives
theorem Src.off {w w' : World} {ao : Option Addr} {n c : Nat} {Z : List Int} (h : Src w ao n c Z) (hk : ∀ ad, ao = some ad → w'.heap[ad.block]? = w.heap[ad.block]?) : Src w' ao n c Z :=
  ⟨h.1, h.2.1, fun ad ha t ht => by rw [← h.2.2 ad ha t ht]; unfold World.cell?; rw [block_add, hk ad ha]⟩
end Go.Proofs.YtooinnhjeloocaaGreat.V
namespace Go.Proofs.YtooinnhjeloocaaGreat
open Go.RowKit

theorem isrc_at {w : World} {ao : Option Addr} {n c : Nat} {Z : List Int} (S : V.Src w ao n c Z) (k : Nat) (h : k < n) : ∃ ad, ao = some ad ∧ w.cell? (ad.add k) = some (.int .i64 (Z.getD k 0)) := by
  cases ao with
  | none => have := S.2.1 rfl; omega
  | some ad => exact ⟨ad, rfl, S.2.2 ad rfl k h⟩
def ics (L : List Int) : List Value := L.map (Value.int .i64)
theorem ics_append (L M : List Int) : ics (L ++ M) = ics L ++ ics M := by simp [ics]
theorem ics_length (L : List Int) : (ics L).length = L.length := by simp [ics]
theorem ics_one (L : List Int) : ∀ u ∈ ics L, u.oneCell' = true := by
  intro u hu
  obtain ⟨z, _, rfl⟩ := List.mem_map.1 hu
  rfl
theorem ics_at (L : List Int) (t : Nat) (ht : t < L.length) : (ics L)[t]? = some (.int .i64 (L.getD t 0)) := by
  simp [ics, ht, List.getD]
/-- the slice owns just these numbers, in blocks from B on; below B0 all is as it was -/
structure OwnI (B0 B : Nat) (w w' : World) (ao : Option Addr) (cap : Nat) (acc : List Int) : Prop where
  own : w'.ownsRow B 3 1 (.slice ao acc.length cap) acc.length (ics acc)
  below : Below B0 w w'
  hB : B ≤ w'.heap.size
  hB0 : B0 ≤ B
theorem OwnI.nil {B0 B : Nat} {w w' : World} (hb : Below B0 w w') (hB : B ≤ w'.heap.size) (h0 : B0 ≤ B) : OwnI B0 B w w' none 0 [] :=
  ⟨World.ownsRow_nil _ _ _ _, hb, hB, h0⟩
theorem OwnI.later {B0 B : Nat} {w w' w2 : World} {ao : Option Addr} {cap : Nat} {acc : List Int} (O : OwnI B0 B w w' ao cap acc) (hb : Below w'.heap.size w' w2) : OwnI B0 B w w2 ao cap acc := by
  refine ⟨⟨O.own.1, ?_⟩, O.below.trans (hb.mono (Nat.le_trans O.hB0 O.hB)), Nat.le_trans O.hB hb.size, O.hB0⟩
  rcases O.own.2 with h | ⟨g, cap2, cur, hv, hbg, hgg, r⟩
  · exact Or.inl h
  · exact Or.inr ⟨g, cap2, cur, hv, hbg, (hb.block g (Array.getElem?_eq_some_iff.1 hgg).1).trans hgg, r⟩
theorem infoI : (Tryz.prog.info? 3).map (fun i => (i.zero, i.size, i.bytes)) = some (some (.int .i64 0), 1, 8) := by kernel_rfl
/-- a list of numbers is appended, as an operation; also what becomes of the other blocks -/
theorem OwnI.append {B0 B : Nat} {w w' : World} {ao : Option Addr} {cap : Nat} {acc : List Int} (O : OwnI B0 B w w' ao cap acc) (E : List Int) (ad : Addr) (m c : Nat) (S : V.Src w' (some ad) m c E) (hlen : acc.length + m ≤ 17592186044415)
    {ops : Array Oper} {rest : List Oper} {o : Oper} {a : Act} {Q : Exit → Act → World → Prop} (hgd : o.guard = none) (s x : Operand) (ho : o.op = .call { callee := .builtin .append, args := #[s, x], argTypes := #[23, 23] })
    (n : Nat) (hn : acc.length = n) (hs : a.eval s = .slice ao n cap) (hx : a.eval x = .slice (some ad) m c)
    (hK : ∀ (ao2 : Option Addr) (cap2 : Nat) (w2 : World), OwnI B0 B w w2 ao2 cap2 (acc ++ E) → (∀ k, k < w'.heap.size → (Value.slice ao acc.length cap).ownBlock ≠ some k → w2.heap[k]? = w'.heap[k]? ∧ ∀ ad2, ao2 = some ad2 → ad2.block ≠ k) → w'.heap.size ≤ w2.heap.size → wpList Tryz.prog ops Q rest (a.put o.dst (.slice ao2 (n + m) cap2)) w2) :
    wpList Tryz.prog ops Q (o :: rest) a w' := by
  subst hn
  obtain rfl : E.length = m := S.1
  obtain ⟨i0, hi, hz0, hz1, hz2⟩ := info_parts infoI
  have hB := O.hB
  have hB0 := O.hB0
  refine wpList_append_own_at _ hgd s x 23 ho B 3 i0 (.int .i64 0) 1 8 Tryz.underlying23 hi hz0 hz1 hz2 rfl (by decide) _ acc.length (ics acc) hs O.own ad E.length c (ics E) hx (by rw [ics_length, Nat.mul_one]) (fun j u hj => ?_) (ics_one E) (by unfold maxLen; omega) (by omega) hB ?_
  · have hl : j < E.length := by rw [← ics_length]; exact (List.getElem?_eq_some_iff.1 hj).1
    rw [ics_at E j hl] at hj
    rw [S.2.2 ad rfl j hl]
    exact hj
  intro v' w2 hown hgrow _ hat
  have hrow : ∀ k, (Value.slice ao acc.length cap).ownBlock = some k → B ≤ k := fun k hk => (O.own.lt k hk).1
  have hsz := hgrow.size
  have hb2 : Below B0 w w2 := O.below.grown hgrow (by omega) (fun k hk => by have := hrow k hk; omega)
  rw [← ics_append] at hown
  rcases hown.2 with ⟨h0, h00⟩ | ⟨g, cap2, cur, hv, r⟩
  · subst h0
    have e1 : acc = [] := List.eq_nil_of_length_eq_zero (by omega)
    have e2 : E = [] := List.eq_nil_of_length_eq_zero (by omega)
    subst e1 e2
    exact hK none 0 w2 ⟨hown, hb2, by omega, hB0⟩ (fun k hk hne => ⟨hgrow.block k hk (fun e => hne e.symm), fun ad2 h => by cases h⟩) hsz
  · subst hv
    refine hK (some ⟨g, 0, none⟩) cap2 w2 ⟨by rw [List.length_append]; exact hown, hb2, by omega, hB0⟩ (fun k hk hne => ⟨hgrow.block k hk (fun e => hne e.symm), fun ad2 h e => ?_⟩) hsz
    obtain rfl := Option.some.inj h
    have e' : g = k := e
    rcases hat with h | h
    · exact hne (by rw [← h, ← e']; rfl)
    · simp [Value.ownBlock] at h; omega
theorem OwnI.appendS {B0 B : Nat} {w w' : World} {ao : Option Addr} {cap : Nat} {acc : List Int} (O : OwnI B0 B w w' ao cap acc) (E : List Int) (xo : Option Addr) (m c : Nat) (S : V.Src w' xo m c E) (hlen : acc.length + m ≤ 17592186044415)
    {ops : Array Oper} {rest : List Oper} {o : Oper} {a : Act} {Q : Exit → Act → World → Prop} (hgd : o.guard = none) (s x : Operand) (ho : o.op = .call { callee := .builtin .append, args := #[s, x], argTypes := #[23, 23] })
    (n : Nat) (hn : acc.length = n) (hs : a.eval s = .slice ao n cap) (hx : a.eval x = .slice xo m c)
    (hK : ∀ (ao2 : Option Addr) (cap2 : Nat) (w2 : World), OwnI B0 B w w2 ao2 cap2 (acc ++ E) → wpList Tryz.prog ops Q rest (a.put o.dst (.slice ao2 (n + m) cap2)) w2) :
    wpList Tryz.prog ops Q (o :: rest) a w' := by
  cases xo with
  | some ad => exact O.append E ad m c S hlen hgd s x ho n hn hs hx (fun ao2 cap2 w2 h _ _ => hK ao2 cap2 w2 h)
  | none =>
    obtain ⟨rfl, rfl⟩ := S.2.1 rfl
    have e := List.eq_nil_of_length_eq_zero S.1
    subst e
    subst hn
    obtain ⟨i0, hi, hz0, hz1, hz2⟩ := info_parts infoI
    refine wpList_append_own_none hgd s x 23 ho B 3 i0 1 Tryz.underlying23 hi _ acc.length (ics acc) hs O.own hx ?_
    have := hK ao cap w'
    rw [List.append_nil, Nat.add_zero] at this
    exact this O
theorem OwnI.src {B0 B : Nat} {w w' : World} {ao : Option Addr} {cap : Nat} {acc : List Int} (O : OwnI B0 B w w' ao cap acc) : V.Src w' ao acc.length cap acc ∧ (∀ ad, ao = some ad → B ≤ ad.block) ∧ acc.length ≤ cap ∧ cap ≤ maxLen := by
  rcases O.own.2 with ⟨h0, h00⟩ | ⟨g, cap2, cur, hv, hbg, hgg, hnc, hcm, hcsz, htake⟩
  · simp only [Value.slice.injEq] at h0
    obtain ⟨rfl, e0, rfl⟩ := h0
    exact ⟨⟨rfl, fun _ => ⟨h00, rfl⟩, fun ad h => (by cases h)⟩, fun ad h => (by cases h), by omega, by unfold maxLen; omega⟩
  · simp only [Value.slice.injEq, true_and] at hv
    obtain ⟨rfl, rfl⟩ := hv
    refine ⟨⟨rfl, fun h => (by cases h), fun ad h t ht => ?_⟩, fun ad h => by obtain rfl := Option.some.inj h; exact hbg, hnc, hcm⟩
    obtain rfl := Option.some.inj h
    rw [Addr.add_lit, Nat.zero_add, O.own.cellAt t (by omega), ics_at acc t ht]
/-- the row may lie in any of the blocks that stand -/
theorem src_off {w w' : World} {ao : Option Addr} {n c : Nat} {Z : List Int} (h : V.Src w ao n c Z) (hk : ∀ ad, ao = some ad → w'.heap[ad.block]? = w.heap[ad.block]?) : V.Src w' ao n c Z := h.off hk
theorem OwnI.made (w : World) (C : Array Value) (cap : Nat) (hc : C.size = cap * 1) (hm : cap ≤ maxLen) : OwnI w.heap.size w.heap.size w (w.alloc (.cells C 3)) (some ⟨w.heap.size, 0, none⟩) cap [] :=
  ⟨World.ownsRow_made w C cap (Nat.le_refl _) hm hc, below_new w _, by simp, Nat.le_refl _⟩
/-- the blocks of two rows are apart -/
theorem OwnI.lt {B0 B : Nat} {w w' : World} {ao : Option Addr} {cap : Nat} {acc : List Int} (O : OwnI B0 B w w' ao cap acc) {k : Nat} (h : (Value.slice ao acc.length cap).ownBlock = some k) : B ≤ k ∧ k < w'.heap.size := O.own.lt k h
theorem ilit1 (w : World) (x : Int) (C : Array Value) (hC : C = #[.int .i64 x]) (T : TypeId) : V.Src (w.alloc (.cells C T)) (some ⟨w.heap.size, 0, none⟩) 1 1 [x] := by
  subst hC
  refine ⟨rfl, fun h => (by cases h), fun ad h t ht => ?_⟩
  obtain rfl := Option.some.inj h
  rw [Addr.add_lit, Nat.zero_add, World.cell?_alloc_new]
  obtain rfl : t = 0 := by omega
  rfl
/-- parts of a row -/
theorem src_take {w : World} {ad : Addr} {n c : Nat} {Z : List Int} (h : V.Src w (some ad) n c Z) (k : Nat) (hk : k ≤ n) : V.Src w (some ad) k c (Z.take k) := by
  refine ⟨by rw [List.length_take, h.1]; omega, fun e => (by cases e), fun a e t ht => ?_⟩
  rw [h.2.2 a e t (by omega)]
  simp [List.getD, ht]
theorem src_drop {w : World} {ad : Addr} {n c : Nat} {Z : List Int} (h : V.Src w (some ad) n c Z) (k : Nat) (hk : k ≤ n) (c' : Nat) : V.Src w (some (ad.add k)) (n - k) c' (Z.drop k) := by
  refine ⟨by rw [List.length_drop, h.1], fun e => (by cases e), fun a e t ht => ?_⟩
  obtain rfl := Option.some.inj e
  rw [add_add, h.2.2 ad rfl (k + t) (by omega)]
  simp [List.getD, List.getElem?_drop]
end Go.Proofs.YtooinnhjeloocaaGreat
namespace Go.Proofs.YtooinnhjeloocaaGreat

/-- is the number in the set? -/
def mem (a : List Rn) (n : Int) : Prop := 1 ≤ n ∧ n ≤ 1000000000 ∧ ∃ r, r ∈ a ∧ r.lo ≤ n ∧ n ≤ r.hi
/-- in form, from l on -/
def form : Int → List Rn → Prop
  | _, [] => True
  | l, r :: a => l ≤ r.lo ∧ r.lo ≤ r.hi ∧ r.hi ≤ 1000000000 ∧ form (r.hi + 2) a
theorem mem_nil (n : Int) : ¬ mem [] n := fun ⟨_, _, r, h, _⟩ => by cases h
theorem mem_cons (r : Rn) (a : List Rn) (n : Int) : mem (r :: a) n ↔ (1 ≤ n ∧ n ≤ 1000000000 ∧ r.lo ≤ n ∧ n ≤ r.hi) ∨ mem a n := by
  constructor
  · rintro ⟨h1, h2, x, hx, h3⟩
    rcases List.mem_cons.1 hx with e | e
    · subst e; exact Or.inl ⟨h1, h2, h3⟩
    · exact Or.inr ⟨h1, h2, x, e, h3⟩
  · rintro (⟨h1, h2, h3⟩ | ⟨h1, h2, x, hx, h3⟩)
    · exact ⟨h1, h2, r, List.mem_cons_self .., h3⟩
    · exact ⟨h1, h2, x, List.mem_cons_of_mem _ hx, h3⟩
theorem mem_append (a b : List Rn) (n : Int) : mem (a ++ b) n ↔ mem a n ∨ mem b n := by
  constructor
  · rintro ⟨h1, h2, x, hx, h3⟩
    rcases List.mem_append.1 hx with e | e
    · exact Or.inl ⟨h1, h2, x, e, h3⟩
    · exact Or.inr ⟨h1, h2, x, e, h3⟩
  · rintro (⟨h1, h2, x, hx, h3⟩ | ⟨h1, h2, x, hx, h3⟩)
    · exact ⟨h1, h2, x, List.mem_append_left _ hx, h3⟩
    · exact ⟨h1, h2, x, List.mem_append_right _ hx, h3⟩
theorem mem_one (r : Rn) (n : Int) : mem [r] n ↔ 1 ≤ n ∧ n ≤ 1000000000 ∧ r.lo ≤ n ∧ n ≤ r.hi := by
  rw [mem_cons]
  exact ⟨fun h => h.elim id (fun h => absurd h (mem_nil n)), Or.inl⟩
theorem mem_congr {a b : List Rn} (h : ∀ r, r ∈ a ↔ r ∈ b) (n : Int) : mem a n ↔ mem b n :=
  ⟨fun ⟨h1, h2, x, hx, h3⟩ => ⟨h1, h2, x, (h x).1 hx, h3⟩, fun ⟨h1, h2, x, hx, h3⟩ => ⟨h1, h2, x, (h x).2 hx, h3⟩⟩
theorem form_mono {l l' : Int} (hl : l' ≤ l) : ∀ {a : List Rn}, form l a → form l' a
  | [], _ => trivial
  | _ :: _, h => ⟨Int.le_trans hl h.1, h.2⟩
theorem form_ge : ∀ {a : List Rn} {l : Int} {n : Int}, form l a → mem a n → l ≤ n
  | [], _, n, _, h => absurd h (mem_nil n)
  | r :: a, l, n, hf, h => by
    rcases (mem_cons r a n).1 h with h | h
    · have := hf.1; omega
    · have := form_ge hf.2.2.2 h; have := hf.1; have := hf.2.1; omega
theorem form_unique : ∀ {a b : List Rn} {l : Int}, 1 ≤ l → form l a → form l b → (∀ n, mem a n ↔ mem b n) → a = b
  | [], [], _, _, _, _, _ => rfl
  | [], s :: b, l, hl, _, hb, h => absurd ((h s.lo).2 ((mem_cons s b s.lo).2 (Or.inl ⟨by have := hb.1; omega, by have := hb.2; omega, Int.le_refl _, hb.2.1⟩))) (mem_nil _)
  | r :: a, [], l, hl, ha, _, h => absurd ((h r.lo).1 ((mem_cons r a r.lo).2 (Or.inl ⟨by have := ha.1; omega, by have := ha.2; omega, Int.le_refl _, ha.2.1⟩))) (mem_nil _)
  | r :: a, s :: b, l, hl, ha, hb, h => by
    have a1 := ha.1; have a2 := ha.2.1; have a3 := ha.2.2.1; have a4 := ha.2.2.2
    have b1 := hb.1; have b2 := hb.2.1; have b3 := hb.2.2.1; have b4 := hb.2.2.2
    have ge : ∀ {x : Rn} {c : List Rn} {n : Int}, form (x.hi + 2) c → x.lo ≤ x.hi → mem (x :: c) n → x.lo ≤ n := fun {x c n} hf hx hm => by
      rcases (mem_cons x c n).1 hm with e | e
      · exact e.2.2.1
      · have := form_ge hf e; omega
    have e1 : s.lo ≤ r.lo := ge b4 b2 ((h r.lo).1 ((mem_cons r a r.lo).2 (Or.inl ⟨by omega, by omega, Int.le_refl _, a2⟩)))
    have e2 : r.lo ≤ s.lo := ge a4 a2 ((h s.lo).2 ((mem_cons s b s.lo).2 (Or.inl ⟨by omega, by omega, Int.le_refl _, b2⟩)))
    have e3 : ¬ r.hi < s.hi := fun hlt => by
      have := (h (r.hi + 1)).2 ((mem_cons s b _).2 (Or.inl ⟨by omega, by omega, by omega, by omega⟩))
      rcases (mem_cons r a _).1 this with e | e
      · omega
      · have := form_ge a4 e; omega
    have e4 : ¬ s.hi < r.hi := fun hlt => by
      have := (h (s.hi + 1)).1 ((mem_cons r a _).2 (Or.inl ⟨by omega, by omega, by omega, by omega⟩))
      rcases (mem_cons s b _).1 this with e | e
      · omega
      · have := form_ge b4 e; omega
    have er : r = s := by
      obtain ⟨r1, r2⟩ := r
      obtain ⟨s1, s2⟩ := s
      simp at e1 e2 e3 e4
      rw [show r1 = s1 by omega, show r2 = s2 by omega]
    subst er
    rw [form_unique (l := r.hi + 2) (by omega) a4 b4 (fun n => ?_)]
    constructor
    · intro hm
      have hge := form_ge a4 hm
      rcases (mem_cons r b n).1 ((h n).1 ((mem_cons r a n).2 (Or.inr hm))) with e | e
      · omega
      · exact e
    · intro hm
      have hge := form_ge b4 hm
      rcases (mem_cons r a n).1 ((h n).2 ((mem_cons r b n).2 (Or.inr hm))) with e | e
      · omega
      · exact e
theorem form_len : ∀ {a : List Rn} {l : Int}, form l a → a = [] ∨ 2 * (a.length : Int) + l ≤ 1000000002
  | [], _, _ => Or.inl rfl
  | r :: a, l, h => by
    right
    have h1 := h.1; have h2 := h.2.1; have h3 := h.2.2.1
    rcases form_len h.2.2.2 with e | e
    · subst e; simp; omega
    · simp only [List.length_cons]; omega
theorem form_small {a : List Rn} {l : Int} (hl : 1 ≤ l) (h : form l a) : a.length ≤ 500000001 := by
  rcases form_len h with e | e
  · subst e; simp
  · omega
/-- R is the form of the set a -/
def NormOf (a R : List Rn) : Prop := form 1 R ∧ ∀ n, mem R n ↔ mem a n
theorem NormOf.unique {a R R' : List Rn} (h : NormOf a R) (h' : NormOf a R') : R = R' := form_unique (Int.le_refl _) h.1 h'.1 (fun n => (h.2 n).trans (h'.2 n).symm)
theorem NormOf.self {a : List Rn} (h : form 1 a) : NormOf a a := ⟨h, fun _ => Iff.rfl⟩
theorem form_snoc : ∀ {i : List Rn} {l : Int} {x r : Rn}, form l (i ++ [x]) → x.hi + 2 ≤ r.lo → r.lo ≤ r.hi → r.hi ≤ 1000000000 → form l (i ++ [x] ++ [r])
  | [], _, _, _, h, h1, h2, h3 => ⟨h.1, h.2.1, h.2.2.1, h1, h2, h3, trivial⟩
  | _ :: _, _, _, _, h, h1, h2, h3 => ⟨h.1, h.2.1, h.2.2.1, form_snoc h.2.2.2 h1 h2 h3⟩
theorem form_up : ∀ {i : List Rn} {l : Int} {x y : Rn}, form l (i ++ [x]) → y.lo = x.lo → x.hi ≤ y.hi → y.hi ≤ 1000000000 → form l (i ++ [y])
  | [], _, _, _, h, h1, h2, h3 => ⟨by have := h.1; omega, by have := h.2.1; omega, h3, trivial⟩
  | _ :: _, _, _, _, h, h1, h2, h3 => ⟨h.1, h.2.1, h.2.2.1, form_up h.2.2.2 h1 h2 h3⟩
theorem form_last : ∀ {i : List Rn} {l : Int} {x : Rn}, form l (i ++ [x]) → l ≤ x.lo ∧ x.lo ≤ x.hi ∧ x.hi ≤ 1000000000
  | [], _, _, h => ⟨h.1, h.2.1, h.2.2.1⟩
  | r :: i, l, x, h => by have := form_last h.2.2.2; have := h.1; have := h.2.1; omega
/-- cut to the numbers that there are -/
def clip (r : Rn) : Rn := ⟨max r.lo 1, min r.hi 1000000000⟩
def clips (a : List Rn) : List Rn := (a.map clip).filter (fun c => decide (c.lo ≤ c.hi))
theorem clips_mem (a : List Rn) (n : Int) : mem (clips a) n ↔ mem a n := by
  constructor
  · rintro ⟨h1, h2, x, hx, h3⟩
    obtain ⟨hm, _⟩ := List.mem_filter.1 hx
    obtain ⟨r, hr, rfl⟩ := List.mem_map.1 hm
    unfold clip at h3
    exact ⟨h1, h2, r, hr, by simp at h3; omega, by simp at h3; omega⟩
  · rintro ⟨h1, h2, r, hr, h3⟩
    have hc : (clip r).lo ≤ n ∧ n ≤ (clip r).hi := by unfold clip; simp; omega
    exact ⟨h1, h2, clip r, List.mem_filter.2 ⟨List.mem_map.2 ⟨r, hr, rfl⟩, decide_eq_true (by omega)⟩, hc⟩
theorem clips_in (a : List Rn) (x : Rn) (h : x ∈ clips a) : 1 ≤ x.lo ∧ x.lo ≤ x.hi ∧ x.hi ≤ 1000000000 := by
  obtain ⟨hm, hd⟩ := List.mem_filter.1 h
  obtain ⟨r, _, rfl⟩ := List.mem_map.1 hm
  have := of_decide_eq_true hd
  unfold clip at *
  simp at *
  omega
/-- one run more, which begins at the last one's beginning or behind it -/
structure MgInv (P acc : List Rn) : Prop where
  frm : form 1 acc
  mm : ∀ n, mem acc n ↔ mem P n
  low : ∀ x, x ∈ acc → ∃ p, p ∈ P ∧ x.lo = p.lo
theorem MgInv.start : MgInv [] [] := ⟨trivial, fun _ => Iff.rfl, fun x h => by cases h⟩
theorem MgInv.first {P : List Rn} {r : Rn} (h : MgInv P []) (h1 : 1 ≤ r.lo) (h2 : r.lo ≤ r.hi) (h3 : r.hi ≤ 1000000000) : MgInv (P ++ [r]) [r] := by
  refine ⟨⟨h1, h2, h3, trivial⟩, fun n => ?_, fun x hx => ?_⟩
  · rw [mem_append, ← h.mm n]
    exact ⟨Or.inr, fun e => e.elim (fun e => absurd e (mem_nil n)) id⟩
  · obtain rfl := List.mem_singleton.1 hx; exact ⟨x, by simp, rfl⟩
theorem MgInv.new {P i : List Rn} {x r : Rn} (h : MgInv P (i ++ [x])) (hg : ¬ r.lo ≤ x.hi + 1) (h2 : r.lo ≤ r.hi) (h3 : r.hi ≤ 1000000000) : MgInv (P ++ [r]) (i ++ [x] ++ [r]) := by
  refine ⟨form_snoc h.frm (by omega) h2 h3, fun n => ?_, fun y hy => ?_⟩
  · rw [mem_append, mem_append P, h.mm n]
  · rcases List.mem_append.1 hy with e | e
    · obtain ⟨p, hp, e⟩ := h.low y e; exact ⟨p, List.mem_append_left _ hp, e⟩
    · obtain rfl := List.mem_singleton.1 e; exact ⟨y, by simp, rfl⟩
theorem MgInv.join {P i : List Rn} {x r : Rn} (h : MgInv P (i ++ [x])) (hs : ∀ p, p ∈ P → p.lo ≤ r.lo) (hg : r.lo ≤ x.hi + 1) (_ : r.lo ≤ r.hi) (h3 : r.hi ≤ 1000000000) : MgInv (P ++ [r]) (i ++ [⟨x.lo, max x.hi r.hi⟩]) := by
  have hl := form_last h.frm
  have hxr : x.lo ≤ r.lo := by obtain ⟨p, hp, e⟩ := h.low x (by simp); have := hs p hp; omega
  refine ⟨form_up h.frm rfl (by simp; omega) (by simp; omega), fun n => ?_, fun y hy => ?_⟩
  · have := h.mm n
    rw [mem_append, mem_one] at this
    rw [mem_append, mem_one, mem_append P, mem_one, ← this]
    simp only
    constructor
    · rintro (e | ⟨e1, e2, e3, e4⟩)
      · exact Or.inl (Or.inl e)
      · by_cases c : n ≤ x.hi
        · exact Or.inl (Or.inr ⟨e1, e2, e3, c⟩)
        · exact Or.inr ⟨e1, e2, by omega, by omega⟩
    · rintro ((e | ⟨e1, e2, e3, e4⟩) | ⟨e1, e2, e3, e4⟩)
      · exact Or.inl e
      · exact Or.inr ⟨e1, e2, e3, by omega⟩
      · exact Or.inr ⟨e1, e2, by omega, by omega⟩
  · rcases List.mem_append.1 hy with e | e
    · obtain ⟨p, hp, e⟩ := h.low y (List.mem_append_left _ e); exact ⟨p, List.mem_append_left _ hp, e⟩
    · obtain rfl := List.mem_singleton.1 e
      obtain ⟨p, hp, e⟩ := h.low x (by simp)
      exact ⟨p, List.mem_append_left _ hp, e⟩
end Go.Proofs.YtooinnhjeloocaaGreat
namespace Go.Proofs.YtooinnhjeloocaaGreat
open Go.RowKit

/-- a slice of runs, as a cell holds it, with its runs -/
structure Sl where
  ao : Option Addr
  n : Nat
  cap : Nat
  L : List Rn
def tot : List Sl → Nat
  | [] => 0
  | s :: r => s.n + tot r
def cat : List Sl → List Rn
  | [] => []
  | s :: r => s.L ++ cat r
theorem tot_append (a b : List Sl) : tot (a ++ b) = tot a + tot b := by
  induction a with
  | nil => simp [tot]
  | cons s r ih => simp only [List.cons_append, tot, ih]; omega
theorem cat_append (a b : List Sl) : cat (a ++ b) = cat a ++ cat b := by
  induction a with
  | nil => simp [cat]
  | cons s r ih => simp only [List.cons_append, cat, ih, List.append_assoc]
theorem tot_take (X : List Sl) (k : Nat) : tot (X.take k) ≤ tot X := by
  have h := congrArg tot (List.take_append_drop k X)
  rw [tot_append] at h
  omega
theorem take_one {X : List Sl} {k : Nat} {s : Sl} (hs : X[k]? = some s) : X.take (k + 1) = X.take k ++ [s] := by
  rw [List.take_add_one, hs]; rfl
theorem mem_cat (X : List Sl) (n : Int) : mem (cat X) n ↔ ∃ s, s ∈ X ∧ mem s.L n := by
  induction X with
  | nil => exact ⟨fun h => absurd h (mem_nil n), fun ⟨s, h, _⟩ => by cases h⟩
  | cons s r ih =>
    rw [cat, mem_append, ih]
    constructor
    · rintro (h | ⟨t, ht, h⟩)
      · exact ⟨s, List.mem_cons_self .., h⟩
      · exact ⟨t, List.mem_cons_of_mem _ ht, h⟩
    · rintro ⟨t, ht, h⟩
      rcases List.mem_cons.1 ht with rfl | ht
      · exact Or.inl h
      · exact Or.inr ⟨t, ht, h⟩
/-- a row of slices of runs -/
structure CSrc (w : World) (ao : Option Addr) (q : Nat) (X : List Sl) : Prop where
  len : X.length = q
  nil : ao = none → q = 0
  cell : ∀ ad, ao = some ad → ∀ t s, X[t]? = some s → w.cell? (ad.add t) = some (.slice s.ao s.n s.cap)
  src : ∀ s, s ∈ X → RSrc w s.ao s.n s.cap s.L
  big : q ≤ 8796093022207
theorem CSrc.below {w w' : World} {ao : Option Addr} {q : Nat} {X : List Sl} (h : CSrc w ao q X) (hb : Below w.heap.size w w') : CSrc w' ao q X :=
  ⟨h.len, h.nil, fun ad ha t s hs => by have := h.cell ad ha t s hs; rw [hb.cell (World.block_lt_of_cell? _ _ this)]; exact this, fun s hs => (h.src s hs).below hb, h.big⟩
theorem CSrc.at {w : World} {ao : Option Addr} {q : Nat} {X : List Sl} (h : CSrc w ao q X) (k : Nat) (hk : k < q) : ∃ ad s, ao = some ad ∧ X[k]? = some s ∧ w.cell? (ad.add k) = some (.slice s.ao s.n s.cap) ∧ RSrc w s.ao s.n s.cap s.L := by
  have hk' : k < X.length := by rw [h.len]; exact hk
  cases ao with
  | none => have := h.nil rfl; omega
  | some ad => exact ⟨ad, X[k], rfl, List.getElem?_eq_getElem hk', h.cell ad rfl k _ (List.getElem?_eq_getElem hk'), h.src _ (List.getElem_mem hk')⟩
theorem cat_len {w : World} : ∀ {X : List Sl}, (∀ s, s ∈ X → RSrc w s.ao s.n s.cap s.L) → (cat X).length = tot X
  | [], _ => rfl
  | s :: r, h => by
    have h1 := (h s (List.mem_cons_self ..)).len
    have h2 := cat_len (X := r) (fun t ht => h t (List.mem_cons_of_mem _ ht))
    simp only [cat, tot, List.length_append, h1, h2]
end Go.Proofs.YtooinnhjeloocaaGreat
