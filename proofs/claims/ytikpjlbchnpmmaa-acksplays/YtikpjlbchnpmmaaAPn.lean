/- acks' Plan, Reset. -/
import Derived.Test.YtikpjlbchnpmmaaAFn
import Derived.Laws.StructEq
namespace Go.Proofs.Ytikpjlbchnpmmaa
open Go.RowKit
variable {w w' : World} {g : Nat} {r s : Int} {f : Nat → Int}

structure Pn where
  full : Bool
  lo : Int
  hi : Int
def pn0 : Pn := ⟨false, 0, 0⟩
instance : DecidableEq Pn := fun a b => decidable_of_iff (a.full = b.full ∧ a.lo = b.lo ∧ a.hi = b.hi) ⟨fun ⟨h1, h2, h3⟩ => by cases a; cases b; simp_all, fun h => by subst h; exact ⟨rfl, rfl, rfl⟩⟩
def NC (p : Pn) : Array Value := #[.bool p.full, .int .i64 p.lo, .int .i64 p.hi]
abbrev NV (p : Pn) : Value := .agg (NC p)
theorem NC_size (p : Pn) : (NC p).size = 3 := rfl
theorem NC_one (p : Pn) : ∀ v ∈ (NC p).toList, v.oneCell' = true := by
  intro v hv; simp [NC] at hv; rcases hv with rfl | rfl | rfl <;> rfl
theorem cells_NV (p : Pn) : (NV p).cells = NC p := by simp [Value.cells]
theorem to_NC (b : Bool) (x y : Int) : (#[.bool b, .int .i64 x, .int .i64 y] : Array Value) = NC ⟨b, x, y⟩ := rfl
theorem NC_s0 (b c : Bool) (x y : Int) : (NC ⟨b, x, y⟩).setIfInBounds 0 (.bool c) = NC ⟨c, x, y⟩ := rfl
theorem NC_s1 (b : Bool) (x y z : Int) : (NC ⟨b, x, y⟩).setIfInBounds 1 (.int .i64 z) = NC ⟨b, z, y⟩ := rfl
theorem NC_s2 (b : Bool) (x y z : Int) : (NC ⟨b, x, y⟩).setIfInBounds 2 (.int .i64 z) = NC ⟨b, x, z⟩ := rfl
def NBox (w : World) (g : Nat) (p : Pn) : Prop := w.heap[g]? = some (.cells (NC p) 51 (0, 0))
theorem NBox.lt {p : Pn} (h : NBox w g p) : g < w.heap.size := (Array.getElem?_eq_some_iff.1 h).1
theorem NBox.below {p : Pn} (h : NBox w g p) (hb : Below w.heap.size w w') : NBox w' g p := (hb.block g h.lt).trans h
theorem NBox.c0 {p : Pn} (h : NBox w g p) : w.cell? ⟨g, 0, none⟩ = some (.bool p.full) := by unfold NBox at h; simp [World.cell?, h, NC]
theorem NBox.c1 {p : Pn} (h : NBox w g p) : w.cell? ⟨g, 1, none⟩ = some (.int .i64 p.lo) := by unfold NBox at h; simp [World.cell?, h, NC]
theorem NBox.c2 {p : Pn} (h : NBox w g p) : w.cell? ⟨g, 2, none⟩ = some (.int .i64 p.hi) := by unfold NBox at h; simp [World.cell?, h, NC]
theorem nbox_new (w : World) (p : Pn) : NBox (w.alloc (.cells (NC p) 51)) w.heap.size p := by unfold NBox; rw [heap_alloc_new]
def ldN (v : Value) : Sem Value := Instr.loadAt 51 v
theorem ldN_eq (v : Value) : Instr.loadAt 51 v = ldN v := rfl
def stN (p v : Value) : Sem Unit := Instr.storeAt 51 p v
theorem stN_eq (p v : Value) : Instr.storeAt 51 p v = stN p v := rfl
theorem sizeN : (Try.prog.info? 51).map (·.size) = some 3 := by kernel_rfl
theorem run_lvN {p : Pn} (A : NBox w g p) : (loadVar 51 ⟨g, 0, none⟩).run Try.prog w = .ok (NV p) w := by
  have hc : w.rangeAt g 0 (NC p).toList := by
    intro j v hv
    rw [Nat.zero_add]
    match j, hv with
    | 0, hv => cases hv; exact A.c0
    | 1, hv => cases hv; exact A.c1
    | 2, hv => cases hv; exact A.c2
    | j + 3, hv => simp [NC] at hv
  have := run_loadVar_mid (P := Try.prog) w g 0 51 (NC p).toList _ hc Try.underlying51 rfl (by rw [sizeN]; rfl)
  simpa using this
theorem run_ldN {p : Pn} (A : NBox w g p) : (ldN (.pointer (some ⟨g, 0, none⟩))).run Try.prog w = .ok (NV p) w := by
  unfold ldN
  simp only [Instr.loadAt, Instr.sureAddr, Sem.run_bind, Sem.run_pure, Result.andThen]
  exact run_lvN A
theorem run_stN {p p' : Pn} (A : NBox w g p) : (stN (.pointer (some ⟨g, 0, none⟩)) (NV p')).run Try.prog w = .ok () (w.setRow g (NC p')) := by
  unfold stN
  have h := run_storeCells_from (P := Try.prog) g 51 (NC p').toList 0 (NC p) w A (by simp [NC]) (NC_one p')
  cases hq : Try.prog.info? 51 with
  | none => have := sizeN; simp [hq] at this
  | some x =>
    have hs : x.size = 3 := by have := sizeN; simpa [hq] using this
    simp only [Instr.storeAt, Instr.sureAddr, Sem.run_bind, Sem.run_pure, Result.andThen, storeVar, sizeOf, typeInfo, cells_NV, NC_size]
    simp at h
    simp [h, hq, hs]
theorem NBox.setRow {p p' : Pn} (A : NBox w g p) : NBox (w.setRow g (NC p')) g p' := setRow_heap w g _ _ _ _ A
/-- a variable made and filled -/
theorem madeN (w : World) (p : Pn) (g : Nat) (hg : w.heap.size = g) : ∃ w' : World, (stN (.pointer (some ⟨g, 0, none⟩)) (NV p)).run Try.prog (w.alloc (.cells (NC pn0) 51)) = .ok () w' ∧ NBox w' g p ∧ Below w.heap.size w w' ∧ w'.heap.size = w.heap.size + 1 := by
  subst hg
  refine ⟨_, run_stN (nbox_new w pn0), (nbox_new w pn0).setRow, below_setRow (below_new w _) (Nat.le_refl _), by simp [World.setRow]⟩
theorem resN {fn : Func} {p u : Tmp} {q : Pn} (h : fn.results = #[.cell p 51, .tmp u]) {tmps : Array Value} {v : Value} (hp : tmps.getD p undef = .pointer (some ⟨g, 0, none⟩)) (hu : tmps.getD u undef = v) (A : NBox w g q) :
    (results fn tmps).run Try.prog w = .ok (.tuple #[NV q, v]) w := by
  have hl := run_lvN A
  simp only [results, h]
  rw [Array.getD_eq_getD_getElem?] at hp hu
  simp [hp, hu, asAddr, hl]
theorem run_eqN (x y : Pn) (w : World) : (Op.equalIn 10000 51 (.agg (NC x)) (.agg (NC y))).run Try.prog w = .ok (decide (x = y)) w := by
  have u3 := Try.underlying3
  have a3 := Try.isAgg3
  have z3 := Try.sizeOf3
  have a4 := Try.isAgg4
  have z4 := Try.sizeOf4
  have hS : Try.prog.underlying 51 = some (.struct (Try.prog.fieldsOf 51)) := by kernel_rfl
  have hp : Try.prog.stoodInHeld 51 = false := by kernel_rfl
  obtain ⟨a, b, c⟩ := x
  obtain ⟨a', b', c'⟩ := y
  have e : decide ((⟨a, b, c⟩ : Pn) = ⟨a', b', c'⟩) = ((a == a') && ((b == b') && (c == c'))) := by
    cases a <;> cases a' <;> by_cases h1 : b = b' <;> by_cases h2 : c = c' <;> simp [h1, h2]
  rw [e]
  show (Op.equalIn 10000 51 (.agg #[.bool a, .int .i64 b, .int .i64 c]) (.agg #[.bool a', .int .i64 b', .int .i64 c'])).run Try.prog w = _
  rw [show (10000 : Nat) = 9999 + 1 from rfl, run_equalIn_struct w 9999 51 _ _ hS hp]
  simp only [Program.fieldsOf, Try.underlying51]
  have h3 : ∀ (p q : Int) w, (Op.equalIn 9999 3 (.int .i64 p) (.int .i64 q)).run Try.prog w = .ok (p == q) w := fun p q w => run_equalIn_int w 9998 3 .i64 .i64 p q Try.underlying3
  have h4 : ∀ (p q : Bool) w, (Op.equalIn 9999 4 (.bool p) (.bool q)).run Try.prog w = .ok (p == q) w := fun p q w => run_equalIn_bool w 9998 4 p q Try.underlying4
  obtain ⟨D, hD⟩ : ∃ D, 9999 = D := ⟨9999, rfl⟩
  rw [hD] at h3 h4 ⊢
  go_simp
  cases a <;> cases a' <;> by_cases e1 : b = b' <;> by_cases e2 : c = c' <;> simp [e1, e2]
attribute [local go_sem ↓] ldN_eq stN_eq
attribute [local go_sem] to_NC NC_s0 NC_s1 NC_s2
def planE (r s p a b : Int) : Int := if peerE r s p = 0 then (if a < 0 ∨ b < a ∨ 4611686018427387904 < b then 2 else 0) else peerE r s p
def planV (r s : Int) (f : Nat → Int) (p a b : Int) : Pn := if planE r s p a b = 0 then (if f p.toNat < a ∨ b < f p.toNat then ⟨true, 0, b⟩ else ⟨false, f p.toNat, b⟩) else pn0
theorem plan_any (w : World) (T : Tb w g r s f) (hr : r ≤ 16) (p a b : Int) : Calls Try.prog 15 #[ptr g, .int .i64 p, .int .i64 a, .int .i64 b] w fun e w' =>
    e = .returned (.tuple #[NV (planV r s f p a b), .int .i64 (planE r s p a b)]) ∧ Below w.heap.size w w' := by
  obtain ⟨g0, hg0⟩ : ∃ g0, w.heap.size = g0 := ⟨_, rfl⟩
  obtain ⟨w1, hw1⟩ : ∃ w1, w.alloc (.cells (NC ⟨false, 0, 0⟩) 51) = w1 := ⟨_, rfl⟩
  have HN : Hid (NBox w1 g0 pn0) := by rw [← hw1, ← hg0]; exact nbox_new w pn0
  have HB : Hid (Below g0 w w1) := by rw [← hw1, ← hg0]; exact below_new w _
  have HC := hide (of_any w1 (by rw [← hw1]; exact T.below (below_new w _)) hr p)
  have fin : ∀ (q : Pn) (v : Value) (fn : Func) (pp u : Tmp) (h : fn.results = #[.cell pp 51, .tmp u]) (tmps : Array Value), tmps.getD pp undef = .pointer (some ⟨g0, 0, none⟩) → tmps.getD u undef = v →
      (results fn tmps).run Try.prog (w1.setRow g0 (NC q)) = .ok (.tuple #[NV q, v]) (w1.setRow g0 (NC q)) := fun q v fn pp u h tmps h1 h2 => resN h h1 h2 HN.out.setRow
  have HFin := hide fin
  have HBq : Hid (∀ q, Below w.heap.size w (w1.setRow g0 (NC q))) := fun q => by rw [hg0]; exact below_setRow HB.out (Nat.le_refl _)
  have hst : ∀ q, (stN (.pointer (some ⟨g0, 0, none⟩)) (.agg (NC q))).run Try.prog w1 = .ok () (w1.setRow g0 (NC q)) := fun q => run_stN HN.out
  clear fin T
  by_cases h : peerE r s p = 0
  · have HV : Hid (ofV r s f p = f p.toNat) := by show _ = _; unfold ofV; rw [if_pos h]
    rw [HV.out, h] at HC
    obtain ⟨z, hz⟩ : ∃ z, f p.toNat = z := ⟨_, rfl⟩
    rw [hz] at HC
    by_cases h1 : a < 0 ∨ b < a ∨ 4611686018427387904 < b
    · have HE : Hid (planE r s p a b = 2) := by show _ = _; unfold planE; rw [if_pos h, if_pos h1]
      have HP : Hid (planV r s f p a b = pn0) := by show _ = _; unfold planV; rw [HE.out]; rfl
      rw [HE.out, HP.out]
      clear HE HP HV h hz
      have hs0 := hst ⟨false, 0, 0⟩
      clear hst
      by_cases h2 : a < 0
      · clear h1
        go_enter Try.func15, Try.ntmps15
        go_wp2_with (go_at_call 11; refine HC.out.mono ?_; rintro e' w' ⟨rfl, rfl⟩)
        refine bodyPost_ret (v := .tuple #[NV pn0, .int .i64 2]) ?_ rfl ⟨rfl, HBq.out _⟩
        exact HFin.out pn0 _ _ _ _ Try.results15 _ rfl rfl
      · by_cases h3 : b < a
        · clear h1
          go_enter Try.func15, Try.ntmps15
          go_wp2_with (go_at_call 11; refine HC.out.mono ?_; rintro e' w' ⟨rfl, rfl⟩)
          refine bodyPost_ret (v := .tuple #[NV pn0, .int .i64 2]) ?_ rfl ⟨rfl, HBq.out _⟩
          exact HFin.out pn0 _ _ _ _ Try.results15 _ rfl rfl
        · have h4 : 4611686018427387904 < b := by omega
          clear h1
          go_enter Try.func15, Try.ntmps15
          go_wp2_with (go_at_call 11; refine HC.out.mono ?_; rintro e' w' ⟨rfl, rfl⟩)
          refine bodyPost_ret (v := .tuple #[NV pn0, .int .i64 2]) ?_ rfl ⟨rfl, HBq.out _⟩
          exact HFin.out pn0 _ _ _ _ Try.results15 _ rfl rfl
    · have HE : Hid (planE r s p a b = 0) := by show _ = _; unfold planE; rw [if_pos h, if_neg h1]
      have k1 : ¬ a < 0 := by omega
      have k2 : ¬ b < a := by omega
      have k3 : ¬ 4611686018427387904 < b := by omega
      by_cases h2 : z < a ∨ b < z
      · have HP : Hid (planV r s f p a b = ⟨true, 0, b⟩) := by show _ = _; unfold planV; rw [if_pos HE.out, hz, if_pos h2]
        rw [HE.out, HP.out]
        clear HE HP HV h hz h1
        have hs0 := hst ⟨true, 0, b⟩
        clear hst
        by_cases h3 : z < a
        · clear h2
          go_enter Try.func15, Try.ntmps15
          go_wp2_with (go_at_call 11; refine HC.out.mono ?_; rintro e' w' ⟨rfl, rfl⟩)
          refine bodyPost_ret (v := .tuple #[NV ⟨true, 0, b⟩, .int .i64 0]) ?_ rfl ⟨rfl, HBq.out _⟩
          exact HFin.out ⟨true, 0, b⟩ _ _ _ _ Try.results15 _ rfl rfl
        · have h4 : b < z := by omega
          clear h2
          go_enter Try.func15, Try.ntmps15
          go_wp2_with (go_at_call 11; refine HC.out.mono ?_; rintro e' w' ⟨rfl, rfl⟩)
          refine bodyPost_ret (v := .tuple #[NV ⟨true, 0, b⟩, .int .i64 0]) ?_ rfl ⟨rfl, HBq.out _⟩
          exact HFin.out ⟨true, 0, b⟩ _ _ _ _ Try.results15 _ rfl rfl
      · have HP : Hid (planV r s f p a b = ⟨false, z, b⟩) := by show _ = _; unfold planV; rw [if_pos HE.out, hz, if_neg h2]
        rw [HE.out, HP.out]
        clear HE HP HV h hz h1
        have hs0 := hst ⟨false, z, b⟩
        have k4 : ¬ z < a := by omega
        have k5 : ¬ b < z := by omega
        clear hst h2
        go_enter Try.func15, Try.ntmps15
        go_wp2_with (go_at_call 11; refine HC.out.mono ?_; rintro e' w' ⟨rfl, rfl⟩)
        refine bodyPost_ret (v := .tuple #[NV ⟨false, z, b⟩, .int .i64 0]) ?_ rfl ⟨rfl, HBq.out _⟩
        exact HFin.out ⟨false, z, b⟩ _ _ _ _ Try.results15 _ rfl rfl
  · have HE : Hid (planE r s p a b = peerE r s p) := by show _ = _; unfold planE; rw [if_neg h]
    have HP : Hid (planV r s f p a b = pn0) := by show _ = _; unfold planV; rw [HE.out, if_neg h]
    rw [HE.out, HP.out]
    obtain ⟨e, he⟩ : ∃ e, peerE r s p = e := ⟨_, rfl⟩
    rw [he] at h HC ⊢
    have hs0 := hst ⟨false, 0, 0⟩
    clear HE HP he hst
    go_enter Try.func15, Try.ntmps15
    go_wp2_with (go_at_call 11; refine HC.out.mono ?_; rintro e' w' ⟨rfl, rfl⟩)
    refine bodyPost_ret (v := .tuple #[NV pn0, .int .i64 e]) ?_ rfl ⟨rfl, HBq.out _⟩
    exact HFin.out pn0 _ _ _ _ Try.results15 _ rfl rfl
end Go.Proofs.Ytikpjlbchnpmmaa
