/- The laws of past, dot by dot: what their walks need. -/
import Derived.Test.YtlnhafjpmkopgaaPDo
import Derived.Test.YtlnhafjpmkopgaaPHa
import Derived.Test.YtlnhafjpmkopgaaPHo
import Derived.Test.YtlnhafjpmkopgaaPLp
import Derived.Test.YtlnhafjpmkopgaaPRg
namespace Go.Proofs.Ytlnhafjpmkopgaa
open Go.RowKit

/-- the truth of a proposition -/
noncomputable def tB (P : Prop) : Bool := @decide P (Classical.propDecidable P)
theorem tB_iff (P : Prop) : tB P = true ↔ P := by unfold tB; exact @decide_eq_true_iff P (Classical.propDecidable P)
theorem tB_of {b : Bool} {P : Prop} (h : BIf b P) : b = tB P := Bool.eq_iff_iff.2 (h.out.trans (tB_iff P).symm)
theorem tB_yes {P : Prop} (h : P) : tB P = true := (tB_iff P).2 h
theorem tB_no {P : Prop} (h : ¬ P) : tB P = false := by
  cases e : tB P with
  | false => rfl
  | true => exact absurd ((tB_iff P).1 e) h
theorem tB_congr {P Q : Prop} (h : P ↔ Q) : tB P = tB Q := Bool.eq_iff_iff.2 ((tB_iff P).trans (h.trans (tB_iff Q).symm))
theorem meantT (p : Pv) (d : Rn) (w : World) (hS : PSrc w p) (x : Bool) (hx : tB (dotIn p.P d) = x) : Calls Try.prog 13 #[PV p, RV d] w fun e w' => e = .returned (.bool x) ∧ Below w.heap.size w w' := by
  refine (meantL_any p d w hS).mono ?_
  rintro e w' ⟨b, rfl, h, hb⟩
  rw [← hx, ← tB_of h]
  exact ⟨rfl, hb⟩
theorem hasT (p : Pv) (d : Rn) (w : World) (hS : PSrc w p) (x : Bool) (hx : tB (dotIn p.P d) = x) : Calls Try.prog 14 #[PV p, RV d] w fun e w' => e = .returned (.bool x) ∧ Below w.heap.size w w' := by
  refine (pastHas_any p d w hS).mono ?_
  rintro e w' ⟨b, rfl, h, hb⟩
  rw [← hx, ← tB_of h]
  exact ⟨rfl, hb⟩
theorem lastT (p : Pv) (r k : Int) (w : World) (hS : PSrc w p) (hk : LastOf p.P r k) : Calls Try.prog 15 #[PV p, .int .i64 r] w fun e w' => e = .returned (.int .i64 k) ∧ Below w.heap.size w w' := by
  refine (pastLast_any p r w hS).mono ?_
  rintro e w' ⟨z, rfl, h, hb⟩
  rw [h.unique hk]
  exact ⟨rfl, hb⟩
theorem sizeT (p : Pv) (z : Int) (w : World) (hS : PSrc w p) (hz : SzP (mP p.P) z) : Calls Try.prog 17 #[PV p] w fun e w' => e = .returned (.int .i64 z) ∧ Below w.heap.size w w' := by
  refine (pastSize_any p w hS).mono ?_
  rintro e w' ⟨y, rfl, h, hb⟩
  rw [(szP_of h).unique hz (fun _ _ _ => Iff.rfl)]
  exact ⟨rfl, hb⟩
theorem form_most {Y : List Rn} (h : form 1 Y) : ∃ k, Most Y k := by
  rcases List.eq_nil_or_concat Y with e | ⟨i, x, e⟩
  · subst e; exact ⟨0, Most.start⟩
  · rw [List.concat_eq_append] at e
    subst e
    exact ⟨x.hi, Most.last h⟩
theorem most_ex (A : List Rn) : ∃ k, Most A k := by
  obtain ⟨Y, hY⟩ := norm_ex A
  obtain ⟨k, hk⟩ := form_most hY.1
  exact ⟨k, hk.congr hY.2⟩
theorem last_ex (P : Pst) (r : Int) : ∃ k, LastOf P r k := by
  cases h : V.isR r with
  | false => exact ⟨0, Or.inr ⟨h, rfl⟩⟩
  | true =>
    obtain ⟨k, hk⟩ := most_ex (runsAt P r.toNat)
    exact ⟨k, Or.inl ⟨h, hk⟩⟩
theorem LastOf.bd {P : Pst} {r k : Int} (h : LastOf P r k) : 0 ≤ k ∧ k ≤ 1000000000 := by
  rcases h with ⟨_, h⟩ | ⟨_, h⟩
  · exact h.bd
  · omega
theorem isR_lt {r : Int} (h : V.isR r = true) : r.toNat < 16 := by simp [V.isR] at h; omega
theorem dot_isP {M : Nat → Int → Prop} {P : Pst} {d : Rn} (h : IsP M P) : dotIn P d ↔ V.isR d.lo = true ∧ M d.lo.toNat d.hi := and_congr_right fun hr => h.mem _ (isR_lt hr) _
theorem LastOf.le {P : Pst} {d : Rn} {k : Int} (h : LastOf P d.lo k) (hd : dotIn P d) : d.hi ≤ k := by
  rcases h with ⟨_, h⟩ | ⟨h1, _⟩
  · rcases h with ⟨_, h⟩ | ⟨_, h⟩
    · exact absurd hd.2 (h _)
    · exact h _ hd.2
  · rw [hd.1] at h1; cases h1
theorem dot_holes {a P : Pst} {d : Rn} {k : Int} (h : ∃ C : Nat → List Rn, (∀ r, r < 16 → HoleOf (runsAt a r) (C r)) ∧ CanonOf C P) (hk : LastOf a d.lo k) : dotIn P d ↔ (V.isR d.lo = true ∧ 1 ≤ d.hi) ∧ ¬ dotIn a d ∧ d.hi < k := by
  obtain ⟨C, hC, hP⟩ := h
  unfold dotIn
  constructor
  · rintro ⟨hr, hm⟩
    rw [canon_mem hP _ (isR_lt hr)] at hm
    obtain ⟨z, hz, hM⟩ := hC _ (isR_lt hr)
    rcases hk with ⟨_, hk⟩ | ⟨h1, _⟩
    · obtain rfl := hk.unique hz
      obtain ⟨m1, m2⟩ := (hM.2 _).1 hm
      have m3 := (mem_one _ _).1 m1
      simp only at m3
      refine ⟨⟨hr, m3.1⟩, fun g => m2 g.2, ?_⟩
      rcases hk with ⟨e, _⟩ | ⟨g1, _⟩
      · omega
      · by_cases e : d.hi = k
        · rw [e] at m2; exact absurd g1 m2
        · omega
    · rw [hr] at h1; cases h1
  · rintro ⟨⟨hr, h1⟩, h2, h3⟩
    refine ⟨hr, ?_⟩
    rw [canon_mem hP _ (isR_lt hr)]
    obtain ⟨z, hz, hM⟩ := hC _ (isR_lt hr)
    have hb := hk.bd
    rcases hk with ⟨_, hk⟩ | ⟨g1, _⟩
    · obtain rfl := hk.unique hz
      exact (hM.2 _).2 ⟨(mem_one _ _).2 ⟨h1, by omega, h1, by show d.hi ≤ k; omega⟩, fun g => h2 ⟨hr, g⟩⟩
    · rw [hr] at g1; cases g1
/-- where the operation s is done, c is done -/
theorem ext_start (n s c : Nat) : (Array.replicate n false).getD s false = true → (Array.replicate n false).getD c false = true := fun h => by rw [rep_false] at h; cases h
theorem ext_step {l : Array Bool} {s c i : Nat} (h : l.getD s false = true → l.getD c false = true) (hi : i ≠ s) : (l.setIfInBounds i true).getD s false = true → (l.setIfInBounds i true).getD c false = true := fun g => by
  rw [set_other hi] at g
  have hc := h g
  by_cases e : i = c
  · subst e
    refine set_same ?_
    by_cases hl : i < l.size
    · exact hl
    · simp [Array.getD, hl] at hc
  · rw [set_other e]; exact hc
theorem ext_at {l : Array Bool} {s c : Nat} (h : l.getD c false = true) (hs : s ≠ c) : (l.setIfInBounds s true).getD s false = true → (l.setIfInBounds s true).getD c false = true := fun _ => by rw [set_other hs]; exact h
section
variable {W : World} {g : Nat} {a b c : Pv} {dv : Value} {rp ms : Int}
theorem CBox.pa (h : CBox W g (CasC a b c dv rp ms)) : PAt W ⟨g, 0, none⟩ a := ⟨h.cell 0, h.cell 1⟩
theorem CBox.pb (h : CBox W g (CasC a b c dv rp ms)) : PAt W ⟨g, 2, none⟩ b := ⟨h.cell 2, h.cell 3⟩
theorem CBox.pc (h : CBox W g (CasC a b c dv rp ms)) : PAt W ⟨g, 4, none⟩ c := ⟨h.cell 4, h.cell 5⟩
end
def ldC (v : Value) : Sem Value := Instr.loadAt 28 v
theorem ldC_eq (v : Value) : Instr.loadAt 28 v = ldC v := rfl
theorem sizeC : (Try.prog.info? 28).map (·.size) = some 9 := by kernel_rfl
theorem run_ldC {w : World} {g : Nat} {C : Array Value} (hC : C.size = 9) (A : CBox w g C) : (ldC (.pointer (some ⟨g, 0, none⟩))).run Try.prog w = .ok (.agg C) w := by
  have hl := run_loadCells_list (P := Try.prog) (w := w) ⟨g, 0, none⟩ C.toList (fun j v hv => by
    rw [Addr.add_lit, Nat.zero_add, A.cell j]
    simpa using hv)
  unfold ldC
  simp only [Instr.loadAt, Instr.sureAddr, Sem.run_bind, Sem.run_pure, Result.andThen]
  cases hq : Try.prog.info? 28 with
  | none => have := sizeC; simp [hq] at this
  | some x =>
    have hs : x.size = 9 := by have := sizeC; simpa [hq] using this
    have hagg : (isAgg 28).run Try.prog w = .ok true w := by
      unfold isAgg
      rw [Sem.run_bind, run_underlying Try.underlying28 w]
      rfl
    have e2 : C.toList.length = 9 := by simpa using hC
    rw [e2] at hl
    simp [loadVar, Sem.run_bind, hagg, sizeOf, typeInfo, hq, hs, hl]
/-- loads in the worlds of a quiet region -/
theorem ldP_re {w : World} {p : Addr} {a : Pv} (A : PAt w p a) (d : Nat) (os : Array Obj) : (ldP (.pointer (some p))).run Try.prog (Sort.grow (redrawn w d) os) = .ok (PV a) (Sort.grow (redrawn w d) os) := run_ldP (A.on (below_regrown w d os))
theorem ldD_re {w : World} {p : Addr} {r : Rn} (A : RnAt w p r) (d : Nat) (os : Array Obj) : (ldD (.pointer (some p))).run Try.prog (Sort.grow (redrawn w d) os) = .ok (RV r) (Sort.grow (redrawn w d) os) := run_ldD (A.on (below_regrown w d os))
end Go.Proofs.Ytlnhafjpmkopgaa
