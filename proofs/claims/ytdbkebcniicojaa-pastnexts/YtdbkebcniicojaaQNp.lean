/- PastNexts: plain, and the two Nexts with a known answer. -/
import Derived.Test.YtdbkebcniicojaaQNx
import Derived.Test.YtdbkebcniicojaaPHa
import Derived.Test.YtdbkebcniicojaaPPu
import Derived.Test.YtdbkebcniicojaaPCx
import Derived.Test.YtdbkebcniicojaaPFy
import Derived.Laws.StructEq
namespace Go.Proofs.Ytdbkebcniicojaa
open Go.RowKit

theorem form_most {Y : List Rn} (h : form 1 Y) : ∃ k, Most Y k := by
  rcases List.eq_nil_or_concat Y with e | ⟨i, x, e⟩
  · subst e; exact ⟨0, Most.start⟩
  · rw [List.concat_eq_append] at e
    subst e
    exact ⟨x.hi, Most.last h⟩
theorem most_ex (A : List Rn) : ∃ k, Most A k := by
  obtain ⟨Y, hY⟩ := norm_ex A
  obtain ⟨k, hk⟩ := form_most hY.1
  exact ⟨k, hk.congr hY.2⟩
theorem last_ex (P : Pst) (r : Int) : ∃ k, LastOf P r k := by
  cases h : V.isR r with
  | false => exact ⟨0, Or.inr ⟨h, rfl⟩⟩
  | true =>
    obtain ⟨k, hk⟩ := most_ex (runsAt P r.toNat)
    exact ⟨k, Or.inl ⟨h, hk⟩⟩
/-- dots compared -/
def eqD (x y : Rn) : Bool := (x.lo == y.lo) && (x.hi == y.hi)
theorem eqD_self (x : Rn) : eqD x x = true := by simp [eqD]
theorem run_eqD (x y : Rn) (w : World) : (Op.equalIn 10000 40 (.agg (RC x)) (.agg (RC y))).run Try.prog w = .ok (eqD x y) w := by
  have u3 := Try.underlying3
  have a3 := Try.isAgg3
  have z3 := Try.sizeOf3
  have hS : Try.prog.underlying 40 = some (.struct (Try.prog.fieldsOf 40)) := by kernel_rfl
  have hp : Try.prog.stoodInHeld 40 = false := by kernel_rfl
  obtain ⟨a, b⟩ := x
  obtain ⟨a', b'⟩ := y
  show (Op.equalIn 10000 40 (.agg #[.int .i64 a, .int .i64 b]) (.agg #[.int .i64 a', .int .i64 b'])).run Try.prog w = .ok ((a == a') && (b == b')) w
  rw [show (10000 : Nat) = 9999 + 1 from rfl, run_equalIn_struct w 9999 40 _ _ hS hp]
  simp only [Program.fieldsOf, Try.underlying40]
  have h3 : ∀ (p q : Int) w, (Op.equalIn 9999 3 (.int .i64 p) (.int .i64 q)).run Try.prog w = .ok (p == q) w := fun p q w => run_equalIn_int w 9998 3 .i64 .i64 p q Try.underlying3
  obtain ⟨D, hD⟩ : ∃ D, 9999 = D := ⟨9999, rfl⟩
  rw [hD] at h3 ⊢
  go_simp
  by_cases e1 : a = a'
  · by_cases e2 : b = b'
    · simp [e1, e2]
    · simp [e1, e2]
  · simp [e1]

theorem isRn {k : Nat} (h : k < 16) : V.isR (k : Int) = true := by simp [V.isR]; omega
theorem nxt_ex (P : Pst) (r lim : Int) : ∃ d x, NxtOf P r lim d x := by
  cases h : V.isR r with
  | false => exact ⟨_, _, Or.inl ⟨h, rfl, rfl⟩⟩
  | true =>
    obtain ⟨k, hk⟩ := last_ex P r
    by_cases hl : min lim 1000000000 ≤ k
    · exact ⟨_, _, Or.inr ⟨h, k, hk, Or.inl ⟨hl, rfl, rfl⟩⟩⟩
    · exact ⟨_, _, Or.inr ⟨h, k, hk, Or.inr ⟨by omega, rfl, rfl⟩⟩⟩
theorem nextT (a : Pv) (r lim : Int) (w : World) (hS : PSrc w a) (d : Rn) (x : Int) (h : NxtOf a.P r lim d x) : Calls Try.prog 22 #[PV a, .int .i64 r, .int .i64 lim] w fun e w' => e = .returned (.tuple #[RV d, .int .i64 x]) ∧ Below w.heap.size w w' := by
  refine (pastNextF_any a r lim w hS).mono ?_
  rintro e w' ⟨d', x', rfl, h', b⟩
  obtain ⟨rfl, rfl⟩ := h.unique h'
  exact ⟨rfl, b⟩
theorem refNextT (a : Pv) (r lim : Int) (w : World) (hS : PSrc w a) (d : Rn) (x : Int) (h : NxtOf a.P r lim d x) : Calls Try.prog 23 #[PV a, .int .i64 r, .int .i64 lim] w fun e w' => e = .returned (.tuple #[RV d, .int .i64 x]) ∧ Below w.heap.size w w' := by
  refine (refNext_any a r lim w hS).mono ?_
  rintro e w' ⟨d', x', rfl, h', b⟩
  obtain ⟨rfl, rfl⟩ := h.unique h'
  exact ⟨rfl, b⟩
theorem lastZ (p : Pv) (r k : Int) (w : World) (hS : PSrc w p) (hk : LastOf p.P r k) : Calls Try.prog 21 #[PV p, .int .i64 r] w fun e w' => e = .returned (.int .i64 k) ∧ Below w.heap.size w w' := by
  refine (pastLast_any p r w hS).mono ?_
  rintro e w' ⟨l, rfl, h, b⟩
  obtain rfl := hk.unique h
  exact ⟨rfl, b⟩
theorem hasF (p : Pv) (d : Rn) (w : World) (hS : PSrc w p) (h : ¬ dotIn p.P d) : Calls Try.prog 24 #[PV p, RV d] w fun e w' => e = .returned (.bool false) ∧ Below w.heap.size w w' := by
  refine (pastHas_any p d w hS).mono ?_
  rintro e w' ⟨x, rfl, hx, b⟩
  cases x with
  | false => exact ⟨rfl, b⟩
  | true => exact absurd (hx.out.1 rfl) h
/-- what Next answers with no error: the number behind the replica's last -/
theorem NxtOf.zero {P : Pst} {r lim : Int} {d : Rn} (h : NxtOf P r lim d 0) : ∃ (y : Nat) (k : Int), y < 16 ∧ r = (y : Int) ∧ LastOf P (y : Int) k ∧ 0 ≤ k ∧ k < 1000000000 ∧ d = ⟨(y : Int), k + 1⟩ := by
  rcases h with ⟨_, _, h⟩ | ⟨h1, k, hk, ⟨_, _, h⟩ | ⟨h2, h3, _⟩⟩
  · omega
  · omega
  · have hr : 0 ≤ r ∧ r < 16 := by simp [V.isR] at h1; exact h1
    obtain ⟨y, rfl⟩ : ∃ y : Nat, r = y := ⟨r.toNat, by omega⟩
    exact ⟨y, k, by omega, rfl, hk, hk.bd'.1, by omega, h3⟩
theorem last_not {P : Pst} {y : Nat} {k : Int} (h : LastOf P (y : Int) k) : ¬ dotIn P ⟨(y : Int), k + 1⟩ := by
  rintro ⟨h1, h2⟩
  rcases h with ⟨_, h⟩ | ⟨h3, _⟩
  · rcases h with ⟨_, h⟩ | ⟨_, h⟩
    · exact h _ h2
    · have := h _ h2
      simp only at this
      omega
  · simp only at h1; rw [h1] at h3; cases h3
theorem last_put {P P' : Pst} {y : Nat} {k : Int} (hy : y < 16) (h : LastOf P (y : Int) k) (_ : 0 ≤ k) (hP : IsP (mOr (mP P) (fun r n => r = y ∧ n = k + 1)) P') : LastOf P' (y : Int) (k + 1) := by
  refine Or.inl ⟨isRn hy, Or.inr ?_⟩
  rw [Int.toNat_natCast]
  refine ⟨(hP.mem y hy _).2 (Or.inr ⟨rfl, rfl⟩), fun n hn => ?_⟩
  rcases (hP.mem y hy n).1 hn with g | g
  · rcases h with ⟨_, h⟩ | ⟨h3, _⟩
    · rw [Int.toNat_natCast] at h
      rcases h with ⟨_, h⟩ | ⟨_, h⟩
      · exact absurd g (h n)
      · have := h n g; omega
    · rw [isRn hy] at h3; cases h3
  · omega
theorem ilitN (w : World) (L : List Int) (C : Array Value) (hC : C = (ics L).toArray) (T : TypeId) : V.Src (w.alloc (.cells C T)) (some ⟨w.heap.size, 0, none⟩) L.length L.length L := by
  subst hC
  refine ⟨rfl, fun h => (by cases h), fun ad h t ht => ?_⟩
  obtain rfl := Option.some.inj h
  rw [Addr.add_lit, Nat.zero_add, World.cell?_alloc_new]
  simp [ics_at L t ht]
end Go.Proofs.Ytdbkebcniicojaa
