/- Lines copied, and compared. -/
import Derived.Test.YtheiblagjeekjaaDoorTeG
import Derived.Laws.StructEq
namespace Go.Proofs.YtheiblagjeekjaaDoor
open Go.RowKit
variable {w w' w2 : World} {g : Nat}

theorem add_add (a : Addr) (x y : Nat) : (a.add x).add y = a.add (x + y) := by
  unfold Addr.add
  split <;> split <;> simp_all <;> omega
theorem LnSrc.flat {so : Option Addr} {m c : Nat} {X : List Lne} (S : LnSrc w so m c X) (ad : Addr) (hb : so = some ad) (j : Nat) (u : Value) (hj : (lncs X)[j]? = some u) : w.cell? (ad.add j) = some u := by
  have hjl : j < (lncs X).length := (List.getElem?_eq_some_iff.1 hj).1
  rw [lncs_length, S.len] at hjl
  have A := S.cell ad hb (j / 3) (by omega)
  have h1 := lncs_at X (j / 3) (j % 3) (by rw [S.len]; omega) (by omega)
  rw [show j / 3 * 3 + j % 3 = j by omega, hj] at h1
  rcases (show j % 3 = 0 ∨ j % 3 = 1 ∨ j % 3 = 2 by omega) with e | e | e
  · rw [e] at h1
    have := A.c0
    rw [show j / 3 * 3 = j by omega] at this
    rw [this, h1]
    rfl
  · rw [e] at h1
    have := A.c1
    rw [add_add, show j / 3 * 3 + 1 = j by omega] at this
    rw [this, h1]
    rfl
  · rw [e] at h1
    have := A.c2
    rw [add_add, show j / 3 * 3 + 2 = j by omega] at this
    rw [this, h1]
    rfl
theorem LnR.lit (w : World) : LnR (w.alloc (.cells #[] 31)) (some ⟨w.heap.size, 0, none⟩) 0 0 [] :=
  ⟨by simp [lncs], .inr ⟨w.heap.size, 0, _, rfl, Nat.zero_le _, heap_alloc_new w _, Nat.le_refl _, by unfold maxLen; omega, by simp, by simp [lncs]⟩⟩
theorem LnR.runsS {ao so : Option Addr} {n c m c3 : Nat} {L X : List Lne} (h : LnR w ao n c L) (S : LnSrc w so m c3 X) (hb : n + m ≤ 4398046511004) (ty : TypeId) :
    ∃ bo c2 w2, (Builtin.append_ #[26, 26] ty #[.slice ao n c, .slice so m c3]).run Tryd.prog w = .ok (.slice bo (n + m) c2) w2 ∧ LnR w2 bo (n + m) c2 (L ++ X) ∧ Ap w w2 ao bo := by
  obtain ⟨i0, hi, hz0, hz1, hz2⟩ := info_parts infoLn
  have e : (Value.agg #[.string ⟨#[]⟩, .int .i64 0, .int .i64 0]).cells.size = 3 := by simp [Value.cells]
  cases so with
  | none =>
    obtain ⟨rfl, rfl⟩ := S.nil rfl
    have e2 := List.eq_nil_of_length_eq_zero S.len
    subst e2
    exact ⟨ao, c, w, run_append_owned_none (P := Tryd.prog) (w := w) 0 26 ty 31 i0 3 Tryd.underlying26 hi (.slice ao n c) n (lncs L) h, by rw [List.append_nil]; exact h, Ap.refl _ _⟩
  | some ad =>
    obtain ⟨v', w2, hrun, hown, hgrow, hnil, hat⟩ := run_append_own_at (P := Tryd.prog) w 0 26 ty 31 i0 (.agg #[.string ⟨#[]⟩, .int .i64 0, .int .i64 0]) 3 32 Tryd.underlying26 hi hz0 hz1 hz2 e (by decide) (.slice ao n c) n (lncs L) h ad m c3 (lncs X) (by rw [lncs_length, S.len]) (fun j u hj => S.flat ad rfl j u hj) (lncs_one X) (by unfold maxLen; omega) (by omega) (Nat.zero_le _)
    rw [← lncs_append] at hown
    obtain ⟨bo, c2, rfl, hP⟩ := LnR.out hown
    rw [ownBlock_blk] at hgrow
    rw [ownBlock_blk, ownBlock_blk] at hat
    refine ⟨bo, c2, w2, hrun, hP, hgrow, ?_⟩
    rcases hat with e | e
    · exact Or.inl e
    · exact Or.inr ⟨_, e, Nat.le_refl _⟩
theorem run_neLn (s : ByteArray) (a b : Int) (w : World) : (binOp .neq 31 (.agg #[.string s, .int .i64 a, .int .i64 b]) (.agg #[.string s, .int .i64 a, .int .i64 b])).run Tryd.prog w = .ok (.bool false) w := by
  have hE : (Op.equalIn 10000 31 (.agg #[.string s, .int .i64 a, .int .i64 b]) (.agg #[.string s, .int .i64 a, .int .i64 b])).run Tryd.prog w = .ok true w := by
    have u3 := Tryd.underlying3
    have a3 := Tryd.isAgg3
    have z3 := Tryd.sizeOf3
    have u9 := Tryd.underlying9
    have a9 := Tryd.isAgg9
    have z9 := Tryd.sizeOf9
    have hS : Tryd.prog.underlying 31 = some (.struct (Tryd.prog.fieldsOf 31)) := by kernel_rfl
    have hp : Tryd.prog.stoodInHeld 31 = false := by kernel_rfl
    rw [show (10000 : Nat) = 9999 + 1 from rfl, run_equalIn_struct w 9999 31 _ _ hS hp]
    simp only [Program.fieldsOf, Tryd.underlying31]
    have h3 : ∀ (p : Int) w, (Op.equalIn 9999 3 (.int .i64 p) (.int .i64 p)).run Tryd.prog w = .ok true w := fun p w => by
      rw [run_equalIn_int w 9998 3 .i64 .i64 p p Tryd.underlying3]; simp
    have h9 : ∀ w, (Op.equalIn 9999 9 (.string s) (.string s)).run Tryd.prog w = .ok true w := fun w => by
      rw [run_equalIn_string w 9998 9 s s Tryd.underlying9]; simp
    obtain ⟨D, hD⟩ : ∃ D, 9999 = D := ⟨9999, rfl⟩
    rw [hD] at h3 h9 ⊢
    go_simp
  rw [run_neq_struct, hE]
  rfl
theorem run_egLn (s : ByteArray) (a b : Int) (o p : Operand) (w : World) : (eqGuard .neq 31 o p (.agg #[.string s, .int .i64 a, .int .i64 b]) (.agg #[.string s, .int .i64 a, .int .i64 b])).run Tryd.prog w = .ok () w := run_eqGuard_agg w .neq 31 o p _ _ (by kernel_rfl)
end Go.Proofs.YtheiblagjeekjaaDoor
