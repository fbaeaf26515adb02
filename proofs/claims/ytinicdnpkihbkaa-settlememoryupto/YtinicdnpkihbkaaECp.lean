/- Pairs that are read: copied, compared. -/
import Derived.Test.YtinicdnpkihbkaaESe
import Derived.Laws.StructEq
namespace Go.Proofs.Ytinicdnpkihbkaa
open Go.RowKit
variable {w w' w2 : World} {g : Nat} {ao so : Option Addr} {n c m c3 : Nat} {L X : List Pr}

theorem add_add (a : Addr) (x y : Nat) : (a.add x).add y = a.add (x + y) := by
  unfold Addr.add
  split <;> split <;> simp_all <;> omega
theorem PSrc.flat (S : PSrc w so m c3 X) (ad : Addr) (hb : so = some ad) (j : Nat) (u : Value) (hj : (pcs X)[j]? = some u) : w.cell? (ad.add j) = some u := by
  have hjl : j < (pcs X).length := (List.getElem?_eq_some_iff.1 hj).1
  rw [pcs_length, S.len] at hjl
  have A := S.cell ad hb (j / 2) (by omega)
  have h1 := pcs_at X (j / 2) (j % 2) (by rw [S.len]; omega) (by omega)
  rw [show j / 2 * 2 + j % 2 = j by omega, hj] at h1
  rcases (show j % 2 = 0 ∨ j % 2 = 1 by omega) with e | e
  · rw [e] at h1
    have := A.c0
    rw [show j / 2 * 2 = j by omega] at this
    rw [this, h1]
    rfl
  · rw [e] at h1
    have := A.c1
    rw [add_add, show j / 2 * 2 + 1 = j by omega] at this
    rw [this, h1]
    rfl
/-- append of a row that is read -/
theorem PR.appS (h : PR w ao n c L) (S : PSrc w so m c3 X) (hb : n + m ≤ 8796093022108)
    {ops : Array Oper} {rest : List Oper} {o : Oper} {a : Act} {Qq : Exit → Act → World → Prop} (hgd : o.guard = none) (sl y : Operand) (ho : o.op = .call { callee := .builtin .append, args := #[sl, y], argTypes := #[22, 22] })
    (hs : a.eval sl = .slice ao n c) (hy : a.eval y = .slice so m c3)
    (hK : ∀ (b2 : Option Addr) (c2 : Nat) (w2 : World), PR w2 b2 (n + m) c2 (L ++ X) → Ap w w2 ao b2 → wpList Try.prog ops Qq rest (a.put o.dst (.slice b2 (n + m) c2)) w2) :
    wpList Try.prog ops Qq (o :: rest) a w := by
  obtain ⟨i0, hi, hz0, hz1, hz2⟩ := info_parts infoP
  have e : (Value.agg #[.int .i64 0, .int .i64 0]).cells.size = 2 := by simp [Value.cells]
  cases so with
  | none =>
    obtain ⟨rfl, rfl⟩ := S.nil rfl
    have e2 := List.eq_nil_of_length_eq_zero S.len
    subst e2
    refine wpList_append_own_none hgd sl y 22 ho 0 28 i0 2 Try.underlying22 hi _ n (pcs L) hs h hy ?_
    exact hK ao c w (by rw [List.append_nil]; exact h) (Ap.refl _ _)
  | some ad =>
    refine wpList_append_own_at _ hgd sl y 22 ho 0 28 i0 (.agg #[.int .i64 0, .int .i64 0]) 2 16 Try.underlying22 hi hz0 hz1 hz2 e (by decide) _ n (pcs L) hs h ad m c3 (pcs X) hy (by rw [pcs_length, S.len]) (fun j u hj => S.flat ad rfl j u hj) (pcs_one X) (by unfold maxLen; omega) (by omega) (Nat.zero_le _) ?_
    intro v' w2 hown hgrow _ hat
    rw [← pcs_append] at hown
    obtain ⟨b2, c2, rfl, hP⟩ := PR.out hown
    rw [ownBlock_blk] at hgrow
    rw [ownBlock_blk, ownBlock_blk] at hat
    refine hK b2 c2 w2 hP ⟨hgrow, ?_⟩
    rcases hat with e | e
    · exact Or.inl e
    · exact Or.inr ⟨_, e, Nat.le_refl _⟩
theorem PR.lit (w : World) : PR (w.alloc (.cells #[] 28)) (some ⟨w.heap.size, 0, none⟩) 0 0 [] :=
  ⟨by simp [pcs], .inr ⟨w.heap.size, 0, _, rfl, Nat.zero_le _, heap_alloc_new w _, Nat.le_refl _, by unfold maxLen; omega, by simp, by simp [pcs]⟩⟩
theorem copyPairs_any (so : Option Addr) (n c : Nat) (X : List Pr) (w : World) (S : PSrc w so n c X) (hn : n ≤ 8796093022108) : Calls Try.prog 12 #[.slice so n c] w fun r w' => ∃ bo cc, r = .returned (.slice bo n cc) ∧ PR w' bo n cc X ∧ NewB w w' bo := by
  have HS := hide (S.below (below_new w (.cells #[] 28)))
  have HL := hide (PR.lit w)
  have HN : Hid (0 + n ≤ 8796093022108) := by show _ ≤ _; omega
  clear S hn
  go_enter Try.func12, Try.ntmps12
  go_wp2_with (at_builtin; refine HL.out.appS HS.out HN.out rfl (.tmp 3) (.tmp 4) rfl rfl rfl ?_; intro a5 c5 w5 S5 b5; rw [Nat.zero_add] at S5 ⊢; have HS5 := hide S5; have HB5 := hide b5; clear S5 b5)
  go_ret
  exact ⟨_, _, rfl, HS5.out, HB5.out.fresh⟩
theorem run_neP (a b : Int) (w : World) : (binOp .neq 28 (.agg #[.int .i64 a, .int .i64 b]) (.agg #[.int .i64 a, .int .i64 b])).run Try.prog w = .ok (.bool false) w := by
  have hE : (Op.equalIn 10000 28 (.agg #[.int .i64 a, .int .i64 b]) (.agg #[.int .i64 a, .int .i64 b])).run Try.prog w = .ok true w := by
    have u3 := Try.underlying3
    have a3 := Try.isAgg3
    have z3 := Try.sizeOf3
    have hS : Try.prog.underlying 28 = some (.struct (Try.prog.fieldsOf 28)) := by kernel_rfl
    have hp : Try.prog.stoodInHeld 28 = false := by kernel_rfl
    rw [show (10000 : Nat) = 9999 + 1 from rfl, run_equalIn_struct w 9999 28 _ _ hS hp]
    simp only [Program.fieldsOf, Try.underlying28]
    have h3 : ∀ (p : Int) w, (Op.equalIn 9999 3 (.int .i64 p) (.int .i64 p)).run Try.prog w = .ok true w := fun p w => by
      rw [run_equalIn_int w 9998 3 .i64 .i64 p p Try.underlying3]; simp
    obtain ⟨D, hD⟩ : ∃ D, 9999 = D := ⟨9999, rfl⟩
    rw [hD] at h3 ⊢
    go_simp
  rw [run_neq_struct, hE]
  rfl
theorem run_egP (a b : Int) (o p : Operand) (w : World) : (eqGuard .neq 28 o p (.agg #[.int .i64 a, .int .i64 b]) (.agg #[.int .i64 a, .int .i64 b])).run Try.prog w = .ok () w := run_eqGuard_agg w .neq 28 o p _ _ (by kernel_rfl)
end Go.Proofs.Ytinicdnpkihbkaa
