/- What ScriptKeeps wants of rows of ops. -/
import Derived.Test.YtmemcnjabnpdmabDoorKMr
namespace Go.Proofs.YtmemcnjabnpdmabDoor
open Go.RowKit T Y V
variable {w w' w2 : World} {g : Nat}

/-- append of a row that is read, outside of a drawn region -/
theorem OR.appS {ao so : Option Addr} {n c m c3 : Nat} {Q X : List Sp} (h : OR w ao n c Q) (S : OSrc w so m c3 X) (hb : n + m ≤ 2199023255452)
    {ops : Array Oper} {rest : List Oper} {o : Oper} {a : Act} {Qq : Exit → Act → World → Prop} (hgd : o.guard = none) (sl y : Operand) (ho : o.op = .call { callee := .builtin .append, args := #[sl, y], argTypes := #[24, 24] })
    (hs : a.eval sl = .slice ao n c) (hy : a.eval y = .slice so m c3)
    (hK : ∀ (bo : Option Addr) (c2 : Nat) (w2 : World), OR w2 bo (n + m) c2 (Q ++ X) → Ap w w2 ao bo → wpList Tryd.prog ops Qq rest (a.put o.dst (.slice bo (n + m) c2)) w2) :
    wpList Tryd.prog ops Qq (o :: rest) a w := by
  obtain ⟨bo, c2, w2, hr, R, A⟩ := h.runsS S hb o.type
  refine wpList_plain hgd fun K hK2 => ?_
  unfold Oper.wp
  simp [execOp, ho, resolve, invoke, builtin, hs, hy, hr, Result.andThen]
  exact hK2 _ _ (hK bo c2 w2 R A)
/-- a row's beginning -/
theorem OSrc.pre {ao : Option Addr} {n c m c2 : Nat} {X Z : List Sp} (h : OSrc w ao n c (X ++ Z)) (hm : X.length = m) (h0 : ao ≠ none) : OSrc w ao m c2 X := by
  refine ⟨hm, fun e => absurd e h0, fun ad ha t ht => ?_⟩
  have h1 := h.cell ad ha t (by have := h.len; rw [List.length_append] at this; omega)
  have e : (X ++ Z).getD t sp0 = X.getD t sp0 := by simp [List.getD, List.getElem?_append_left (show t < X.length by omega)]
  rw [e] at h1
  exact h1
/-- a row owned has room for what it holds -/
theorem OR.room {ao : Option Addr} {n c : Nat} {Q : List Sp} (h : OR w ao n c Q) (h0 : 0 < n) : n ≤ c ∧ c ≤ maxLen ∧ ∃ b, ao = some ⟨b, 0, none⟩ := by
  rcases h.2 with ⟨_, h00⟩ | ⟨q, cap2, cur, hv, _, _, hn, hm, _⟩
  · omega
  · have hv' := hv
    simp only [Value.slice.injEq, true_and] at hv'
    obtain ⟨rfl, rfl⟩ := hv'
    exact ⟨hn, hm, q, rfl⟩
/-- steps of one kind -/
def kd (k : Int) : Sp := ⟨k, 0, 0, 0, ⟨#[]⟩, 0, 0⟩
def rs (i : Nat) : Sp := ⟨15, i, 0, 0, ⟨#[]⟩, 0, 0⟩
theorem rs_plain (i : Nat) : plainP (rs i) = rs i := rfl
def rsL (n : Nat) : List Sp := (List.range n).map rs
theorem rsL_len (n : Nat) : (rsL n).length = n := by simp [rsL]
theorem rsL_plain (n : Nat) : (rsL n).map plainP = rsL n := by
  unfold rsL
  rw [List.map_map]
  rfl
theorem rsL_at (n t : Nat) (h : t < n) : (rsL n).getD t sp0 = rs t := by simp [rsL, List.getD, h]
/-- a row put on from its beginning -/
theorem put_step (X : List Sp) (f : Nat → Sp) (k : Nat) (hk : k < X.length) : (((List.range k).map f) ++ X.drop k).set k (f k) = ((List.range (k + 1)).map f) ++ X.drop (k + 1) := by
  have e := List.drop_eq_getElem_cons hk
  rw [List.set_append_right _ _ (by simp), show k - ((List.range k).map f).length = 0 by simp, e, List.set_cons_zero, List.range_succ, List.map_append, List.append_assoc]
  rfl
theorem rs_ok (i : Nat) (h : i ≤ 1000000000000) : Ok (rs i) := by
  have key : ∀ f, fdN (rs i) f = 15 ∨ fdN (rs i) f = (i : Int) ∨ fdN (rs i) f = 0 := by
    intro f
    rw [fdN_C]
    rcases cls_in f with e | e | e | e | e | e <;> rw [e]
    · exact Or.inl rfl
    · exact Or.inr (Or.inl rfl)
    · exact Or.inr (Or.inr rfl)
    · exact Or.inr (Or.inr rfl)
    · exact Or.inr (Or.inr rfl)
    · exact Or.inr (Or.inr rfl)
  exact ⟨fun f => by rcases key f with e | e | e <;> rw [e] <;> omega, fun f => by rcases key f with e | e | e <;> rw [e] <;> omega, by show (⟨#[]⟩ : ByteArray).size ≤ _; decide⟩
theorem rsL_ok (n : Nat) (h : n ≤ 1000000000000) : ∀ o, o ∈ rsL n → Ok o := by
  intro o ho
  unfold rsL at ho
  obtain ⟨i, hi, rfl⟩ := List.mem_map.1 ho
  exact rs_ok i (by have := List.mem_range.1 hi; omega)
theorem rsL_wt (n : Nat) : wtO (rsL n) = 141 * n := by
  induction n with
  | zero => rfl
  | succ n ih =>
    unfold rsL wtO at *
    rw [List.range_succ, List.map_append, List.map_append, List.sum_append, ih]
    have : (List.map (fun o => 16 * o.sku.size + 141) (List.map rs [n])).sum = 141 := rfl
    rw [this]
    omega
end Go.Proofs.YtmemcnjabnpdmabDoor
