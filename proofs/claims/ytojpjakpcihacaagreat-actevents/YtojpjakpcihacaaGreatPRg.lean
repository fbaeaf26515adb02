/- A region that draws its order, by an invariant: each operation is looked at once. -/
import Derived.Test.YtojpjakpcihacaaGreatRKit
import Derived.RegionTactic
namespace Go.Proofs.YtojpjakpcihacaaGreat
open Go.RowKit

def cntF (n : Nat) (l : Array Bool) : Nat := (List.range n).countP (fun i => !l.getD i true)
theorem countP_less {p q : Nat → Bool} {i : Nat} : ∀ {xs : List Nat}, (∀ j, q j = true → p j = true) → i ∈ xs → p i = true → q i = false → xs.countP q < xs.countP p
  | [], _, h, _, _ => by cases h
  | x :: xs, hpq, h, hp, hq => by
    have hle : xs.countP q ≤ xs.countP p := List.countP_mono_left (fun j _ => hpq j)
    rcases List.mem_cons.1 h with rfl | h
    · rw [List.countP_cons_of_neg (by simp [hq]), List.countP_cons_of_pos (by simp [hp])]; omega
    · have := countP_less hpq h hp hq
      rw [List.countP_cons, List.countP_cons]
      have hx := hpq x
      cases hqx : q x with
      | true => simp [hx hqx]; exact this
      | false => cases p x <;> simp <;> omega
theorem ready_mem {md : Region.Mode} {ops : Array Oper} {l : Array Bool} {i : Nat} (h : i ∈ Region.ready md ops l) : i < ops.size ∧ l.getD i true = false ∧ ∀ o, ops[i]? = some o → ∀ e ∈ o.after, Region.binds md e = true → l.getD e.on false = true := by
  unfold Region.ready at h
  rw [List.mem_filter, List.mem_range] at h
  obtain ⟨h1, h2⟩ := h
  simp only [Bool.and_eq_true, Bool.not_eq_true'] at h2
  refine ⟨h1, h2.1, fun o ho e he hb => ?_⟩
  have h3 := h2.2
  rw [ho] at h3
  simp only [Option.map_some, Option.getD_some] at h3
  have := Array.all_eq_true'.1 h3 e he
  simpa [hb] using this
theorem ready_nil {md : Region.Mode} {ops : Array Oper} {l : Array Bool} (h : cntF ops.size l = 0) : Region.ready md ops l = [] := by
  unfold Region.ready
  rw [List.filter_eq_nil_iff]
  intro i hi
  have := List.countP_eq_zero.1 h i hi
  simp at this
  simp [this]
theorem wpAny_inv {P : Program} {md : Region.Mode} {ops : Array Oper} {Q : Exit → Act → World → Prop} (I : Array Bool → Act → World → Prop) (hz : ∀ l a w, I l a w → l.size = ops.size)
    (hs : ∀ l a w, I l a w → ∀ i, i ∈ Region.ready md ops l → wpOp P ops Q i (fun a' w' => I (l.setIfInBounds i true) a' w') a w)
    (he : ∀ l a w, I l a w → Region.ready md ops l = [] → Q .normal a w) :
    ∀ (fuel : Nat) (l : Array Bool) (a : Act) (w : World), I l a w → cntF ops.size l ≤ fuel → wpAny P md ops Q fuel l a w
  | 0, l, a, w, h, hf => ⟨ready_nil (by omega), he l a w h (ready_nil (by omega))⟩
  | fuel + 1, l, a, w, h, hf => by
    refine ⟨he l a w h, fun i hi => wpOp_mono (fun a' w' h' => ?_) (hs l a w h i hi)⟩
    refine wpAny_inv I hz hs he fuel _ a' w' h' ?_
    obtain ⟨h1, h2, _⟩ := ready_mem hi
    have hl := hz l a w h
    have : cntF ops.size (l.setIfInBounds i true) < cntF ops.size l := by
      unfold cntF
      refine countP_less (i := i) (fun j hj => ?_) (List.mem_range.2 h1) (by simp only [h2]; rfl) ?_
      · by_cases e : i = j
        · subst e
          simp [Array.getD, hl, h1] at hj
        · simpa [Array.getD_eq_getD_getElem?, Array.getElem?_setIfInBounds, e] using hj
      · simp [Array.getD, hl, h1]
    omega
theorem wp_region_inv {P : Program} {ops : Array Oper} {Q : Exit → Act → World → Prop} {id : Nat} {a : Act} {w : World} (hm : P.follows .mixedOrders = true) (I : Array Bool → Act → World → Prop) (h0 : I (Array.replicate ops.size false) a w.drew) (hz : ∀ l a w, I l a w → l.size = ops.size)
    (hs : ∀ l a w, I l a w → ∀ i, i ∈ Region.ready .any ops l → wpOp P ops Q i (fun a' w' => I (l.setIfInBounds i true) a' w') a w)
    (he : ∀ l a w, I l a w → Region.ready .any ops l = [] → Q .normal a w) : (Code.region id ops true).wp P Q a w :=
  wp_region_any hm (wpAny_inv I hz hs he _ _ _ _ h0 (by unfold cntF; have := List.countP_le_length (p := fun i => !(Array.replicate ops.size false).getD i true) (l := List.range ops.size); simpa using this))
/-- every edge goes back -/
def backward (ops : Array Oper) : Bool := (List.range ops.size).all fun i => ((ops[i]?).map fun o => o.after.all fun e => !Region.binds .any e || decide (e.on < i)).getD true
theorem ready_done {ops : Array Oper} {l : Array Bool} (hb : backward ops = true) (hz : l.size = ops.size) (h : Region.ready .any ops l = []) : ∀ i, i < ops.size → l.getD i false = true := by
  intro i
  induction i using Nat.strongRecOn with
  | _ i ih =>
    intro hi
    unfold Region.ready at h
    rw [List.filter_eq_nil_iff] at h
    have h1 := h i (List.mem_range.2 hi)
    have h2 := List.all_eq_true.1 hb i (List.mem_range.2 hi)
    rw [Array.getElem?_eq_getElem hi] at h1 h2
    simp only [Option.map_some, Option.getD_some] at h1 h2
    have h3 : (ops[i].after.all fun e => !Region.binds .any e || l.getD e.on false) = true := by
      rw [Array.all_eq_true']
      intro e he
      have := Array.all_eq_true'.1 h2 e he
      cases hb : Region.binds .any e with
      | false => simp
      | true =>
        simp only [hb, Bool.not_true, Bool.false_or, decide_eq_true_eq] at this
        rw [ih e.on this (by omega)]
        simp
    rw [h3] at h1
    have hl : i < l.size := by omega
    simp [Array.getD, hl] at h1 ⊢
    exact h1
theorem set_same {l : Array Bool} {i : Nat} (h : i < l.size) : (l.setIfInBounds i true).getD i false = true := by simp [Array.getD, h]
theorem set_other {l : Array Bool} {i j : Nat} (h : i ≠ j) : (l.setIfInBounds i true).getD j false = l.getD j false := by simp [Array.getD_eq_getD_getElem?, h]
theorem no_true {l : Array Bool} {i : Nat} (h : l.getD i true = false) : l.getD i false = false := by
  rw [Array.getD_eq_getD_getElem?] at h ⊢
  cases hq : l[i]? with
  | none => rw [hq] at h; cases h
  | some x => rw [hq] at h; exact h
theorem rep_false (n i : Nat) : (Array.replicate n false).getD i false = false := by
  rw [Array.getD_eq_getD_getElem?, Array.getElem?_replicate]; split <;> rfl
end Go.Proofs.YtojpjakpcihacaaGreat
