/- LinesOwners, plainly: the entries of the sixteen replicas, one behind the other, are the list's. -/
import Derived.Test.YtopgmkonigaalaaOf
namespace Go.Proofs.Ytopgmkonigaalaa

theorem isR_iff (r : Int) : isR r = true ↔ 0 ≤ r ∧ r < 16 := by simp [isR]
theorem ow_of (L : List En) (r : Int) (s : ByteArray) (h : isR r = true) : owE L r s = ofE L s := by unfold owE ofE; rw [h]; simp
/-- rising by replica -/
def Up (L : List En) : Prop := L.Pairwise (fun a b => a.rep ≤ b.rep)
theorem up_lt {L : List En} (h : Up L) (k : Int) : L.filter (fun e => decide (e.rep < k + 1)) = L.filter (fun e => decide (e.rep < k)) ++ L.filter (fun e => e.rep == k) := by
  induction L with
  | nil => rfl
  | cons a L ih =>
    have hL : Up L := (List.pairwise_cons.1 h).2
    have ha := (List.pairwise_cons.1 h).1
    have ih' := ih hL
    by_cases h1 : a.rep < k
    · have h2 : a.rep < k + 1 := by omega
      have h3 : ¬ a.rep = k := by omega
      simp [h1, h2, h3, ih']
    · have hno : L.filter (fun e => decide (e.rep < k)) = [] := by
        rw [List.filter_eq_nil_iff]; intro e he; have := ha e he; simp; omega
      rw [hno] at ih'
      by_cases h3 : a.rep = k
      · have h2 : a.rep < k + 1 := by omega
        have hk : ¬ a.rep < k := by omega
        simp only [List.filter_cons, decide_eq_true h2, decide_eq_false hk, if_true, hno, ih']
        simp [h3]
      · have h2 : ¬ a.rep < k + 1 := by omega
        simp [h1, h2, h3, ih', hno]
theorem up_cat {L : List En} (h : Up L) (hr : ∀ e ∈ L, 0 ≤ e.rep) (k : Nat) : (List.range k).flatMap (fun r : Nat => L.filter (fun e => e.rep == (r : Int))) = L.filter (fun e => decide (e.rep < (k : Int))) := by
  induction k with
  | zero =>
    symm
    show L.filter _ = []
    rw [List.filter_eq_nil_iff]; intro e he; have := hr e he; simp; omega
  | succ k ih =>
    rw [List.range_succ, List.flatMap_append, ih]
    have := up_lt h (k : Int)
    rw [show ((k + 1 : Nat) : Int) = (k : Int) + 1 by omega, this]
    simp
theorem okN_le (L : List En) (k n : Nat) (h : k ≤ n) (hn : okN L n = true) : okN L k = true := by
  unfold okN at hn ⊢; rw [List.all_eq_true] at hn ⊢; intro i hi; exact hn i (by simp at hi ⊢; omega)
theorem chk_up (L : List En) (h : chk L = 0) : Up L ∧ ∀ e ∈ L, 0 ≤ e.rep ∧ e.rep < 16 := by
  have hn : okN L L.length = true := by unfold chk at h; split at h; assumption; cases h
  have hat : ∀ k, k < L.length → okAt L k = true := by intro k hk; unfold okN at hn; rw [List.all_eq_true] at hn; exact hn k (by simpa using hk)
  have hce : ∀ k, k < L.length → ceE (L.getD k en0) = 0 := by intro k hk; have := hat k hk; unfold okAt at this; simp at this; exact this.1
  have hrep : ∀ e : En, ceE e = 0 → 0 ≤ e.rep ∧ e.rep < 16 := by
    intro e he
    unfold ceE at he
    split at he
    · cases he
    · rename_i h1; exact (isR_iff _).1 (by simpa using h1)
  have hstep : ∀ k, k + 1 < L.length → (L.getD k en0).rep ≤ (L.getD (k + 1) en0).rep := by
    intro k hk
    have := hat (k + 1) hk
    unfold okAt at this
    simp at this
    have h2 := this.2
    unfold ahead at h2
    simp at h2
    show (L.getD k en0).rep ≤ (L.getD (k + 1) en0).rep
    simp only [List.getD]
    omega
  constructor
  · unfold Up
    rw [List.pairwise_iff_getElem]
    intro i j hi hj hij
    have mono : ∀ d, i + d < L.length → (L.getD i en0).rep ≤ (L.getD (i + d) en0).rep := by
      intro d
      induction d with
      | zero => intro _; exact Int.le_refl _
      | succ d ih => intro hd; exact Int.le_trans (ih (by omega)) (hstep (i + d) (by omega))
    have := mono (j - i) (by omega)
    rw [show i + (j - i) = j by omega] at this
    simpa [List.getD, hi, hj] using this
  · intro e he
    obtain ⟨k, hk, rfl⟩ := List.getElem_of_mem he
    have := hrep _ (hce k hk)
    simpa [List.getD, hk] using this
/-- the entries of the first k replicas -/
def cat (L : List En) (s : ByteArray) (k : Nat) : List En := (List.range k).flatMap (fun r : Nat => owV L (r : Int) s)
theorem cat_succ (L : List En) (s : ByteArray) (k : Nat) : cat L s (k + 1) = cat L s k ++ owV L (k : Int) s := by unfold cat; rw [List.range_succ, List.flatMap_append]; simp
theorem cat_bad (L : List En) (s : ByteArray) (k : Nat) (hk : k ≤ 16) (h : ofE L s ≠ 0) : cat L s k = [] := by
  unfold cat
  rw [List.flatMap_eq_nil_iff]
  intro r hr
  have hr' : r < k := by simpa using hr
  unfold owV
  rw [ow_of L r s ((isR_iff _).2 (by omega)), if_neg h]
theorem cat_good (L : List En) (s : ByteArray) (k : Nat) (hk : k ≤ 16) (h : ofE L s = 0) : cat L s k = (L.filter (fun e => eqS e.sku s)).filter (fun e => decide (e.rep < (k : Int))) := by
  have hc : chk L = 0 := by unfold ofE at h; split at h; assumption; cases h
  obtain ⟨hu, hr⟩ := chk_up L hc
  have hu' : Up (L.filter (fun e => eqS e.sku s)) := List.Pairwise.filter _ hu
  rw [← up_cat hu' (fun e he => (hr e (List.mem_filter.1 he).1).1) k]
  unfold cat
  have : ∀ r ∈ List.range k, owV L (r : Int) s = (L.filter (fun e => eqS e.sku s)).filter (fun e => e.rep == (r : Int)) := by
    intro r hr'
    have hr2 : r < k := by simpa using hr'
    unfold owV
    rw [ow_of L r s ((isR_iff _).2 (by omega)), if_pos h, List.filter_filter]
  have gen : ∀ l : List Nat, (∀ r ∈ l, owV L (r : Int) s = (L.filter (fun e => eqS e.sku s)).filter (fun e => e.rep == (r : Int))) → l.flatMap (fun r : Nat => owV L (r : Int) s) = l.flatMap (fun r : Nat => (L.filter (fun e => eqS e.sku s)).filter (fun e => e.rep == (r : Int))) := by
    intro l hl
    induction l with
    | nil => rfl
    | cons a l ih => rw [List.flatMap_cons, List.flatMap_cons, hl a (by simp), ih (fun r hr => hl r (by simp [hr]))]
  exact gen _ this
theorem cat_len (L : List En) (s : ByteArray) (k : Nat) (hk : k ≤ 16) : (cat L s k).length ≤ L.length := by
  by_cases h : ofE L s = 0
  · rw [cat_good L s k hk h]
    exact Nat.le_trans (List.length_filter_le _ _) (List.length_filter_le _ _)
  · rw [cat_bad L s k hk h]; exact Nat.zero_le _
theorem cat_all (L : List En) (s : ByteArray) : cat L s 16 = ofV L s := by
  by_cases h : ofE L s = 0
  · rw [cat_good L s 16 (by omega) h]
    have hc : chk L = 0 := by unfold ofE at h; split at h; assumption; cases h
    obtain ⟨_, hr⟩ := chk_up L hc
    unfold ofV
    rw [if_pos h, List.filter_eq_self]
    intro e he
    have := hr e (List.mem_filter.1 he).1
    simp; omega
  · rw [cat_bad L s 16 (by omega) h]; unfold ofV; rw [if_neg h]
theorem owV_mem (L : List En) (r : Int) (s : ByteArray) (e : En) (h : e ∈ owV L r s) : e.rep = r ∧ eqS e.sku s = true ∧ e ∈ L := by
  unfold owV at h
  split at h
  · have := List.mem_filter.1 h
    simp at this
    exact ⟨this.2.1, this.2.2, this.1⟩
  · cases h
theorem cat_mem (L : List En) (s : ByteArray) (k : Nat) (e : En) (h : e ∈ cat L s k) : e ∈ L := by
  unfold cat at h
  obtain ⟨r, _, hr⟩ := List.mem_flatMap.1 h
  exact (owV_mem L r s e hr).2.2
end Go.Proofs.Ytopgmkonigaalaa
