/- Who knows all: plain. -/
import Derived.Test.YtckehmhieigglaaEHs
import Derived.Test.YtckehmhieigglaaERn
namespace Go.Proofs.Ytckehmhieigglaa
open Go.RowKit

def leK (K J : Nat → Nat → Bool) : Prop := ∀ r o, K r o = true → J r o = true
theorem kstep_grows (n : Nat) (K : Nat → Nat → Bool) (p : Pr) : leK K (kstep n K p) := fun r o h => by
  unfold kstep
  split
  · unfold kup
    split
    · rename_i e
      rw [← e.1, h]
      rfl
    · exact h
  · exact h
theorem fold_grows (n : Nat) : ∀ (L : List Pr) (K : Nat → Nat → Bool), leK K (L.foldl (kstep n) K)
  | [], _ => fun _ _ h => h
  | p :: L, K => fun r o h => fold_grows n L _ r o (kstep_grows n K p r o h)
/-- a talk from a to b tells b what a knew before -/
theorem fold_tells (n a b : Nat) (hg : goodB n (a : Int) (b : Int) = true) : ∀ (L : List Pr) (K : Nat → Nat → Bool), (⟨(a : Int), (b : Int)⟩ : Pr) ∈ L → ∀ o, o < 16 → K a o = true → L.foldl (kstep n) K b o = true
  | [], K, hm, o, ho, h => by cases hm
  | p :: L, K, hm, o, ho, h => by
    rw [List.foldl_cons]
    rcases List.mem_cons.1 hm with e | hm
    · subst e
      refine fold_grows n L _ b o ?_
      unfold kstep
      rw [if_pos hg]
      unfold kup
      simp only [Int.toNat_natCast]
      rw [if_pos ⟨by trivial, ho⟩, h]
      exact Bool.or_true _
    · exact fold_tells n a b hg L _ hm o ho (kstep_grows n K p a o h)
/-- does each know all? -/
def enB (n : Nat) (L : List Pr) : Bool := decide (∀ i, i < n → ∀ j, j < n → knw n L i j = true)
theorem rl_full (f : Nat → Bool) (n : Nat) : (rl f n).length = n ↔ ∀ j, j < n → f j = true := by
  induction n with
  | zero => simp [rl]
  | succ n ih =>
    unfold rl
    have hl := rl_len f n
    by_cases h : f n = true
    · rw [if_pos h, List.length_append]
      constructor
      · intro e j hj
        by_cases x : j = n
        · rw [x]; exact h
        · exact ih.1 (by simp at e; omega) j (by omega)
      · intro e
        rw [ih.2 (fun j hj => e j (by omega))]
        rfl
    · rw [if_neg h]
      constructor
      · intro e; omega
      · intro e; exact absurd (e n (by omega)) h
theorem good_pair {n a b : Nat} (ha : a < n) (hb : b < n) (h : a ≠ b) : goodB n (a : Int) (b : Int) = true := by unfold goodB; simp; omega
theorem mem_row (f : Nat) : ∀ (k t : Nat), t < k → t ≠ f → (⟨(f : Int), (t : Int)⟩ : Pr) ∈ rowP f k
  | k + 1, t, h, hne => by
    unfold rowP
    by_cases e : t = k
    · subst e
      rw [if_neg (fun x => hne x.symm)]
      simp
    · have := mem_row f k t (by omega) hne
      split
      · exact this
      · exact List.mem_append_left _ this
theorem mem_pairs (n : Nat) : ∀ (k f t : Nat), f < k → t < n → t ≠ f → (⟨(f : Int), (t : Int)⟩ : Pr) ∈ pairsP n k
  | k + 1, f, t, h, ht, hne => by
    unfold pairsP
    by_cases e : f = k
    · subst e
      exact List.mem_append_right _ (mem_row f n t ht hne)
    · exact List.mem_append_left _ (mem_pairs n k f t (by omega) ht hne)
/-- all pairs are enough, in any order -/
theorem en_all (n : Nat) (hn : n ≤ 16) (L : List Pr) (h : ∀ p, p ∈ pairsP n n → p ∈ L) : enB n L = true := by
  unfold enB
  rw [decide_eq_true_eq]
  intro i hi j hj
  by_cases e : i = j
  · subst e
    exact knw_diag n L i hi
  · exact fold_tells n j i (good_pair hj hi (fun x => e x.symm)) L _ (h _ (mem_pairs n n j i hj hi e)) j (by omega) (by unfold k0; simp; exact hj)
/-- how far r lies behind o -/
def far (n r o : Nat) : Nat := if o ≤ r then r - o else r + n - o
def Dn (n s : Nat) (K : Nat → Nat → Bool) : Prop := ∀ r o, r < n → o < n → far n r o < s → K r o = true
theorem mem_round (n s : Nat) : ∀ (k a : Nat), a < k → (⟨(a : Int), ((a : Int) + (s : Int)) % (n : Int)⟩ : Pr) ∈ roundP n s k
  | k + 1, a, h => by
    unfold roundP
    by_cases e : a = k
    · subst e; simp
    · exact List.mem_append_left _ (mem_round n s k a (by omega))
theorem Dn.round {n s : Nat} {K : Nat → Nat → Bool} (h : Dn n s K) (hs : s < n) (h0 : 1 ≤ s) (hn : n ≤ 16) (M : List Pr) (hM : ∀ p, p ∈ roundP n s n → p ∈ M) : Dn n (2 * s) (M.foldl (kstep n) K) := by
  intro r o hr ho hf
  by_cases hd : far n r o < s
  · exact fold_grows n M K r o (h r o hr ho hd)
  · obtain ⟨a, ha⟩ : ∃ a, (if s ≤ r then r - s else r + n - s) = a := ⟨_, rfl⟩
    have han : a < n := by rw [← ha]; split <;> omega
    have hto : ((a : Int) + (s : Int)) % (n : Int) = (r : Int) := by
      by_cases x : s ≤ r
      · rw [if_pos x] at ha
        rw [show (a : Int) + (s : Int) = (r : Int) by omega]
        exact Int.emod_eq_of_lt (by omega) (by omega)
      · rw [if_neg x] at ha
        rw [show (a : Int) + (s : Int) = (r : Int) + (n : Int) by omega, Int.add_emod_right]
        exact Int.emod_eq_of_lt (by omega) (by omega)
    have hm := hM _ (mem_round n s n a han)
    rw [hto] at hm
    refine fold_tells n a r (good_pair han hr (by rw [← ha]; split <;> omega)) M K hm o (by omega) (h a o han ho ?_)
    unfold far at hf hd ⊢
    rw [← ha]
    split at hf <;> split at hd <;> (repeat' split) <;> omega
/-- rounds one behind the other, each in any order -/
inductive RndL (n : Nat) : Nat → List Pr → Prop
  | nil : RndL n 0 []
  | snoc {k : Nat} {L M : List Pr} : RndL n k L → (∀ p, p ∈ roundP n (2 ^ k) n → p ∈ M) → M.length = n → RndL n (k + 1) (L ++ M)
theorem RndL.len {n k : Nat} {L : List Pr} (h : RndL n k L) : L.length = k * n := by
  induction h with
  | nil => simp
  | snoc _ _ hl ih => rw [List.length_append, ih, hl, Nat.succ_mul]
theorem RndL.dn {n k : Nat} {L : List Pr} (h : RndL n k L) (hn : n ≤ 16) (hk : k = 0 ∨ 2 ^ (k - 1) < n) : Dn n (2 ^ k) (knw n L) := by
  induction h with
  | nil =>
    intro r o hr ho hf
    have : r = o := by unfold far at hf; split at hf <;> simp at hf <;> omega
    subst this
    unfold knw k0
    simp [hr]
  | @snoc k L M h1 h2 h3 ih =>
    have hlt : 2 ^ k < n := by rcases hk with e | e; · omega
                               · simpa using e
    have ih' := ih (by
      by_cases x : k = 0
      · exact Or.inl x
      · right
        refine Nat.lt_of_le_of_lt ?_ hlt
        exact Nat.pow_le_pow_right (by omega) (by omega))
    have := ih'.round hlt (Nat.two_pow_pos k) hn M h2
    unfold knw
    rw [List.foldl_append, Nat.pow_succ, Nat.mul_comm]
    exact this
theorem cN_pow (n : Nat) (hn : n ≤ 16) : n ≤ 2 ^ cN n ∧ (cN n = 0 ∨ 2 ^ (cN n - 1) < n) := by
  unfold cN
  repeat' split
  all_goals simp
  all_goals omega
theorem en_rounds (n : Nat) (hn : n ≤ 16) (L : List Pr) (h : RndL n (cN n) L) : enB n L = true := by
  unfold enB
  rw [decide_eq_true_eq]
  intro i hi j hj
  obtain ⟨h1, h2⟩ := cN_pow n hn
  refine h.dn hn h2 i j hi hj ?_
  have : far n i j < n := by unfold far; split <;> omega
  omega
theorem rounds_long (n : Nat) (hn : n ≤ 16) (_ : 1 ≤ n) : n ≤ cN n * n + 1 := by
  unfold cN
  (repeat' split) <;> omega
/-- nobody tells 0 -/
theorem deaf_knows (n : Nat) : ∀ (L : List Pr) (K : Nat → Nat → Bool), (∀ p, p ∈ L → p.t ≠ 0) → ∀ o, L.foldl (kstep n) K 0 o = K 0 o
  | [], K, _, o => rfl
  | p :: L, K, h, o => by
    rw [List.foldl_cons, deaf_knows n L _ (fun q hq => h q (List.mem_cons_of_mem _ hq)) o]
    unfold kstep
    split
    · rename_i hg
      have ht := h p (List.mem_cons_self ..)
      unfold goodB at hg
      simp only [decide_eq_true_eq] at hg
      unfold kup
      rw [if_neg]
      rintro ⟨e, _⟩
      omega
    · rfl
theorem en_deaf (n : Nat) (h2 : 2 ≤ n) (L : List Pr) (h : ∀ p, p ∈ L → p.t ≠ 0) : enB n L = false := by
  unfold enB
  rw [decide_eq_false_iff_not]
  intro e
  have := e 0 (by omega) 1 (by omega)
  unfold knw at this
  rw [deaf_knows n L _ h 1] at this
  unfold k0 at this
  simp at this
theorem en_one : enB 1 [] = true := by decide
theorem en_two : enB 2 [] = false := by decide
end Go.Proofs.Ytckehmhieigglaa
