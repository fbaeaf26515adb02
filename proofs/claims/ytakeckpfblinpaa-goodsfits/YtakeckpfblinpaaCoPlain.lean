/- Plain facts on Clean: what it answers is a SKU; a SKU, typed in whatever way, comes back. -/
import Derived.Test.YtakeckpfblinpaaCleanW
namespace Go.Proofs.Ytakeckpfblinpaa

theorem all256 (p : UInt8 → Bool) (h : (List.range 256).all (fun n => p (UInt8.ofNat n)) = true) (c : UInt8) : p c = true := by
  rw [List.all_eq_true] at h
  have := h c.toNat (by have := c.toNat_lt; simp; omega)
  rwa [UInt8.ofNat_toNat] at this

/-- a letter or a digit: no mark, its own capital, and so typed small -/
theorem plain_byte (c : UInt8) (h : mk c = false) (h2 : (lt c || dig c) = true) : mo c = 0 ∧ up c = c ∧ c.toNat < 128 := by
  have := all256 (fun c => !(!mk c && (lt c || dig c)) || (mo c == 0 && up c == c && decide (c.toNat < 128))) (by decide +kernel) c
  simp [h] at this
  rcases Bool.or_eq_true _ _ ▸ h2 with h3 | h3
  · simpa [h3, and_assoc] using this
  · simpa [h3, and_assoc] using this
theorem small_byte (c : UInt8) (h2 : lt c = true) : mo (c + 32) = 0 ∧ up (c + 32) = c ∧ (c + 32).toNat < 128 ∧ mk c = false := by
  have := all256 (fun c => !lt c || (mo (c + 32) == 0 && up (c + 32) == c && decide ((c + 32).toNat < 128) && !mk c)) (by decide +kernel) c
  simpa [h2, and_assoc] using this
theorem mark_byte (c : UInt8) (h : mk c = true) : c = 45 ∨ c = 46 := by
  have := all256 (fun c => !mk c || (c == 45 || c == 46)) (by decide +kernel) c
  simpa [h] using this
theorem mark_not (c : UInt8) (h : mk c = true) : lt c = false := by
  rcases mark_byte c h with rfl | rfl <;> decide

/-- how a byte of a SKU may be typed -/
def pc (k : Int) (c : UInt8) : List UInt8 :=
  if lt c = true ∧ 2 < k then [c + 32] else if c = 45 ∧ k = 1 then [95] else if c = 45 ∧ k = 2 then [47] else if c = 45 ∧ 3 < k then [32, 45] else if c = 46 ∧ 3 < k then [45, 46] else [c]
def body (s : List UInt8) (K : Nat → Int) : Nat → List UInt8
  | 0 => []
  | n + 1 => body s K n ++ pc (K n) (s.getD n 0)

theorem pc_len (k : Int) (c : UInt8) : (pc k c).length ≤ 2 := by
  unfold pc
  repeat' split
  all_goals simp
theorem body_len (s : List UInt8) (K : Nat → Int) (n : Nat) : (body s K n).length ≤ 2 * n := by
  induction n with
  | zero => simp [body]
  | succ n ih => have := pc_len (K n) (s.getD n 0); simp only [body, List.length_append]; omega

/-- a mark, however typed -/
theorem pc_mark (k : Int) (c : UInt8) (h : mk c = true) (out : List UInt8) : (pc k c).foldl cstep (out, 0) = (out, c) := by
  have hl := mark_not c h
  have a1 : mo 95 = 45 := by decide
  have a2 : mo 47 = 45 := by decide
  have a3 : mo 32 = 45 := by decide
  have a4 : mo 45 = 45 := by decide
  have a5 : mo 46 = 46 := by decide
  have j1 : jm 0 45 = 45 := by decide
  have j2 : jm 45 45 = 45 := by decide
  have j3 : jm 0 46 = 46 := by decide
  have j4 : jm 45 46 = 46 := by decide
  have n1 : (45 : UInt8) ≠ 0 := by decide
  have n2 : (46 : UInt8) ≠ 0 := by decide
  unfold pc
  rw [if_neg (by rw [hl]; simp)]
  rcases mark_byte c h with rfl | rfl
  · by_cases k1 : k = 1
    · simp [k1, cstep, a1, j1]
    · by_cases k2 : k = 2
      · simp [k2, cstep, a2, j1]
      · by_cases k3 : 3 < k
        · simp [k1, k2, k3, cstep, a3, a4, j1, j2]
        · simp [k1, k2, k3, cstep, a4, j1]
  · by_cases k3 : 3 < k
    · simp [k3, cstep, a4, a5, j1, j4]
    · simp [k3, cstep, a5, j3]
/-- a letter or a digit, however typed -/
theorem pc_plain (k : Int) (c : UInt8) (h : mk c = false) (h2 : (lt c || dig c) = true) (out : List UInt8) (wt : UInt8) :
    (pc k c).foldl cstep (out, wt) = (if wt ≠ 0 ∧ out ≠ [] then out ++ [wt] ++ [c] else out ++ [c], 0) := by
  obtain ⟨p1, p2, _⟩ := plain_byte c h h2
  have n1 : c ≠ 45 := fun e => by subst e; revert h; decide
  have n2 : c ≠ 46 := fun e => by subst e; revert h; decide
  unfold pc
  by_cases hl : lt c = true ∧ 2 < k
  · obtain ⟨q1, q2, _, _⟩ := small_byte c hl.1
    rw [if_pos hl]
    simp [cstep, q1, q2]
  · rw [if_neg hl, if_neg (fun e => n1 e.1), if_neg (fun e => n1 e.1), if_neg (fun e => n1 e.1), if_neg (fun e => n2 e.1)]
    simp [cstep, p1, p2]
theorem pc_ascii (k : Int) (c : UInt8) (h : mk c = true ∨ (lt c || dig c) = true) : ascii (pc k c) = true := by
  have hc : c.toNat < 128 := by
    cases hm : mk c with
    | true => rcases mark_byte c hm with rfl | rfl <;> decide
    | false =>
      rcases h with h | h
      · rw [h] at hm; cases hm
      · exact (plain_byte c hm h).2.2
  unfold pc
  split
  · rename_i hl
    simp only [ascii, List.all_cons, List.all_nil, Bool.and_true]
    exact decide_eq_true (small_byte c hl.1).2.2.1
  · repeat' split
    all_goals first | decide | simp [ascii, hc]

theorem stand_at {l : List UInt8} (h : stands l l.length = true) (i : Nat) (hi : i < l.length) : stand l i = true := by
  unfold stands at h; rw [List.all_eq_true] at h; exact h i (by simpa using hi)
theorem stand_kind {l : List UInt8} {i : Nat} (h : stand l i = true) : mk (l.getD i 0) = true ∨ (lt (l.getD i 0) || dig (l.getD i 0)) = true := by
  unfold stand at h
  by_cases hm : mk (l.getD i 0) = true
  · exact Or.inl hm
  · rw [if_neg hm] at h; exact Or.inr h
theorem stand_mark {l : List UInt8} {i : Nat} (h : stand l i = true) (hm : mk (l.getD i 0) = true) : 0 < i ∧ i + 1 < l.length ∧ mk (l.getD (i - 1) 0) = false := by
  unfold stand at h
  rw [if_pos hm] at h
  simp only [Bool.and_eq_true, decide_eq_true_eq, Bool.not_eq_true'] at h
  exact ⟨h.1.1, h.1.2, h.2⟩

theorem take_getD (s : List UInt8) (n : Nat) (h : n < s.length) : s.take (n + 1) = s.take n ++ [s.getD n 0] := by
  rw [List.take_succ_eq_append_getElem h]; simp [List.getD, h]
/-- Clean's state behind n bytes of a SKU -/
def bst (s : List UInt8) (wt0 : UInt8) (n : Nat) : List UInt8 × UInt8 := if n = 0 then ([], wt0) else if mk (s.getD (n - 1) 0) = true then (s.take (n - 1), s.getD (n - 1) 0) else (s.take n, 0)
theorem bst_zero (s : List UInt8) (wt0 : UInt8) : bst s wt0 0 = ([], wt0) := by unfold bst; rw [if_pos rfl]
theorem bst_mark (s : List UInt8) (wt0 : UInt8) (n : Nat) (h : mk (s.getD n 0) = true) : bst s wt0 (n + 1) = (s.take n, s.getD n 0) := by unfold bst; rw [if_neg (by omega), Nat.add_sub_cancel, if_pos h]
theorem bst_plain (s : List UInt8) (wt0 : UInt8) (n : Nat) (h : mk (s.getD n 0) = false) : bst s wt0 (n + 1) = (s.take (n + 1), 0) := by unfold bst; rw [if_neg (by omega), Nat.add_sub_cancel, if_neg (by rw [h]; simp)]
theorem body_run (s : List UInt8) (K : Nat → Int) (wt0 : UInt8) (hs : stands s s.length = true) (n : Nat) (hn : n ≤ s.length) :
    (body s K n).foldl cstep ([], wt0) = bst s wt0 n := by
  induction n with
  | zero => rw [bst_zero]; rfl
  | succ n ih =>
    have hst := stand_at hs n (by omega)
    rw [body, List.foldl_append, ih (by omega)]
    cases hm : mk (s.getD n 0) with
    | true =>
      obtain ⟨h0, _, hp⟩ := stand_mark hst hm
      obtain ⟨m, rfl⟩ : ∃ m, n = m + 1 := ⟨n - 1, by omega⟩
      rw [bst_mark s wt0 _ hm, bst_plain s wt0 m hp, pc_mark _ _ hm]
    | false =>
      have hk := (stand_kind hst).resolve_left (by rw [hm]; simp)
      rw [bst_plain s wt0 _ hm, take_getD s n (by omega)]
      cases n with
      | zero => rw [bst_zero, pc_plain _ _ hm hk, if_neg (by simp)]; rfl
      | succ m =>
        cases hq : mk (s.getD m 0) with
        | true =>
          have h1 := stand_mark (stand_at hs m (by omega)) hq
          have hne : s.getD m 0 ≠ 0 := by rcases mark_byte _ hq with e | e <;> (rw [e]; decide)
          have hne2 : s.take m ≠ [] := fun e => by
            have := congrArg List.length e
            simp only [List.length_take, List.length_nil] at this
            omega
          rw [bst_mark s wt0 m hq, pc_plain _ _ hm hk, if_pos ⟨hne, hne2⟩, take_getD s m (by omega)]
        | false => rw [bst_plain s wt0 m hq, pc_plain _ _ hm hk, if_neg (by simp)]
theorem body_all (s : List UInt8) (K : Nat → Int) (wt0 : UInt8) (h0 : 0 < s.length) (hs : stands s s.length = true) : (body s K s.length).foldl cstep ([], wt0) = (s, 0) := by
  rw [body_run s K wt0 hs s.length (Nat.le_refl _)]
  unfold bst
  rw [if_neg (by omega)]
  have hst := stand_at hs (s.length - 1) (by omega)
  have hm : ¬ mk (s.getD (s.length - 1) 0) = true := fun hm => by have := (stand_mark hst hm).2.1; omega
  rw [if_neg hm, List.take_length]
theorem body_ascii (s : List UInt8) (K : Nat → Int) (hs : stands s s.length = true) (n : Nat) (hn : n ≤ s.length) : ascii (body s K n) = true := by
  induction n with
  | zero => rfl
  | succ n ih =>
    have h1 := ih (by omega)
    have h2 := pc_ascii (K n) (s.getD n 0) (stand_kind (stand_at hs n (by omega)))
    unfold ascii at *
    rw [body, List.all_append, h1, h2]; rfl

theorem good_iff (l : List UInt8) : good l = true ↔ 0 < l.length ∧ l.length ≤ 24 ∧ stands l l.length = true := by
  unfold good ckE
  constructor
  · intro h
    by_cases h0 : l.length = 0
    · rw [if_pos h0] at h; exact absurd h (by decide)
    · rw [if_neg h0] at h
      by_cases h1 : 24 < l.length
      · rw [if_pos h1] at h; exact absurd h (by decide)
      · rw [if_neg h1] at h
        by_cases h2 : stands l l.length = true
        · exact ⟨by omega, by omega, h2⟩
        · rw [if_neg h2] at h; exact absurd h (by decide)
  · rintro ⟨h0, h1, h2⟩
    rw [if_neg (by omega), if_neg (by omega), if_pos h2]; rfl
theorem good_ck {l : List UInt8} (h : good l = true) : ckE l = 0 := by unfold good at h; simpa using h
theorem clS_good {l : List UInt8} (h : clE l = 0) : good (clS l) = true := by
  unfold clS
  rw [if_pos h]
  unfold clE at h
  split at h
  · cases h
  · split at h
    · unfold good; rw [h]; rfl
    · cases h
/-- what is typed for a SKU gives it back -/
theorem typed_back (s : List UInt8) (K : Nat → Int) (hg : good s = true) : clE ([32, 9] ++ body s K s.length ++ [47, 32]) = 0 ∧ clS ([32, 9] ++ body s K s.length ++ [47, 32]) = s := by
  obtain ⟨h0, h24, hst⟩ := (good_iff s).1 hg
  have hr : (crun ([32, 9] ++ body s K s.length ++ [47, 32])).1 = s := by
    unfold crun
    rw [List.foldl_append, List.foldl_append]
    have e1 : [32, 9].foldl cstep (([] : List UInt8), (0 : UInt8)) = ([], 45) := by decide
    rw [e1, body_all s K 45 h0 hst]
    have m1 : mo 47 ≠ 0 := by decide
    have m2 : mo 32 ≠ 0 := by decide
    simp only [List.foldl_cons, List.foldl_nil, cstep]
    rw [if_pos m1, if_pos m2]
  have ha : ascii ([32, 9] ++ body s K s.length ++ [47, 32]) = true := by
    have := body_ascii s K hst s.length (Nat.le_refl _)
    unfold ascii at *
    rw [List.all_append, List.all_append, this]; decide
  have hl : ¬ 96 < ([32, 9] ++ body s K s.length ++ [47, 32] : List UInt8).length := by
    have := body_len s K s.length
    simp only [List.length_append, List.length_cons, List.length_nil]; omega
  have he : clE ([32, 9] ++ body s K s.length ++ [47, 32]) = 0 := by
    unfold clE; rw [if_neg hl, if_pos ha, hr]; exact good_ck hg
  exact ⟨he, by unfold clS; rw [if_pos he, hr]⟩
theorem body_self (s : List UInt8) (n : Nat) (hn : n ≤ s.length) : body s (fun _ => 0) n = s.take n := by
  induction n with
  | zero => rfl
  | succ n ih =>
    rw [body, ih (by omega), take_getD s n (by omega)]
    unfold pc
    simp
theorem clean_self (s : List UInt8) (hg : good s = true) : clE s = 0 ∧ clS s = s := by
  obtain ⟨h0, h24, hst⟩ := (good_iff s).1 hg
  have e := body_self s s.length (Nat.le_refl _)
  rw [List.take_length] at e
  have hr : crun s = (s, 0) := by
    have := body_all s (fun _ => 0) 0 h0 hst
    rw [e] at this; exact this
  have ha : ascii s = true := by
    have := body_ascii s (fun _ => 0) hst s.length (Nat.le_refl _)
    rwa [e] at this
  have he : clE s = 0 := by unfold clE; rw [if_neg (by omega), if_pos ha, hr]; exact good_ck hg
  exact ⟨he, by unfold clS; rw [if_pos he, hr]⟩
end Go.Proofs.Ytakeckpfblinpaa
