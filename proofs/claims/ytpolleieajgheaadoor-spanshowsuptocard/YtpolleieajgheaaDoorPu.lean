/- Plain: sorting by merging ever longer pieces; the list of the members in strict order. -/
import Derived.Below
namespace Go.Proofs.YtpolleieajgheaaDoor


/-- every piece of w, counted from the front, stands in order -/
def Chunked {α : Type} (le : α → α → Prop) (w : Nat) (L : List α) : Prop := ∀ q, ((L.drop (q * w)).take w).Pairwise le
theorem chunked_one {α : Type} (le : α → α → Prop) (L : List α) : Chunked le 1 L := by
  intro q
  match h : (L.drop (q * 1)).take 1 with
  | [] => exact List.Pairwise.nil
  | [a] => exact List.pairwise_singleton _ _
  | a :: b :: r =>
    have := congrArg List.length h
    simp at this
    omega
theorem chunked_whole {α : Type} {le : α → α → Prop} {w : Nat} {L : List α} (h : Chunked le w L) (hl : L.length ≤ w) : L.Pairwise le := by
  have := h 0
  rwa [Nat.zero_mul, List.drop_zero, List.take_of_length_le hl] at this
theorem chunked_nil {α : Type} (le : α → α → Prop) (w : Nat) : Chunked le w [] := by intro q; simp
theorem chunked_snoc {α : Type} {le : α → α → Prop} {w q0 : Nat} {M X : List α} (hM : Chunked le w M) (hl : M.length = q0 * w) (hX : X.Pairwise le) (hXl : X.length ≤ w) : Chunked le w (M ++ X) := by
  intro q
  by_cases h : q < q0
  · have e : q * w + w ≤ M.length := by rw [hl, ← Nat.succ_mul]; exact Nat.mul_le_mul_right _ h
    rw [List.drop_append_of_le_length (by omega), List.take_append_of_le_length (by rw [List.length_drop]; omega)]
    exact hM q
  · have e : M.length ≤ q * w := by rw [hl]; exact Nat.mul_le_mul_right _ (by omega)
    rw [List.drop_append, List.drop_eq_nil_of_le e, List.nil_append]
    exact (hX.sublist (List.drop_sublist _ _)).sublist (List.take_sublist _ _)
theorem seg_cons {α : Type} (L : List α) (d : α) (i m : Nat) (h : i < m) (hm : m ≤ L.length) : (L.drop i).take (m - i) = L.getD i d :: (L.drop (i + 1)).take (m - (i + 1)) := by
  rw [List.drop_eq_getElem_cons (by omega), show m - i = (m - (i + 1)) + 1 by omega, List.take_succ_cons]
  simp [List.getD, show i < L.length by omega]
theorem seg_nil {α : Type} (L : List α) (i m : Nat) (h : m ≤ i) : (L.drop i).take (m - i) = [] := by rw [show m - i = 0 by omega]; simp
/-- what is left to be merged of two pieces -/
def mrg {α : Type} (le : α → α → Bool) (L : List α) (i mid j en : Nat) : List α := List.merge ((L.drop i).take (mid - i)) ((L.drop j).take (en - j)) le
theorem mrg_none {α : Type} (le : α → α → Bool) (L : List α) (i mid j en : Nat) (hi : mid ≤ i) (hj : en ≤ j) : mrg le L i mid j en = [] := by unfold mrg; rw [seg_nil L i mid hi, seg_nil L j en hj]; simp
theorem mrg_left {α : Type} (le : α → α → Bool) (L : List α) (d : α) (i mid j en : Nat) (hi : i < mid) (hm : mid ≤ L.length) (hj : en ≤ j) : mrg le L i mid j en = L.getD i d :: mrg le L (i + 1) mid j en := by
  unfold mrg; rw [seg_nil L j en hj, seg_cons L d i mid hi hm]; simp
theorem mrg_right {α : Type} (le : α → α → Bool) (L : List α) (d : α) (i mid j en : Nat) (hi : mid ≤ i) (hj : j < en) (he : en ≤ L.length) : mrg le L i mid j en = L.getD j d :: mrg le L i mid (j + 1) en := by
  unfold mrg; rw [seg_nil L i mid hi, seg_cons L d j en hj he]; simp
theorem mrg_le {α : Type} (le : α → α → Bool) (L : List α) (d : α) (i mid j en : Nat) (hi : i < mid) (hm : mid ≤ L.length) (hj : j < en) (he : en ≤ L.length) (h : le (L.getD i d) (L.getD j d) = true) : mrg le L i mid j en = L.getD i d :: mrg le L (i + 1) mid j en := by
  unfold mrg; rw [seg_cons L d i mid hi hm, seg_cons L d j en hj he, List.cons_merge_cons, if_pos h]
theorem mrg_gt {α : Type} (le : α → α → Bool) (L : List α) (d : α) (i mid j en : Nat) (hi : i < mid) (hm : mid ≤ L.length) (hj : j < en) (he : en ≤ L.length) (h : le (L.getD i d) (L.getD j d) = false) : mrg le L i mid j en = L.getD j d :: mrg le L i mid (j + 1) en := by
  unfold mrg; rw [seg_cons L d i mid hi hm, seg_cons L d j en hj he, List.cons_merge_cons, if_neg (by rw [h]; simp)]
theorem seg_split {α : Type} (L : List α) (a b c : Nat) (h : a ≤ b) (h2 : b ≤ c) : (L.drop a).take (b - a) ++ (L.drop b).take (c - b) = (L.drop a).take (c - a) := by
  have e : c - a = (b - a) + (c - b) := by omega
  rw [e, List.take_add, List.drop_drop, show a + (b - a) = b by omega]
theorem mrg_perm {α : Type} (le : α → α → Bool) (L : List α) (a mid en : Nat) (h : a ≤ mid) (h2 : mid ≤ en) : (mrg le L a mid mid en).Perm ((L.drop a).take (en - a)) := by
  unfold mrg
  refine (List.merge_perm_append le).trans ?_
  rw [seg_split L a mid en h h2]
theorem mrg_sorted {α : Type} {le : α → α → Bool} (ht : ∀ a b c, le a b = true → le b c = true → le a c = true) (hto : ∀ a b, (le a b || le b a) = true) (L : List α) (w q mid en : Nat) (h : Chunked (fun x y => le x y = true) w L) (hm : mid = min (2 * q * w + w) L.length) (he : en = min (mid + w) L.length) :
    (mrg le L (2 * q * w) mid mid en).Pairwise (fun x y => le x y = true) := by
  unfold mrg
  refine List.pairwise_merge ht hto _ _ ?_ ?_
  · have h1 := h (2 * q)
    exact h1.sublist (List.take_sublist_take_left (by omega))
  · by_cases hl : 2 * q * w + w ≤ L.length
    · have h1 := h (2 * q + 1)
      have e : (2 * q + 1) * w = mid := by rw [hm, Nat.min_eq_left hl, Nat.add_mul, Nat.one_mul]
      rw [e] at h1
      exact h1.sublist (List.take_sublist_take_left (by omega))
    · have : L.drop mid = [] := List.drop_eq_nil_of_le (by omega)
      rw [this]; simp
/-- a pass of the merging: t pairs of pieces of q are merged, f places are done -/
structure Pass {α : Type} (le : α → α → Bool) (L M : List α) (n q f t : Nat) : Prop where
  hf : f = 2 * t * q
  hl : M.length = min f n
  hp : M.Perm (L.take f)
  hc : Chunked (fun x y => le x y = true) (2 * q) M
theorem Pass.start {α : Type} (le : α → α → Bool) (L : List α) (n q : Nat) : Pass le L [] n q 0 0 := ⟨by simp, by simp, by simp, chunked_nil _ _⟩
theorem Pass.step {α : Type} {le : α → α → Bool} (ht : ∀ a b c, le a b = true → le b c = true → le a c = true) (hto : ∀ a b, (le a b || le b a) = true) {L M : List α} {n q f t mid en : Nat} (P : Pass le L M n q f t) (hn : L.length = n) (hlt : f < n) (hC : Chunked (fun x y => le x y = true) q L)
    (hm : mid = min (f + q) n) (he : en = min (mid + q) n) : Pass le L (M ++ mrg le L f mid mid en) n q (f + 2 * q) (t + 1) := by
  have h1 := mrg_perm le L f mid en (by omega) (by omega)
  have hs := mrg_sorted ht hto L q t mid en hC (by rw [hn, ← P.hf]; exact hm) (by rw [hn]; exact he)
  rw [← P.hf] at hs
  have hxl : (mrg le L f mid mid en).length = en - f := by rw [h1.length_eq, List.length_take, List.length_drop]; omega
  have hml : M.length = f := by rw [P.hl]; omega
  refine ⟨?_, ?_, ?_, ?_⟩
  · rw [P.hf, Nat.mul_add, Nat.add_mul]
  · rw [List.length_append, hxl, hml]; omega
  · refine (P.hp.append h1).trans ?_
    have e : L.take (f + 2 * q) = L.take en := by
      by_cases h : f + 2 * q ≤ n
      · rw [show en = f + 2 * q by omega]
      · rw [List.take_of_length_le (by omega), List.take_of_length_le (by omega)]
    have e2 := seg_split L 0 f en (by omega) (by omega)
    simp only [List.drop_zero, Nat.sub_zero] at e2
    rw [e, e2]
  · exact chunked_snoc P.hc (q0 := t) (by rw [hml, P.hf, Nat.mul_comm 2 t, Nat.mul_assoc]) hs (by rw [hxl]; omega)
theorem Pass.done {α : Type} {le : α → α → Bool} {L M : List α} {n q f t : Nat} (P : Pass le L M n q f t) (hn : L.length = n) (h : n ≤ f) : M.Perm L ∧ Chunked (fun x y => le x y = true) (2 * q) M ∧ M.length = n :=
  ⟨by have := P.hp; rwa [List.take_of_length_le (by omega)] at this, P.hc, by rw [P.hl]; omega⟩
theorem mrg_length {α : Type} (le : α → α → Bool) (L : List α) (f mid en n : Nat) (hn : L.length = n) (h : f ≤ mid) (h2 : mid ≤ en) (he : en ≤ n) : (mrg le L f mid mid en).length = en - f := by
  rw [(mrg_perm le L f mid en h h2).length_eq, List.length_take, List.length_drop]; omega
end Go.Proofs.YtpolleieajgheaaDoor
