/- LPu LLtr LSrt LDd LShf -/
import Derived.Below
import Derived.Test.YtooinnhjeloocaaGreatLs32
import Derived.Laws.MakeOwn
import Derived.Deep.CutRange
import Derived.Deep.LoopGhost
import Derived.Lib.SlicesCompact
import Derived.Shelf.SlSortCmp.WholeK
import Derived.Shelf.SlGeneric
import Derived.Ground.SlsfProg
import Derived.Test.YtooinnhjeloocaaGreatProg
namespace Go.Proofs.YtooinnhjeloocaaGreat.K


/-- every piece of w, counted from the front, stands in order -/
def Chunked {α : Type} (le : α → α → Prop) (w : Nat) (L : List α) : Prop := ∀ q, ((L.drop (q * w)).take w).Pairwise le
theorem chunked_one {α : Type} (le : α → α → Prop) (L : List α) : Chunked le 1 L := by
  intro q
  match h : (L.drop (q * 1)).take 1 with
  | [] => exact List.Pairwise.nil
  | [a] => exact List.pairwise_singleton _ _
  | a :: b :: r =>
    have := congrArg List.length h
    simp at this
    omega
theorem chunked_whole {α : Type} {le : α → α → Prop} {w : Nat} {L : List α} (h : Chunked le w L) (hl : L.length ≤ w) : L.Pairwise le := by
  have := h 0
  rwa [Nat.zero_mul, List.drop_zero, List.take_of_length_le hl] at this
theorem chunked_nil {α : Type} (le : α → α → Prop) (w : Nat) : Chunked le w [] := by intro q; simp
theorem chunked_snoc {α : Type} {le : α → α → Prop} {w q0 : Nat} {M X : List α} (hM : Chunked le w M) (hl : M.length = q0 * w) (hX : X.Pairwise le) (hXl : X.length ≤ w) : Chunked le w (M ++ X) := by
  intro q
  by_cases h : q < q0
  · have e : q * w + w ≤ M.length := by rw [hl, ← Nat.succ_mul]; exact Nat.mul_le_mul_right _ h
    rw [List.drop_append_of_le_length (by omega), List.take_append_of_le_length (by rw [List.length_drop]; omega)]
    exact hM q
  · have e : M.length ≤ q * w := by rw [hl]; exact Nat.mul_le_mul_right _ (by omega)
    rw [List.drop_append, List.drop_eq_nil_of_le e, List.nil_append]
    exact (hX.sublist (List.drop_sublist _ _)).sublist (List.take_sublist _ _)
theorem seg_cons {α : Type} (L : List α) (d : α) (i m : Nat) (h : i < m) (hm : m ≤ L.length) : (L.drop i).take (m - i) = L.getD i d :: (L.drop (i + 1)).take (m - (i + 1)) := by
  rw [List.drop_eq_getElem_cons (by omega), show m - i = (m - (i + 1)) + 1 by omega, List.take_succ_cons]
  simp [List.getD, show i < L.length by omega]
theorem seg_nil {α : Type} (L : List α) (i m : Nat) (h : m ≤ i) : (L.drop i).take (m - i) = [] := by rw [show m - i = 0 by omega]; simp
/-- what is left to be merged of two pieces -/
def mrg {α : Type} (le : α → α → Bool) (L : List α) (i mid j en : Nat) : List α := List.merge ((L.drop i).take (mid - i)) ((L.drop j).take (en - j)) le
theorem mrg_none {α : Type} (le : α → α → Bool) (L : List α) (i mid j en : Nat) (hi : mid ≤ i) (hj : en ≤ j) : mrg le L i mid j en = [] := by unfold mrg; rw [seg_nil L i mid hi, seg_nil L j en hj]; simp
theorem mrg_left {α : Type} (le : α → α → Bool) (L : List α) (d : α) (i mid j en : Nat) (hi : i < mid) (hm : mid ≤ L.length) (hj : en ≤ j) : mrg le L i mid j en = L.getD i d :: mrg le L (i + 1) mid j en := by
  unfold mrg; rw [seg_nil L j en hj, seg_cons L d i mid hi hm]; simp
theorem mrg_right {α : Type} (le : α → α → Bool) (L : List α) (d : α) (i mid j en : Nat) (hi : mid ≤ i) (hj : j < en) (he : en ≤ L.length) : mrg le L i mid j en = L.getD j d :: mrg le L i mid (j + 1) en := by
  unfold mrg; rw [seg_nil L i mid hi, seg_cons L d j en hj he]; simp
theorem mrg_le {α : Type} (le : α → α → Bool) (L : List α) (d : α) (i mid j en : Nat) (hi : i < mid) (hm : mid ≤ L.length) (hj : j < en) (he : en ≤ L.length) (h : le (L.getD i d) (L.getD j d) = true) : mrg le L i mid j en = L.getD i d :: mrg le L (i + 1) mid j en := by
  unfold mrg; rw [seg_cons L d i mid hi hm, seg_cons L d j en hj he, List.cons_merge_cons, if_pos h]
theorem mrg_gt {α : Type} (le : α → α → Bool) (L : List α) (d : α) (i mid j en : Nat) (hi : i < mid) (hm : mid ≤ L.length) (hj : j < en) (he : en ≤ L.length) (h : le (L.getD i d) (L.getD j d) = false) : mrg le L i mid j en = L.getD j d :: mrg le L i mid (j + 1) en := by
  unfold mrg; rw [seg_cons L d i mid hi hm, seg_cons L d j en hj he, List.cons_merge_cons, if_neg (by rw [h]; simp)]
theorem seg_split {α : Type} (L : List α) (a b c : Nat) (h : a ≤ b) (h2 : b ≤ c) : (L.drop a).take (b - a) ++ (L.drop b).take (c - b) = (L.drop a).take (c - a) := by
  have e : c - a = (b - a) + (c - b) := by omega
  rw [e, List.take_add, List.drop_drop, show a + (b - a) = b by omega]
theorem mrg_perm {α : Type} (le : α → α → Bool) (L : List α) (a mid en : Nat) (h : a ≤ mid) (h2 : mid ≤ en) : (mrg le L a mid mid en).Perm ((L.drop a).take (en - a)) := by
  unfold mrg
  refine (List.merge_perm_append le).trans ?_
  rw [seg_split L a mid en h h2]
theorem mrg_sorted {α : Type} {le : α → α → Bool} (ht : ∀ a b c, le a b = true → le b c = true → le a c = true) (hto : ∀ a b, (le a b || le b a) = true) (L : List α) (w q mid en : Nat) (h : Chunked (fun x y => le x y = true) w L) (hm : mid = min (2 * q * w + w) L.length) (he : en = min (mid + w) L.length) :
    (mrg le L (2 * q * w) mid mid en).Pairwise (fun x y => le x y = true) := by
  unfold mrg
  refine List.pairwise_merge ht hto _ _ ?_ ?_
  · have h1 := h (2 * q)
    exact h1.sublist (List.take_sublist_take_left (by omega))
  · by_cases hl : 2 * q * w + w ≤ L.length
    · have h1 := h (2 * q + 1)
      have e : (2 * q + 1) * w = mid := by rw [hm, Nat.min_eq_left hl, Nat.add_mul, Nat.one_mul]
      rw [e] at h1
      exact h1.sublist (List.take_sublist_take_left (by omega))
    · have : L.drop mid = [] := List.drop_eq_nil_of_le (by omega)
      rw [this]; simp
/-- a pass of the merging: t pairs of pieces of q are merged, f places are done -/
structure Pass {α : Type} (le : α → α → Bool) (L M : List α) (n q f t : Nat) : Prop where
  hf : f = 2 * t * q
  hl : M.length = min f n
  hp : M.Perm (L.take f)
  hc : Chunked (fun x y => le x y = true) (2 * q) M
theorem Pass.start {α : Type} (le : α → α → Bool) (L : List α) (n q : Nat) : Pass le L [] n q 0 0 := ⟨by simp, by simp, by simp, chunked_nil _ _⟩
theorem Pass.step {α : Type} {le : α → α → Bool} (ht : ∀ a b c, le a b = true → le b c = true → le a c = true) (hto : ∀ a b, (le a b || le b a) = true) {L M : List α} {n q f t mid en : Nat} (P : Pass le L M n q f t) (hn : L.length = n) (hlt : f < n) (hC : Chunked (fun x y => le x y = true) q L)
    (hm : mid = min (f + q) n) (he : en = min (mid + q) n) : Pass le L (M ++ mrg le L f mid mid en) n q (f + 2 * q) (t + 1) := by
  have h1 := mrg_perm le L f mid en (by omega) (by omega)
  have hs := mrg_sorted ht hto L q t mid en hC (by rw [hn, ← P.hf]; exact hm) (by rw [hn]; exact he)
  rw [← P.hf] at hs
  have hxl : (mrg le L f mid mid en).length = en - f := by rw [h1.length_eq, List.length_take, List.length_drop]; omega
  have hml : M.length = f := by rw [P.hl]; omega
  refine ⟨?_, ?_, ?_, ?_⟩
  · rw [P.hf, Nat.mul_add, Nat.add_mul]
  · rw [List.length_append, hxl, hml]; omega
  · refine (P.hp.append h1).trans ?_
    have e : L.take (f + 2 * q) = L.take en := by
      by_cases h : f + 2 * q ≤ n
      · rw [show en = f + 2 * q by omega]
      · rw [List.take_of_length_le (by omega), List.take_of_length_le (by omega)]
    have e2 := seg_split L 0 f en (by omega) (by omega)
    simp only [List.drop_zero, Nat.sub_zero] at e2
    rw [e, e2]
  · exact chunked_snoc P.hc (q0 := t) (by rw [hml, P.hf, Nat.mul_comm 2 t, Nat.mul_assoc]) hs (by rw [hxl]; omega)
theorem Pass.done {α : Type} {le : α → α → Bool} {L M : List α} {n q f t : Nat} (P : Pass le L M n q f t) (hn : L.length = n) (h : n ≤ f) : M.Perm L ∧ Chunked (fun x y => le x y = true) (2 * q) M ∧ M.length = n :=
  ⟨by have := P.hp; rwa [List.take_of_length_le (by omega)] at this, P.hc, by rw [P.hl]; omega⟩
theorem mrg_length {α : Type} (le : α → α → Bool) (L : List α) (f mid en n : Nat) (hn : L.length = n) (h : f ≤ mid) (h2 : mid ≤ en) (he : en ≤ n) : (mrg le L f mid mid en).length = en - f := by
  rw [(mrg_perm le L f mid en h h2).length_eq, List.length_take, List.length_drop]; omega
end Go.Proofs.YtooinnhjeloocaaGreat.K
namespace Go.Proofs.YtooinnhjeloocaaGreat.K
open Go.RowKit
attribute [local go_sem ↓] ld28_eq st28_eq ld26_eq
attribute [local go_sem] zero_EC cells_EV EC_size
def leE (x y : En) : Bool := !ahead y x
theorem leE_trans (a b c : En) (h1 : leE a b = true) (h2 : leE b c = true) : leE a c = true := by
  simp [leE, ahead] at *; omega
theorem leE_total (a b : En) : (leE a b || leE b a) = true := by
  simp [leE, ahead]; omega
end Go.Proofs.YtooinnhjeloocaaGreat.K
namespace Go.Proofs.YtooinnhjeloocaaGreat.K
open Go.RowKit
attribute [local go_sem ↓] ld28_eq st28_eq
attribute [local go_sem] zero_EC cells_EV EC_size
attribute [local go_sem] fold_EC
def mk22 (a b : Value) : Sem Value := Instr.makeSlice 22 a b
theorem mk22_eq (a b : Value) : Instr.makeSlice 22 a b = mk22 a b := rfl
attribute [local go_sem ↓] mk22_eq
/-- a list with room for n, made anew -/
theorem made0 (w : World) (n : Nat) (hn : n ≤ 3518437208883) : ∃ w' : World, (mk22 (.int .i64 0) (.int .i64 (n : Int))).run Tryz.prog w = .ok (.slice (some ⟨w.heap.size, 0, none⟩) 0 n) w' ∧ OwnE w.heap.size w.heap.size w w' (some ⟨w.heap.size, 0, none⟩) n [] := by
  obtain ⟨i0, hi, hz0, hz1, hz2⟩ := info_parts info28
  obtain ⟨w', h1, h2, h3⟩ := run_make_own (P := Tryz.prog) w w.heap.size 22 36 i0 _ 4 Tryz.underlying22 hi hz0 hz1 .i64 .i64 n (by rw [hz2]; omega) (by unfold maxLen; omega) (Nat.le_refl _)
  exact ⟨w', h1, h2, (Below.refl _ _).grown h3 (Nat.le_refl _) (fun k hk => by cases hk), h3.size, Nat.le_refl _⟩
/-- the members of L in order -/
def InOrder (L R : List En) : Prop := R.Perm L ∧ R.Pairwise (fun x y => leE x y = true)
/-- a list in order is handed back -/
def GivesS (w w' : World) (e : Ending) (L : List En) : Prop := ∃ R, InOrder L R ∧ GivesE w w' e R
theorem ahead_of_le {x y : En} {p : Bool} (h : ahead y x = p) : leE x y = !p := by unfold leE; rw [h]
end Go.Proofs.YtooinnhjeloocaaGreat.K
namespace Go.Proofs.YtooinnhjeloocaaGreat.K
open Go.RowKit

instance : DecidableEq En := fun a b =>
  decidable_of_iff (a.rep = b.rep ∧ a.num = b.num ∧ a.sku = b.sku ∧ a.qty = b.qty) ⟨fun ⟨h1, h2, h3, h4⟩ => by cases a; cases b; simp_all, fun h => by subst h; exact ⟨rfl, rfl, rfl, rfl⟩⟩
instance : Inhabited En := ⟨en0⟩
def sameDot (x y : En) : Bool := x.rep == y.rep && x.num == y.num
theorem ahead_of {x y : En} (h : leE x y = true) (hs : sameDot y x = false) : ahead x y = true := by
  simp [leE, ahead, sameDot] at *; omega
theorem ahead_le {x y z : En} (h : leE x y = true) (h2 : ahead y z = true) : ahead x z = true := by
  simp [leE, ahead] at *; omega
theorem ahead_trans {x y z : En} (h : ahead x y = true) (h2 : ahead y z = true) : ahead x z = true := by
  simp [ahead] at *; omega
theorem ahead_irr (x : En) : ahead x x = false := by simp [ahead]
theorem ahead_asymm {x y : En} (h : ahead x y = true) : ahead y x = false := by
  simp [ahead] at *; omega
theorem ahead_same {x y : En} (h : ahead x y = true) : sameDot x y = false := by
  simp [ahead, sameDot] at *; omega
theorem same_symm {x y : En} : sameDot x y = sameDot y x := by
  simp [sameDot, Bool.beq_comm]
/-- a dot has two contents -/
def Clash (L : List En) : Prop := ∃ x, x ∈ L ∧ ∃ y, y ∈ L ∧ sameDot x y = true ∧ x ≠ y
def Asc (R : List En) : Prop := R.Pairwise (fun x y => ahead x y = true)
/-- what Sort and Union answer of the entries L -/
def Settled (L R : List En) (e : Int) : Prop := (Clash L ∧ R = [] ∧ e = 10) ∨ (¬ Clash L ∧ e = 0 ∧ Asc R ∧ ∀ x, x ∈ R ↔ x ∈ L)
theorem asc_unique : ∀ {R R' : List En}, Asc R → Asc R' → (∀ x, x ∈ R ↔ x ∈ R') → R = R'
  | [], [], _, _, _ => rfl
  | [], b :: _, _, _, h => absurd ((h b).2 (List.mem_cons_self ..)) (by simp)
  | a :: _, [], _, _, h => absurd ((h a).1 (List.mem_cons_self ..)) (by simp)
  | a :: R, b :: R', h1, h2, h => by
    obtain ⟨a1, a2⟩ := List.pairwise_cons.1 h1
    obtain ⟨b1, b2⟩ := List.pairwise_cons.1 h2
    have e : a = b := by
      rcases List.mem_cons.1 ((h a).1 (List.mem_cons_self ..)) with e | e
      · exact e
      · rcases List.mem_cons.1 ((h b).2 (List.mem_cons_self ..)) with e' | e'
        · exact e'.symm
        · have := ahead_asymm (a1 b e'); rw [b1 a e] at this; cases this
    subst e
    rw [asc_unique a2 b2 (fun x => ?_)]
    have hx := h x
    simp only [List.mem_cons] at hx
    constructor
    · intro hm
      rcases hx.1 (Or.inr hm) with e | e
      · subst e; have := a1 x hm; rw [ahead_irr] at this; cases this
      · exact e
    · intro hm
      rcases hx.2 (Or.inr hm) with e | e
      · subst e; have := b1 x hm; rw [ahead_irr] at this; cases this
      · exact e
theorem Settled.unique {L R R' : List En} {e e' : Int} (h : Settled L R e) (h' : Settled L R' e') : R = R' ∧ e = e' := by
  rcases h with ⟨c, r, e1⟩ | ⟨c, e1, a, m⟩
  · rcases h' with ⟨_, r', e2⟩ | ⟨c', _⟩
    · exact ⟨r.trans r'.symm, e1.trans e2.symm⟩
    · exact absurd c c'
  · rcases h' with ⟨c', _⟩ | ⟨_, e2, a', m'⟩
    · exact absurd c' c
    · exact ⟨asc_unique a a' (fun x => (m x).trans (m' x).symm), e1.trans e2.symm⟩
theorem asc_noclash {R L : List En} (h : Asc R) (hm : ∀ x, x ∈ R ↔ x ∈ L) : ¬ Clash L := by
  rintro ⟨x, hx, y, hy, hs, hne⟩
  have hx := (hm x).2 hx
  have hy := (hm y).2 hy
  clear hm
  induction R with
  | nil => simp at hx
  | cons a R ih =>
    obtain ⟨a1, a2⟩ := List.pairwise_cons.1 h
    rcases List.mem_cons.1 hx with e | e
    · subst e
      rcases List.mem_cons.1 hy with e | e
      · exact hne e.symm
      · have := ahead_same (a1 y e); rw [hs] at this; cases this
    · rcases List.mem_cons.1 hy with e' | e'
      · subst e'
        have := ahead_same (a1 x e); rw [same_symm, hs] at this; cases this
      · exact ih a2 e e'
theorem Clash.perm {L R : List En} (h : Clash L) (hm : ∀ x, x ∈ L ↔ x ∈ R) : Clash R := by
  obtain ⟨x, hx, y, hy, r⟩ := h
  exact ⟨x, (hm x).1 hx, y, (hm y).1 hy, r⟩
theorem Settled.perm {L L' R : List En} {e : Int} (h : Settled L R e) (hm : ∀ x, x ∈ L ↔ x ∈ L') : Settled L' R e := by
  rcases h with ⟨c, r, e1⟩ | ⟨c, e1, a, m⟩
  · exact Or.inl ⟨c.perm hm, r, e1⟩
  · exact Or.inr ⟨fun c' => c (c'.perm (fun x => (hm x).symm)), e1, a, fun x => (m x).trans (hm x)⟩

/-- of k places each entry once -/
def OnceInv (L : List En) (k : Nat) (acc : List En) : Prop := Asc acc ∧ ∀ x, x ∈ acc ↔ x ∈ L.take k
theorem once_start (L : List En) : OnceInv L 0 [] := ⟨List.Pairwise.nil, by simp⟩
theorem mem_take_succ (L : List En) (k : Nat) (h : k < L.length) (x : En) : x ∈ L.take (k + 1) ↔ x ∈ L.take k ∨ x = L.getD k en0 := by
  rw [take_snoc L k h]; simp
theorem le_at {L : List En} (hL : L.Pairwise (fun x y => leE x y = true)) (i j : Nat) (hij : i < j) (hj : j < L.length) : leE (L.getD i en0) (L.getD j en0) = true := by
  have := List.pairwise_iff_getElem.1 hL i j (by omega) hj hij
  simpa [List.getD, hj, show i < L.length by omega] using this
theorem mem_take_at {L : List En} {k : Nat} {x : En} (h : x ∈ L.take k) : ∃ i, i < k ∧ i < L.length ∧ L.getD i en0 = x := by
  obtain ⟨i, hi, rfl⟩ := List.mem_iff_getElem.1 h
  rw [List.length_take] at hi
  exact ⟨i, by omega, by omega, by simp [List.getD, show i < L.length by omega]⟩
theorem once_new {L acc : List En} {k : Nat} (hL : L.Pairwise (fun x y => leE x y = true)) (hk : k < L.length) (h : OnceInv L k acc) (hn : k = 0 ∨ sameDot (L.getD k en0) (L.getD (k - 1) en0) = false) : OnceInv L (k + 1) (acc ++ [L.getD k en0]) := by
  refine ⟨?_, fun x => by rw [mem_take_succ L k hk, ← h.2 x]; simp⟩
  refine List.pairwise_append.2 ⟨h.1, List.pairwise_singleton _ _, fun x hx y hy => ?_⟩
  obtain rfl := List.mem_singleton.1 hy
  obtain ⟨i, h1, h2, rfl⟩ := mem_take_at ((h.2 x).1 hx)
  rcases hn with h0 | hs
  · omega
  · have ha := ahead_of (le_at hL (k - 1) k (by omega) hk) hs
    by_cases e : i = k - 1
    · rw [e]; exact ha
    · exact ahead_le (le_at hL i (k - 1) (by omega) (by omega)) ha
theorem once_skip {L acc : List En} {k : Nat} (hk : k < L.length) (h0 : 0 < k) (h : OnceInv L k acc) (he : L.getD k en0 = L.getD (k - 1) en0) : OnceInv L (k + 1) acc := by
  refine ⟨h.1, fun x => ?_⟩
  rw [mem_take_succ L k hk, h.2 x]
  constructor
  · exact Or.inl
  · rintro (hx | rfl)
    · exact hx
    · rw [he]
      have : L.getD (k - 1) en0 = L[k - 1]'(by omega) := by simp [List.getD, show k - 1 < L.length by omega]
      rw [this]
      exact List.mem_take_iff_getElem.2 ⟨k - 1, by omega, rfl⟩
theorem getD_mem (L : List En) (k : Nat) (h : k < L.length) : L.getD k en0 ∈ L := by
  have : L.getD k en0 = L[k] := by simp [List.getD, h]
  rw [this]; exact List.getElem_mem _
theorem once_clash {L : List En} {k : Nat} (hk : k < L.length) (hs : sameDot (L.getD k en0) (L.getD (k - 1) en0) = true) (hne : L.getD k en0 ≠ L.getD (k - 1) en0) : Clash L :=
  ⟨_, getD_mem L k hk, _, getD_mem L (k - 1) (by omega), hs, hne⟩
theorem once_done {L acc : List En} (h : OnceInv L L.length acc) : Settled L acc 0 := by
  have hm : ∀ x, x ∈ acc ↔ x ∈ L := fun x => by have := h.2 x; rwa [List.take_length] at this
  exact Or.inr ⟨asc_noclash h.1 hm, rfl, h.1, hm⟩
end Go.Proofs.YtooinnhjeloocaaGreat.K
namespace Go.Proofs
open Go.Shelf
def Tryz.sortEn_ren : Go.Shelf.Ren := ⟨fun | 6 => 37 | 15 => 61 | 14 => 60 | 28 => 79 | 29 => 80 | 20 => 71 | 21 => 72 | 22 => 73 | 23 => 74 | 24 => 75 | 25 => 76 | 26 => 77 | 27 => 78 | 46 => 97 | 47 => 98 | 48 => 99 | 49 => 100 | 50 => 101 | 57 => 111 | n => n, fun | 22 => 22 | 24 => 36 | 25 => 48 | 3 => 3 | 39 => 91 | 0 => 0 | 53 => 112 | 55 => 114 | 4 => 4 | 46 => 106 | 45 => 105 | 50 => 84 | 5 => 5 | 9 => 9 | 66 => 129 | 70 => 133 | 76 => 141 | 77 => 124 | n => n, fun | n => n⟩
theorem Tryz.sortEn : Go.Proofs.SlLaysF0.n6 Tryz.prog Tryz.sortEn_ren := {
  mixed := by kernel_rfl
  f6 := ⟨Tryz.f37.name, by decide, Tryz.func37.trans (congrArg some (by kernel_rfl))⟩
  f14 := ⟨Tryz.f60.name, by decide, Tryz.func60.trans (congrArg some (by kernel_rfl))⟩
  f15 := Tryz.func61.trans (congrArg some (by kernel_rfl))
  f20 := ⟨Tryz.f71.name, by decide, Tryz.func71.trans (congrArg some (by kernel_rfl))⟩
  f21 := ⟨Tryz.f72.name, by decide, Tryz.func72.trans (congrArg some (by kernel_rfl))⟩
  f22 := ⟨Tryz.f73.name, by decide, Tryz.func73.trans (congrArg some (by kernel_rfl))⟩
  f23 := ⟨Tryz.f74.name, by decide, Tryz.func74.trans (congrArg some (by kernel_rfl))⟩
  f24 := ⟨Tryz.f75.name, by decide, Tryz.func75.trans (congrArg some (by kernel_rfl))⟩
  f25 := ⟨Tryz.f76.name, by decide, Tryz.func76.trans (congrArg some (by kernel_rfl))⟩
  f26 := ⟨Tryz.f77.name, by decide, Tryz.func77.trans (congrArg some (by kernel_rfl))⟩
  f27 := ⟨Tryz.f78.name, by decide, Tryz.func78.trans (congrArg some (by kernel_rfl))⟩
  f28 := Tryz.func79.trans (congrArg some (by kernel_rfl))
  f29 := Tryz.func80.trans (congrArg some (by kernel_rfl))
  f46 := ⟨Tryz.f97.name, by decide, Tryz.func97.trans (congrArg some (by kernel_rfl))⟩
  f47 := Tryz.func98.trans (congrArg some (by kernel_rfl))
  f48 := Tryz.func99.trans (congrArg some (by kernel_rfl))
  f49 := ⟨Tryz.f100.name, by decide, Tryz.func100.trans (congrArg some (by kernel_rfl))⟩
  f50 := ⟨Tryz.f101.name, by decide, Tryz.func101.trans (congrArg some (by kernel_rfl))⟩
  f57 := ⟨Tryz.f111.name, by decide, Tryz.func111.trans (congrArg some (by kernel_rfl))⟩
  t0 := Tryz.underlying0
  a0 := Tryz.isAgg0
  z0 := Tryz.sizeOf0
  v0 := Tryz.zeroValue0
  t3 := Tryz.underlying3
  a3 := Tryz.isAgg3
  z3 := Tryz.sizeOf3
  v3 := Tryz.zeroValue3
  t4 := Tryz.underlying4
  a4 := Tryz.isAgg4
  z4 := Tryz.sizeOf4
  v4 := Tryz.zeroValue4
  t5 := Tryz.underlying5
  a5 := Tryz.isAgg5
  z5 := Tryz.sizeOf5
  v5 := Tryz.zeroValue5
  t9 := Tryz.underlying9
  a9 := Tryz.isAgg9
  z9 := Tryz.sizeOf9
  v9 := Tryz.zeroValue9
  t22 := Tryz.underlying22
  a22 := Tryz.isAgg22
  z22 := Tryz.sizeOf22
  v22 := Tryz.zeroValue22
  t25 := Tryz.underlying48
  a25 := Tryz.isAgg48
  z25 := Tryz.sizeOf48
  v25 := Tryz.zeroValue48
  t39 := Tryz.underlying91
  a39 := Tryz.isAgg91
  z39 := Tryz.sizeOf91
  v39 := Tryz.zeroValue91
  t45 := Tryz.underlying105
  a45 := Tryz.isAgg105
  z45 := Tryz.sizeOf105
  v45 := Tryz.zeroValue105
  t46 := Tryz.underlying106
  a46 := Tryz.isAgg106
  z46 := Tryz.sizeOf106
  v46 := Tryz.zeroValue106
  t50 := Tryz.underlying84
  a50 := Tryz.isAgg84
  z50 := Tryz.sizeOf84
  v50 := Tryz.zeroValue84
  t53 := Tryz.underlying112
  a53 := Tryz.isAgg112
  z53 := Tryz.sizeOf112
  v53 := Tryz.zeroValue112
  t55 := Tryz.underlying114
  a55 := Tryz.isAgg114
  z55 := Tryz.sizeOf114
  v55 := Tryz.zeroValue114
  t66 := Tryz.underlying129
  a66 := Tryz.isAgg129
  z66 := Tryz.sizeOf129
  v66 := Tryz.zeroValue129
  t70 := Tryz.underlying133
  a70 := Tryz.isAgg133
  z70 := Tryz.sizeOf133
  v70 := Tryz.zeroValue133
  t76 := Tryz.underlying141
  a76 := Tryz.isAgg141
  z76 := Tryz.sizeOf141
  v76 := Tryz.zeroValue141
  t77 := Tryz.underlying124
  a77 := Tryz.isAgg124
  z77 := Tryz.sizeOf124
  v77 := Tryz.zeroValue124 }
end Go.Proofs
