/- QCb -/
import Derived.Test.YtalcmdjiejhkgaaGreatKl01
namespace Go.Proofs.YtalcmdjiejhkgaaGreat

def tin (t : List Int) (n : Int) : Bool := decide (cnt t n % 2 = 1)
theorem cnt_cons (x : Int) (t : List Int) (n : Int) : cnt (x :: t) n = (if x <= n then 1 else 0) + cnt t n := by
 have : x :: t = [x] ++ t := rfl
 rw [this, cnt_append, cnt_one]
theorem tn_in : ∀ {R : List Rn} {l : Int}, form l R -> ∀ x, x ∈ tn R -> l <= x /\ x <= 1000000001
 | [], _, _, x, h => by cases h
 | r :: t, l, h, x, hx => by
  have h1 := h.1
  have h2 := h.2.1
  have h3 := h.2.2.1
  rcases List.mem_cons.1 hx with e | e
  ·subst e; omega
  ·rcases List.mem_cons.1 e with e | e
   ·subst e; omega
   ·have := tn_in h.2.2.2 x e
    omega
theorem tn_rise : ∀ {R : List Rn} {l : Int}, form l R -> (tn R).Pairwise (· < ·)
 | [], _, _ => List.Pairwise.nil
 | r :: t, l, h => by
  have h2 := h.2.1
  refine List.pairwise_cons.2 ⟨fun x hx => ?_, List.pairwise_cons.2 ⟨fun x hx => ?_, tn_rise h.2.2.2⟩⟩
  ·rcases List.mem_cons.1 hx with e | e
   ·subst e; omega
   ·have := (tn_in h.2.2.2 x e).1
    omega
  ·have := (tn_in h.2.2.2 x hx).1
   omega
theorem tin_tn : ∀ {R : List Rn} {l : Int}, form l R -> ∀ n, (tin (tn R) n = true ↔ inR R n)
 | [], _, _, n => by simp [tin, tn, cnt, inR]
 | r :: t, l, h, n => by
  have ih := tin_tn h.2.2.2 n
  have h2 := h.2.1
  have key : inR (r :: t) n ↔ (r.lo <= n /\ n <= r.hi) ∨ inR t n := by unfold inR; simp
  rw [key, <- ih]
  unfold tin
  simp only [decide_eq_true_eq]
  show cnt (r.lo :: (r.hi + 1) :: tn t) n % 2 = 1 ↔ _
  rw [cnt_cons, cnt_cons]
  by_cases a1 : r.hi + 1 <= n
  ·rw [if_pos a1, if_pos (by omega)]
   constructor
   ·intro g; exact Or.inr (by omega)
   ·rintro (g | g) <;> omega
  ·have hz : cnt (tn t) n = 0 := cnt_none (fun x hx => by have := (tn_in h.2.2.2 x hx).1; omega)
   rw [if_neg a1, hz]
   by_cases a2 : r.lo <= n
   ·rw [if_pos a2]
    exact ⟨fun _ => Or.inl ⟨a2, by omega⟩, fun _ => rfl⟩
   ·rw [if_neg a2]
    constructor
    ·intro g; omega
    ·rintro (g | g) <;> omega
theorem tn_of : ∀ (k : Nat) {t : List Int} {l : Int}, t.length = 2 * k -> t.Pairwise (· < ·) -> (∀ x, x ∈ t -> l <= x /\ x <= 1000000001) -> ∃ R, form l R /\ tn R = t
 | 0, t, l, he, _, _ => by
  obtain rfl : t = [] := List.eq_nil_of_length_eq_zero (by omega)
  exact ⟨[], trivial, rfl⟩
 | k + 1, [], l, he, _, _ => by simp at he
 | k + 1, [a], l, he, _, _ => by simp at he; omega
 | k + 1, a :: b :: t, l, he, hp, hb => by
  obtain ⟨p1, p2⟩ := List.pairwise_cons.1 hp
  obtain ⟨p3, p4⟩ := List.pairwise_cons.1 p2
  have hab := p1 b List.mem_cons_self
  have ha := hb a List.mem_cons_self
  have hbb := hb b (List.mem_cons_of_mem _ List.mem_cons_self)
  obtain ⟨R, hR, e⟩ := tn_of k (t := t) (l := b + 1) (by simp at he; omega) p4 (fun x hx => ⟨by have := p3 x hx; omega, (hb x (List.mem_cons_of_mem _ (List.mem_cons_of_mem _ hx))).2⟩)
  refine ⟨⟨a, b - 1⟩ :: R, ⟨ha.1, by show a <= b - 1; omega, by show b - 1 <= 1000000000; omega, ?_⟩, ?_⟩
  ·have e2 : b - 1 + 2 = b + 1 := by omega
   show form (b - 1 + 2) R
   rw [e2]; exact hR
  ·show a :: (b - 1 + 1) :: tn R = _
   rw [e, Int.sub_add_cancel]
def rul (k : Int) (x y : Bool) : Bool := (k == 1 && x && y) || (k == 2 && x && !y)
theorem rul_ff (k : Int) (y : Bool) : rul k false y = false := by simp [rul]
structure CbI (k : Int) (A B : List Int) (i j : Nat) (t : List Int) (b : Bool) : Prop where
 hi : i <= A.length
 hj : j <= B.length
 tr : t.Pairwise (· < ·)
 tl : ∀ x, x ∈ t -> x ∈ A.take i ++ B.take j
 lt : ∀ x, x ∈ A.take i ++ B.take j -> ∀ y, y ∈ A.drop i ++ B.drop j -> x < y
 ev : ∀ n, tin t n = rul k (tin (A.take i) n) (tin (B.take j) n)
 nw : b = decide (t.length % 2 = 1)
theorem CbI.start (k : Int) (A B : List Int) : CbI k A B 0 0 [] false :=
 ⟨Nat.zero_le _, Nat.zero_le _, List.Pairwise.nil, (fun x h => by cases h), (fun x h => by simp at h), fun n => by simp [tin, cnt, rul], rfl⟩
theorem tin_all {L : List Int} {n : Int} (h : ∀ x, x ∈ L -> x <= n) : tin L n = decide (L.length % 2 = 1) := by unfold tin; rw [cnt_all h]
theorem tin_pre {L M : List Int} {n : Int} (h : ∀ x, x ∈ M -> n < x) : tin (L ++ M) n = tin L n := by unfold tin; rw [cnt_append, cnt_none h, Nat.add_zero]
theorem CbI.step {k : Int} {A B : List Int} {i j i' j' : Nat} {t : List Int} {b : Bool} {at' : Int} (S : CbI k A B i j t b)
  (hA : A.Pairwise (· < ·)) (hB : B.Pairwise (· < ·))
  (ha : (A[i]? = some at' /\ i' = i + 1) ∨ ((∀ x, A[i]? = some x -> at' < x) /\ i' = i))
  (hb : (B[j]? = some at' /\ j' = j + 1) ∨ ((∀ x, B[j]? = some x -> at' < x) /\ j' = j))
  (hs : A[i]? = some at' ∨ B[j]? = some at') :
  (rul k (decide (i' % 2 = 1)) (decide (j' % 2 = 1)) = b -> CbI k A B i' j' t b) /\ (rul k (decide (i' % 2 = 1)) (decide (j' % 2 = 1)) ≠ b -> CbI k A B i' j' (t ++ [at']) (!b)) := by
 have step1 : ∀ (L : List Int) (u u' : Nat), L.Pairwise (· < ·) -> u <= L.length -> ((L[u]? = some at' /\ u' = u + 1) ∨ ((∀ x, L[u]? = some x -> at' < x) /\ u' = u)) ->
   u' <= L.length /\ (∃ M, L.take u' = L.take u ++ M /\ ∀ x, x ∈ M -> x = at') /\ (∀ y, y ∈ L.drop u' -> at' < y) /\ (∀ y, y ∈ L.drop u' -> y ∈ L.drop u) := by
  intro L u u' hL hu h
  have hdrop : ∀ v x, L[v]? = some x -> ∀ y, y ∈ L.drop (v + 1) -> x < y := by
   intro v x hx y hy
   have hp : (L.drop v).Pairwise (· < ·) := hL.sublist (List.drop_sublist _ _)
   rw [(take_on' L v x hx).2] at hp
   exact (List.pairwise_cons.1 hp).1 y hy
  rcases h with ⟨h1, rfl⟩ | ⟨h1, rfl⟩
  ·have hl := (List.getElem?_eq_some_iff.1 h1).1
   obtain ⟨t1, t2⟩ := take_on' L u at' h1
   exact ⟨hl, ⟨[at'], t1, fun x hx => List.mem_singleton.1 hx⟩, hdrop u at' h1, fun y hy => by rw [t2]; exact List.mem_cons_of_mem _ hy⟩
  ·refine ⟨hu, ⟨[], by simp, fun x hx => by cases hx⟩, fun y hy => ?_, fun y hy => hy⟩
   cases hx : L[u']? with
   | none => rw [List.drop_of_length_le (by simpa using hx)] at hy; cases hy
   | some x =>
    have h2 := h1 x hx
    rw [(take_on' L u' x hx).2] at hy
    rcases List.mem_cons.1 hy with e | e
    ·omega
    ·have := hdrop u' x hx y e
     omega
 obtain ⟨a1, ⟨MA, a2, a3⟩, a4, a5⟩ := step1 A i i' hA S.hi ha
 obtain ⟨b1, ⟨MB, b2, b3⟩, b4, b5⟩ := step1 B j j' hB S.hj hb
 have hat : at' ∈ A.drop i ++ B.drop j := by
  rcases hs with h | h
  ·exact List.mem_append_left _ (by rw [(take_on' A i at' h).2]; exact List.mem_cons_self)
  ·exact List.mem_append_right _ (by rw [(take_on' B j at' h).2]; exact List.mem_cons_self)
 have hatk : at' ∈ A.take i' ++ B.take j' := by
  rcases hs with h | h
  ·rcases ha with ⟨_, e⟩ | ⟨g, _⟩
   ·exact List.mem_append_left _ (by rw [e, (take_on' A i at' h).1]; exact List.mem_append_right _ (List.mem_singleton.2 rfl))
   ·have := g at' h; omega
  ·rcases hb with ⟨_, e⟩ | ⟨g, _⟩
   ·exact List.mem_append_right _ (by rw [e, (take_on' B j at' h).1]; exact List.mem_append_right _ (List.mem_singleton.2 rfl))
   ·have := g at' h; omega
 have hold : ∀ x, x ∈ A.take i ++ B.take j -> x < at' := fun x hx => S.lt x hx at' hat
 have hmono : ∀ x, x ∈ A.take i ++ B.take j -> x ∈ A.take i' ++ B.take j' := fun x hx => by
  rw [a2, b2]
  rcases List.mem_append.1 hx with g | g
  ·exact List.mem_append_left _ (List.mem_append_left _ g)
  ·exact List.mem_append_right _ (List.mem_append_left _ g)
 have hnew : ∀ x, x ∈ A.take i' ++ B.take j' -> x <= at' := fun x hx => by
  rw [a2, b2] at hx
  rcases List.mem_append.1 hx with g | g
  ·rcases List.mem_append.1 g with g | g
   ·have := hold x (List.mem_append_left _ g); omega
   ·have := a3 x g; omega
  ·rcases List.mem_append.1 g with g | g
   ·have := hold x (List.mem_append_right _ g); omega
   ·have := b3 x g; omega
 have hlt : ∀ x, x ∈ A.take i' ++ B.take j' -> ∀ y, y ∈ A.drop i' ++ B.drop j' -> x < y := fun x hx y hy => by
  have h1 := hnew x hx
  rcases List.mem_append.1 hy with g | g
  ·have := a4 y g; omega
  ·have := b4 y g; omega
 have htl : ∀ x, x ∈ t -> x < at' := fun x hx => hold x (S.tl x hx)
 have low : ∀ n, n < at' -> tin (A.take i') n = tin (A.take i) n /\ tin (B.take j') n = tin (B.take j) n := fun n hn => by
  rw [a2, b2]
  exact ⟨tin_pre (fun x hx => by rw [a3 x hx]; exact hn), tin_pre (fun x hx => by rw [b3 x hx]; exact hn)⟩
 have high : ∀ n, at' <= n -> tin (A.take i') n = decide (i' % 2 = 1) /\ tin (B.take j') n = decide (j' % 2 = 1) := fun n hn => by
  rw [tin_all (fun x hx => Int.le_trans (hnew x (List.mem_append_left _ hx)) hn), tin_all (fun x hx => Int.le_trans (hnew x (List.mem_append_right _ hx)) hn), List.length_take, List.length_take, Nat.min_eq_left a1, Nat.min_eq_left b1]
  exact ⟨rfl, rfl⟩
 refine ⟨fun he => ⟨a1, b1, S.tr, fun x hx => hmono x (S.tl x hx), hlt, fun n => ?_, S.nw⟩, fun hne => ⟨a1, b1, ?_, fun x hx => ?_, hlt, fun n => ?_, ?_⟩⟩
 ·by_cases hn : n < at'
  ·rw [(low n hn).1, (low n hn).2, S.ev n]
  ·rw [(high n (by omega)).1, (high n (by omega)).2, he, tin_all (fun x hx => by have := htl x hx; omega), S.nw]
 ·refine List.pairwise_append.2 ⟨S.tr, List.pairwise_singleton _ _, fun x hx y hy => ?_⟩
  obtain rfl := List.mem_singleton.1 hy
  exact htl x hx
 ·rcases List.mem_append.1 hx with g | g
  ·exact hmono x (S.tl x g)
  ·obtain rfl := List.mem_singleton.1 g
   exact hatk
 ·by_cases hn : n < at'
  ·rw [(low n hn).1, (low n hn).2, tin_pre (fun x hx => by rw [List.mem_singleton.1 hx]; exact hn), S.ev n]
  ·have hb' : rul k (decide (i' % 2 = 1)) (decide (j' % 2 = 1)) = !b := by
    revert hne
    cases rul k (decide (i' % 2 = 1)) (decide (j' % 2 = 1)) <;> cases b <;> simp
   rw [(high n (by omega)).1, (high n (by omega)).2, hb', tin_all (fun x hx => ?_), S.nw, List.length_append]
   ·show decide ((t.length + 1) % 2 = 1) = _
    by_cases h : t.length % 2 = 1
    ·rw [decide_eq_true h, decide_eq_false (by omega)]; rfl
    ·rw [decide_eq_false h, decide_eq_true (by omega)]; rfl
   ·rcases List.mem_append.1 hx with g | g
    ·have := htl x g; omega
    ·have := List.mem_singleton.1 g; omega
 ·rw [S.nw, List.length_append]
  show _ = decide ((t.length + 1) % 2 = 1)
  by_cases h : t.length % 2 = 1
  ·rw [decide_eq_true h, decide_eq_false (by omega)]; rfl
  ·rw [decide_eq_false h, decide_eq_true (by omega)]; rfl
def CombOf (k : Int) (a b c : List Rn) : Prop := form 1 c /\ ∀ n, mem c n ↔ ((k = 1 /\ mem a n /\ mem b n) ∨ (k = 2 /\ mem a n /\ ¬ mem b n))
theorem CbI.done {k : Int} {a b : List Rn} {t : List Int} {x : Bool} (ha : form 1 a) (hb : form 1 b) (S : CbI k (tn a) (tn b) (tn a).length (tn b).length t x) : ∃ c, t = tn c /\ CombOf k a b c := by
 have hev := S.ev
 simp only [List.take_length] at hev
 have hbd : ∀ z, z ∈ t -> 1 <= z /\ z <= 1000000001 := fun z hz => by
  have := S.tl z hz
  simp only [List.take_length] at this
  rcases List.mem_append.1 this with g | g
  ·exact tn_in ha z g
  ·exact tn_in hb z g
 have hlen : t.length % 2 = 0 := by
  have h1 := hev 1000000001
  rw [tin_all (fun z hz => (hbd z hz).2), tin_all (fun z hz => (tn_in ha z hz).2), tn_length] at h1
  rw [show decide (2 * a.length % 2 = 1) = false from decide_eq_false (by omega), rul_ff] at h1
  have := of_decide_eq_false h1
  omega
 obtain ⟨c, hc, e⟩ := tn_of (t.length / 2) (l := 1) (t := t) (by omega) S.tr hbd
 refine ⟨c, e.symm, hc, fun n => ?_⟩
 rw [mem_inR hc, mem_inR ha, mem_inR hb, <- tin_tn hc, <- tin_tn ha, <- tin_tn hb, e, hev n]
 unfold rul
 cases tin (tn a) n <;> cases tin (tn b) n <;> simp
end Go.Proofs.YtalcmdjiejhkgaaGreat
