/- Plain: the least and the greatest number of a set; the first gap. -/
import Derived.Test.YtojpjakpcihacaaGreatRPk
namespace Go.Proofs.YtojpjakpcihacaaGreat

/-- k is the least number that P holds of; 0: there is none -/
def Least (P : Int → Prop) (k : Int) : Prop := (k = 0 ∧ ∀ n, ¬ P n) ∨ (1 ≤ k ∧ P k ∧ ∀ n, P n → k ≤ n)
theorem Least.unique {P : Int → Prop} {k l : Int} (h : Least P k) (h' : Least P l) : k = l := by
  rcases h with ⟨e, h⟩ | ⟨h1, h2, h3⟩ <;> rcases h' with ⟨e', h'⟩ | ⟨h1', h2', h3'⟩
  · rw [e, e']
  · exact absurd h2' (h _)
  · exact absurd h2 (h' _)
  · have := h3 _ h2'; have := h3' _ h2; omega
theorem Least.congr {P Q : Int → Prop} {k : Int} (h : Least P k) (e : ∀ n, P n ↔ Q n) : Least Q k := by
  rcases h with ⟨a, h⟩ | ⟨h1, h2, h3⟩
  · exact Or.inl ⟨a, fun n hn => h n ((e n).2 hn)⟩
  · exact Or.inr ⟨h1, (e _).1 h2, fun n hn => h3 n ((e n).2 hn)⟩
/-- k is the greatest number of A; 0: there is none -/
def Most (A : List Rn) (k : Int) : Prop := (k = 0 ∧ ∀ n, ¬ mem A n) ∨ (mem A k ∧ ∀ n, mem A n → n ≤ k)
theorem Most.unique {A : List Rn} {k l : Int} (h : Most A k) (h' : Most A l) : k = l := by
  rcases h with ⟨e, h⟩ | ⟨h2, h3⟩ <;> rcases h' with ⟨e', h'⟩ | ⟨h2', h3'⟩
  · rw [e, e']
  · exact absurd h2' (h _)
  · exact absurd h2 (h' _)
  · have := h3 _ h2'; have := h3' _ h2; omega
theorem Most.congr {A B : List Rn} {k : Int} (h : Most A k) (e : ∀ n, mem A n ↔ mem B n) : Most B k := by
  rcases h with ⟨a, h⟩ | ⟨h2, h3⟩
  · exact Or.inl ⟨a, fun n hn => h n ((e n).2 hn)⟩
  · exact Or.inr ⟨(e _).1 h2, fun n hn => h3 n ((e n).2 hn)⟩
theorem Most.bd {A : List Rn} {k : Int} (h : Most A k) : 0 ≤ k ∧ k ≤ 1000000000 := by
  rcases h with ⟨a, _⟩ | ⟨h2, _⟩
  · omega
  · exact ⟨by have := h2.1; omega, h2.2.1⟩
theorem Most.start : Most [] 0 := Or.inl ⟨rfl, mem_nil⟩
/-- one run more, as the reference reckons -/
theorem Most.step {P : List Rn} {best hi h : Int} {r : Rn} (hm : Most P best) (eh : h = min r.hi 1000000000) (hh : hi = if 1 ≤ h ∧ r.lo ≤ h ∧ best < h then h else best) : Most (P ++ [r]) hi := by
  by_cases c : 1 ≤ h ∧ r.lo ≤ h ∧ best < h
  · rw [if_pos c] at hh
    subst hh
    refine Or.inr ⟨(mem_append _ _ _).2 (Or.inr ((mem_one _ _).2 (by omega))), fun n hn => ?_⟩
    rcases (mem_append _ _ _).1 hn with e | e
    · rcases hm with ⟨_, g⟩ | ⟨_, g⟩
      · exact absurd e (g n)
      · have := g n e; omega
    · have := (mem_one _ _).1 e; omega
  · rw [if_neg c] at hh
    subst hh
    have key : ∀ n, mem [r] n → n ≤ hi := fun n hn => by have := (mem_one _ _).1 hn; omega
    rcases hm with ⟨e, g⟩ | ⟨g1, g2⟩
    · refine Or.inl ⟨e, fun n hn => ?_⟩
      rcases (mem_append _ _ _).1 hn with e' | e'
      · exact g n e'
      · have := key n e'; have := e'.1; omega
    · refine Or.inr ⟨(mem_append _ _ _).2 (Or.inl g1), fun n hn => ?_⟩
      rcases (mem_append _ _ _).1 hn with e' | e'
      · exact g2 n e'
      · exact key n e'
theorem Most.last {i : List Rn} {r : Rn} (h : form 1 (i ++ [r])) : Most (i ++ [r]) r.hi := by
  have hl := form_last h
  refine Or.inr ⟨(mem_append _ _ _).2 (Or.inr ((mem_one _ _).2 (by omega))), fun n hn => ?_⟩
  rcases (mem_append _ _ _).1 hn with e | e
  · have : ∀ (i : List Rn) (l : Int), form l (i ++ [r]) → mem i n → n ≤ r.hi := by
      intro i
      induction i with
      | nil => intro l _ hm; exact absurd hm (mem_nil n)
      | cons s i ih =>
        intro l hf hm
        rcases (mem_cons _ _ _).1 hm with g | g
        · have := form_last hf.2.2.2; omega
        · exact ih _ hf.2.2.2 g
    exact this i 1 h e
  · exact ((mem_one _ _).1 e).2.2.2
theorem form_take {a : List Rn} : ∀ {l : Int} (k : Nat), form l a → form l (a.take k) := by
  induction a with
  | nil => intro l k _; simp [form]
  | cons r a ih =>
    intro l k h
    cases k with
    | zero => trivial
    | succ k => exact ⟨h.1, h.2.1, h.2.2.1, ih k h.2.2.2⟩
/-- the least number of A from f on, as the reference reckons run by run -/
theorem least_step {P : List Rn} {f best b lo hi : Int} {r : Rn} (hm : Least (fun n => mem P n ∧ f ≤ n) best) (el : lo = max (max r.lo 1) f) (eh : hi = min r.hi 1000000000) (hb : b = if lo ≤ hi ∧ (best = 0 ∨ lo < best) then lo else best) : Least (fun n => mem (P ++ [r]) n ∧ f ≤ n) b := by
  have hr : ∀ n, (mem [r] n ∧ f ≤ n) ↔ (lo ≤ n ∧ n ≤ hi) := fun n => by rw [mem_one]; omega
  by_cases c : lo ≤ hi ∧ (best = 0 ∨ lo < best)
  · rw [if_pos c] at hb
    subst hb
    refine Or.inr ⟨by omega, ⟨(mem_append _ _ _).2 (Or.inr ((hr b).2 (by omega)).1), by omega⟩, fun n hn => ?_⟩
    rcases (mem_append _ _ _).1 hn.1 with e | e
    · rcases hm with ⟨_, g⟩ | ⟨_, _, g⟩
      · exact absurd ⟨e, hn.2⟩ (g n)
      · have := g n ⟨e, hn.2⟩; omega
    · have := (hr n).1 ⟨e, hn.2⟩; omega
  · rw [if_neg c] at hb
    subst hb
    rcases hm with ⟨e, g⟩ | ⟨g0, g1, g2⟩
    · refine Or.inl ⟨e, fun n hn => ?_⟩
      rcases (mem_append _ _ _).1 hn.1 with e' | e'
      · exact g n ⟨e', hn.2⟩
      · have := (hr n).1 ⟨e', hn.2⟩; omega
    · refine Or.inr ⟨g0, ⟨(mem_append _ _ _).2 (Or.inl g1.1), g1.2⟩, fun n hn => ?_⟩
      rcases (mem_append _ _ _).1 hn.1 with e' | e'
      · exact g2 n ⟨e', hn.2⟩
      · have := (hr n).1 ⟨e', hn.2⟩; omega
theorem least_start (f : Int) : Least (fun n => mem [] n ∧ f ≤ n) 0 := Or.inl ⟨rfl, fun n h => mem_nil n h.1⟩
theorem fst_least : ∀ {X : List Rn} {l : Int} (f : Int), 1 ≤ l → form l X → Least (fun n => mem X n ∧ f ≤ n) (fst X f)
  | [], _, f, _, _ => least_start f
  | r :: X, l, f, hl, h => by
    have h1 := h.1
    have h2 := h.2.1
    have h3 := h.2.2.1
    by_cases c : f ≤ r.hi
    · rw [fst_in c]
      refine Or.inr ⟨by omega, ⟨(mem_cons _ _ _).2 (Or.inl ⟨by omega, by omega, by omega, by omega⟩), by omega⟩, fun n hn => ?_⟩
      rcases (mem_cons _ _ _).1 hn.1 with e | e
      · have := hn.2; omega
      · have := form_ge h.2.2.2 e; have := hn.2; omega
    · rw [fst_past (by omega)]
      refine (fst_least (l := r.hi + 2) f (by omega) h.2.2.2).congr (fun n => ?_)
      rw [mem_cons]
      exact ⟨fun e => ⟨Or.inr e.1, e.2⟩, fun e => ⟨e.1.elim (fun g => by have := e.2; omega) id, e.2⟩⟩
theorem fst_leastOf {A X : List Rn} {f k : Int} (hX : NormOf A X) (hk : k = fst X f) : Least (fun n => mem A n ∧ f ≤ n) k := by
  rw [hk]; exact (fst_least f (Int.le_refl _) hX.1).congr (fun n => by rw [hX.2 n])
/-- the least number from f on that isn't in A -/
def GapP (A : List Rn) (f : Int) (n : Int) : Prop := 1 ≤ n ∧ n ≤ 1000000000 ∧ ¬ mem A n ∧ f ≤ n
theorem gap_out {A O : List Rn} {f k : Int} (hO : OutOf A O) (h : Least (fun n => mem O n ∧ f ≤ n) k) : Least (GapP A f) k :=
  h.congr (fun n => by rw [hO.2 n]; exact ⟨fun e => ⟨e.1.1, e.1.2.1, e.1.2.2, e.2⟩, fun e => ⟨⟨e.1, e.2.1, e.2.2.1⟩, e.2.2.2⟩⟩)
theorem gap_left {A R : List Rn} {f k : Int} (hR : MinusOf [⟨f, 1000000000⟩] A R) (h : Least (fun n => mem R n ∧ 1 ≤ n) k) : Least (GapP A f) k :=
  h.congr (fun n => by rw [hR.2 n, mem_one]; exact ⟨fun e => ⟨e.1.1.1, e.1.1.2.1, e.1.2, e.1.1.2.2.1⟩, fun e => ⟨⟨⟨e.1, e.2.1, e.2.2.2, e.2.1⟩, e.2.2.1⟩, e.1⟩⟩)
theorem Least.bd {A : List Rn} {f k : Int} (h : Least (GapP A f) k) : 0 ≤ k ∧ k ≤ 1000000000 := by
  rcases h with ⟨a, _⟩ | ⟨h1, h2, _⟩
  · omega
  · exact ⟨by omega, h2.2.1⟩
/-- how far a set goes on from 1, by its first gap -/
theorem lead_gap {A X L : List Rn} {k g : Int} (hX : NormOf A X) (hL : (k = 0 ∧ X = L ∧ ∀ r X', X = r :: X' → r.lo ≠ 1) ∨ X = ⟨1, k⟩ :: L) (hg : Least (GapP A 1) g) : k = (if g - 1 < 0 then 1000000000 else g - 1) ∧ MinusOf A [⟨1, k⟩] L := by
  rcases hL with ⟨rfl, rfl, h⟩ | rfl
  · have hn1 : ¬ mem A 1 := fun e => by
      have e' := (hX.2 1).2 e
      cases X with
      | nil => exact mem_nil _ e'
      | cons r X =>
        have h1 := hX.1.1
        rcases (mem_cons _ _ _).1 e' with c | c
        · exact h r X rfl (by omega)
        · have := form_ge hX.1.2.2.2 c; have := hX.1.2.1; omega
    have hg1 : g = 1 := by
      rcases hg with ⟨_, a⟩ | ⟨a, b, c⟩
      · exact absurd ⟨by omega, by omega, hn1, by omega⟩ (a 1)
      · have := c 1 ⟨by omega, by omega, hn1, by omega⟩; omega
    subst hg1
    refine ⟨by simp, hX.1, fun n => ?_⟩
    rw [hX.2 n]
    exact ⟨fun e => ⟨e, fun c => by have := ((mem_one _ _).1 c).2.2; have := c.1; simp only at *; omega⟩, fun e => e.1⟩
  · have f2 := hX.1.2.1
    have f3 := hX.1.2.2.1
    have f4 := hX.1.2.2.2
    simp only at f2 f3 f4
    have hin : ∀ n, 1 ≤ n → n ≤ k → mem A n := fun n h1 h2 => (hX.2 n).1 ((mem_cons _ _ _).2 (Or.inl ⟨h1, by omega, h1, h2⟩))
    have hout : k < 1000000000 → ¬ mem A (k + 1) := fun _ e => by
      rcases (mem_cons _ _ _).1 ((hX.2 _).2 e) with c | c
      · simp only at c; omega
      · have := form_ge f4 c; omega
    refine ⟨?_, form_mono (by omega) f4, fun n => ?_⟩
    · rcases hg with ⟨a, b⟩ | ⟨a, b, c⟩
      · by_cases hk : k = 1000000000
        · rw [a, if_pos (by omega)]; exact hk
        · exact absurd ⟨by omega, by omega, hout (by omega), by omega⟩ (b (k + 1))
      · have : ¬ g ≤ k := fun h => b.2.2.1 (hin g a h)
        have hk : k < 1000000000 := by have := b.2.1; omega
        have := c (k + 1) ⟨by omega, by omega, hout hk, by omega⟩
        rw [if_neg (by omega)]; omega
    · rw [← hX.2 n, mem_cons, mem_one]
      simp only
      constructor
      · intro e
        have := form_ge f4 e
        exact ⟨Or.inr e, fun c => by omega⟩
      · rintro ⟨e | e, c⟩
        · omega
        · exact e
end Go.Proofs.YtojpjakpcihacaaGreat
