/- Plain: lists of runs as sets of numbers; the form. -/
import Derived.Test.YtojpjakpcihacaaGreatRKit
namespace Go.Proofs.YtojpjakpcihacaaGreat

/-- is the number in the set? -/
def mem (a : List Rn) (n : Int) : Prop := 1 ≤ n ∧ n ≤ 1000000000 ∧ ∃ r, r ∈ a ∧ r.lo ≤ n ∧ n ≤ r.hi
/-- in form, from l on -/
def form : Int → List Rn → Prop
  | _, [] => True
  | l, r :: a => l ≤ r.lo ∧ r.lo ≤ r.hi ∧ r.hi ≤ 1000000000 ∧ form (r.hi + 2) a
theorem mem_nil (n : Int) : ¬ mem [] n := fun ⟨_, _, r, h, _⟩ => by cases h
theorem mem_cons (r : Rn) (a : List Rn) (n : Int) : mem (r :: a) n ↔ (1 ≤ n ∧ n ≤ 1000000000 ∧ r.lo ≤ n ∧ n ≤ r.hi) ∨ mem a n := by
  constructor
  · rintro ⟨h1, h2, x, hx, h3⟩
    rcases List.mem_cons.1 hx with e | e
    · subst e; exact Or.inl ⟨h1, h2, h3⟩
    · exact Or.inr ⟨h1, h2, x, e, h3⟩
  · rintro (⟨h1, h2, h3⟩ | ⟨h1, h2, x, hx, h3⟩)
    · exact ⟨h1, h2, r, List.mem_cons_self .., h3⟩
    · exact ⟨h1, h2, x, List.mem_cons_of_mem _ hx, h3⟩
theorem mem_append (a b : List Rn) (n : Int) : mem (a ++ b) n ↔ mem a n ∨ mem b n := by
  constructor
  · rintro ⟨h1, h2, x, hx, h3⟩
    rcases List.mem_append.1 hx with e | e
    · exact Or.inl ⟨h1, h2, x, e, h3⟩
    · exact Or.inr ⟨h1, h2, x, e, h3⟩
  · rintro (⟨h1, h2, x, hx, h3⟩ | ⟨h1, h2, x, hx, h3⟩)
    · exact ⟨h1, h2, x, List.mem_append_left _ hx, h3⟩
    · exact ⟨h1, h2, x, List.mem_append_right _ hx, h3⟩
theorem mem_one (r : Rn) (n : Int) : mem [r] n ↔ 1 ≤ n ∧ n ≤ 1000000000 ∧ r.lo ≤ n ∧ n ≤ r.hi := by
  rw [mem_cons]
  exact ⟨fun h => h.elim id (fun h => absurd h (mem_nil n)), Or.inl⟩
theorem mem_congr {a b : List Rn} (h : ∀ r, r ∈ a ↔ r ∈ b) (n : Int) : mem a n ↔ mem b n :=
  ⟨fun ⟨h1, h2, x, hx, h3⟩ => ⟨h1, h2, x, (h x).1 hx, h3⟩, fun ⟨h1, h2, x, hx, h3⟩ => ⟨h1, h2, x, (h x).2 hx, h3⟩⟩
theorem form_mono {l l' : Int} (hl : l' ≤ l) : ∀ {a : List Rn}, form l a → form l' a
  | [], _ => trivial
  | _ :: _, h => ⟨Int.le_trans hl h.1, h.2⟩
theorem form_ge : ∀ {a : List Rn} {l : Int} {n : Int}, form l a → mem a n → l ≤ n
  | [], _, n, _, h => absurd h (mem_nil n)
  | r :: a, l, n, hf, h => by
    rcases (mem_cons r a n).1 h with h | h
    · have := hf.1; omega
    · have := form_ge hf.2.2.2 h; have := hf.1; have := hf.2.1; omega
theorem form_unique : ∀ {a b : List Rn} {l : Int}, 1 ≤ l → form l a → form l b → (∀ n, mem a n ↔ mem b n) → a = b
  | [], [], _, _, _, _, _ => rfl
  | [], s :: b, l, hl, _, hb, h => absurd ((h s.lo).2 ((mem_cons s b s.lo).2 (Or.inl ⟨by have := hb.1; omega, by have := hb.2; omega, Int.le_refl _, hb.2.1⟩))) (mem_nil _)
  | r :: a, [], l, hl, ha, _, h => absurd ((h r.lo).1 ((mem_cons r a r.lo).2 (Or.inl ⟨by have := ha.1; omega, by have := ha.2; omega, Int.le_refl _, ha.2.1⟩))) (mem_nil _)
  | r :: a, s :: b, l, hl, ha, hb, h => by
    have a1 := ha.1; have a2 := ha.2.1; have a3 := ha.2.2.1; have a4 := ha.2.2.2
    have b1 := hb.1; have b2 := hb.2.1; have b3 := hb.2.2.1; have b4 := hb.2.2.2
    have ge : ∀ {x : Rn} {c : List Rn} {n : Int}, form (x.hi + 2) c → x.lo ≤ x.hi → mem (x :: c) n → x.lo ≤ n := fun {x c n} hf hx hm => by
      rcases (mem_cons x c n).1 hm with e | e
      · exact e.2.2.1
      · have := form_ge hf e; omega
    have e1 : s.lo ≤ r.lo := ge b4 b2 ((h r.lo).1 ((mem_cons r a r.lo).2 (Or.inl ⟨by omega, by omega, Int.le_refl _, a2⟩)))
    have e2 : r.lo ≤ s.lo := ge a4 a2 ((h s.lo).2 ((mem_cons s b s.lo).2 (Or.inl ⟨by omega, by omega, Int.le_refl _, b2⟩)))
    have e3 : ¬ r.hi < s.hi := fun hlt => by
      have := (h (r.hi + 1)).2 ((mem_cons s b _).2 (Or.inl ⟨by omega, by omega, by omega, by omega⟩))
      rcases (mem_cons r a _).1 this with e | e
      · omega
      · have := form_ge a4 e; omega
    have e4 : ¬ s.hi < r.hi := fun hlt => by
      have := (h (s.hi + 1)).1 ((mem_cons r a _).2 (Or.inl ⟨by omega, by omega, by omega, by omega⟩))
      rcases (mem_cons s b _).1 this with e | e
      · omega
      · have := form_ge b4 e; omega
    have er : r = s := by
      obtain ⟨r1, r2⟩ := r
      obtain ⟨s1, s2⟩ := s
      simp at e1 e2 e3 e4
      rw [show r1 = s1 by omega, show r2 = s2 by omega]
    subst er
    rw [form_unique (l := r.hi + 2) (by omega) a4 b4 (fun n => ?_)]
    constructor
    · intro hm
      have hge := form_ge a4 hm
      rcases (mem_cons r b n).1 ((h n).1 ((mem_cons r a n).2 (Or.inr hm))) with e | e
      · omega
      · exact e
    · intro hm
      have hge := form_ge b4 hm
      rcases (mem_cons r a n).1 ((h n).2 ((mem_cons r b n).2 (Or.inr hm))) with e | e
      · omega
      · exact e
theorem form_len : ∀ {a : List Rn} {l : Int}, form l a → a = [] ∨ 2 * (a.length : Int) + l ≤ 1000000002
  | [], _, _ => Or.inl rfl
  | r :: a, l, h => by
    right
    have h1 := h.1; have h2 := h.2.1; have h3 := h.2.2.1
    rcases form_len h.2.2.2 with e | e
    · subst e; simp; omega
    · simp only [List.length_cons]; omega
theorem form_small {a : List Rn} {l : Int} (hl : 1 ≤ l) (h : form l a) : a.length ≤ 500000001 := by
  rcases form_len h with e | e
  · subst e; simp
  · omega
/-- R is the form of the set a -/
def NormOf (a R : List Rn) : Prop := form 1 R ∧ ∀ n, mem R n ↔ mem a n
theorem NormOf.unique {a R R' : List Rn} (h : NormOf a R) (h' : NormOf a R') : R = R' := form_unique (Int.le_refl _) h.1 h'.1 (fun n => (h.2 n).trans (h'.2 n).symm)
theorem NormOf.self {a : List Rn} (h : form 1 a) : NormOf a a := ⟨h, fun _ => Iff.rfl⟩
theorem form_snoc : ∀ {i : List Rn} {l : Int} {x r : Rn}, form l (i ++ [x]) → x.hi + 2 ≤ r.lo → r.lo ≤ r.hi → r.hi ≤ 1000000000 → form l (i ++ [x] ++ [r])
  | [], _, _, _, h, h1, h2, h3 => ⟨h.1, h.2.1, h.2.2.1, h1, h2, h3, trivial⟩
  | _ :: _, _, _, _, h, h1, h2, h3 => ⟨h.1, h.2.1, h.2.2.1, form_snoc h.2.2.2 h1 h2 h3⟩
theorem form_up : ∀ {i : List Rn} {l : Int} {x y : Rn}, form l (i ++ [x]) → y.lo = x.lo → x.hi ≤ y.hi → y.hi ≤ 1000000000 → form l (i ++ [y])
  | [], _, _, _, h, h1, h2, h3 => ⟨by have := h.1; omega, by have := h.2.1; omega, h3, trivial⟩
  | _ :: _, _, _, _, h, h1, h2, h3 => ⟨h.1, h.2.1, h.2.2.1, form_up h.2.2.2 h1 h2 h3⟩
theorem form_last : ∀ {i : List Rn} {l : Int} {x : Rn}, form l (i ++ [x]) → l ≤ x.lo ∧ x.lo ≤ x.hi ∧ x.hi ≤ 1000000000
  | [], _, _, h => ⟨h.1, h.2.1, h.2.2.1⟩
  | r :: i, l, x, h => by have := form_last h.2.2.2; have := h.1; have := h.2.1; omega
/-- cut to the numbers that there are -/
def clip (r : Rn) : Rn := ⟨max r.lo 1, min r.hi 1000000000⟩
def clips (a : List Rn) : List Rn := (a.map clip).filter (fun c => decide (c.lo ≤ c.hi))
theorem clips_mem (a : List Rn) (n : Int) : mem (clips a) n ↔ mem a n := by
  constructor
  · rintro ⟨h1, h2, x, hx, h3⟩
    obtain ⟨hm, _⟩ := List.mem_filter.1 hx
    obtain ⟨r, hr, rfl⟩ := List.mem_map.1 hm
    unfold clip at h3
    exact ⟨h1, h2, r, hr, by simp at h3; omega, by simp at h3; omega⟩
  · rintro ⟨h1, h2, r, hr, h3⟩
    have hc : (clip r).lo ≤ n ∧ n ≤ (clip r).hi := by unfold clip; simp; omega
    exact ⟨h1, h2, clip r, List.mem_filter.2 ⟨List.mem_map.2 ⟨r, hr, rfl⟩, decide_eq_true (by omega)⟩, hc⟩
theorem clips_in (a : List Rn) (x : Rn) (h : x ∈ clips a) : 1 ≤ x.lo ∧ x.lo ≤ x.hi ∧ x.hi ≤ 1000000000 := by
  obtain ⟨hm, hd⟩ := List.mem_filter.1 h
  obtain ⟨r, _, rfl⟩ := List.mem_map.1 hm
  have := of_decide_eq_true hd
  unfold clip at *
  simp at *
  omega
/-- one run more, which begins at the last one's beginning or behind it -/
structure MgInv (P acc : List Rn) : Prop where
  frm : form 1 acc
  mm : ∀ n, mem acc n ↔ mem P n
  low : ∀ x, x ∈ acc → ∃ p, p ∈ P ∧ x.lo = p.lo
theorem MgInv.start : MgInv [] [] := ⟨trivial, fun _ => Iff.rfl, fun x h => by cases h⟩
theorem MgInv.first {P : List Rn} {r : Rn} (h : MgInv P []) (h1 : 1 ≤ r.lo) (h2 : r.lo ≤ r.hi) (h3 : r.hi ≤ 1000000000) : MgInv (P ++ [r]) [r] := by
  refine ⟨⟨h1, h2, h3, trivial⟩, fun n => ?_, fun x hx => ?_⟩
  · rw [mem_append, ← h.mm n]
    exact ⟨Or.inr, fun e => e.elim (fun e => absurd e (mem_nil n)) id⟩
  · obtain rfl := List.mem_singleton.1 hx; exact ⟨x, by simp, rfl⟩
theorem MgInv.new {P i : List Rn} {x r : Rn} (h : MgInv P (i ++ [x])) (hg : ¬ r.lo ≤ x.hi + 1) (h2 : r.lo ≤ r.hi) (h3 : r.hi ≤ 1000000000) : MgInv (P ++ [r]) (i ++ [x] ++ [r]) := by
  refine ⟨form_snoc h.frm (by omega) h2 h3, fun n => ?_, fun y hy => ?_⟩
  · rw [mem_append, mem_append P, h.mm n]
  · rcases List.mem_append.1 hy with e | e
    · obtain ⟨p, hp, e⟩ := h.low y e; exact ⟨p, List.mem_append_left _ hp, e⟩
    · obtain rfl := List.mem_singleton.1 e; exact ⟨y, by simp, rfl⟩
theorem MgInv.join {P i : List Rn} {x r : Rn} (h : MgInv P (i ++ [x])) (hs : ∀ p, p ∈ P → p.lo ≤ r.lo) (hg : r.lo ≤ x.hi + 1) (_ : r.lo ≤ r.hi) (h3 : r.hi ≤ 1000000000) : MgInv (P ++ [r]) (i ++ [⟨x.lo, max x.hi r.hi⟩]) := by
  have hl := form_last h.frm
  have hxr : x.lo ≤ r.lo := by obtain ⟨p, hp, e⟩ := h.low x (by simp); have := hs p hp; omega
  refine ⟨form_up h.frm rfl (by simp; omega) (by simp; omega), fun n => ?_, fun y hy => ?_⟩
  · have := h.mm n
    rw [mem_append, mem_one] at this
    rw [mem_append, mem_one, mem_append P, mem_one, ← this]
    simp only
    constructor
    · rintro (e | ⟨e1, e2, e3, e4⟩)
      · exact Or.inl (Or.inl e)
      · by_cases c : n ≤ x.hi
        · exact Or.inl (Or.inr ⟨e1, e2, e3, c⟩)
        · exact Or.inr ⟨e1, e2, by omega, by omega⟩
    · rintro ((e | ⟨e1, e2, e3, e4⟩) | ⟨e1, e2, e3, e4⟩)
      · exact Or.inl e
      · exact Or.inr ⟨e1, e2, e3, by omega⟩
      · exact Or.inr ⟨e1, e2, by omega, by omega⟩
  · rcases List.mem_append.1 hy with e | e
    · obtain ⟨p, hp, e⟩ := h.low y (List.mem_append_left _ e); exact ⟨p, List.mem_append_left _ hp, e⟩
    · obtain rfl := List.mem_singleton.1 e
      obtain ⟨p, hp, e⟩ := h.low x (by simp)
      exact ⟨p, List.mem_append_left _ hp, e⟩
end Go.Proofs.YtojpjakpcihacaaGreat
