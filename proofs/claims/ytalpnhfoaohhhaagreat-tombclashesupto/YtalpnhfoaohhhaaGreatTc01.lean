/- RPv QTp QMp -/
import Derived.Test.YtalpnhfoaohhhaaGreatTc00
namespace Go.Proofs.YtalpnhfoaohhhaaGreat

theorem form_push {acc : List Rn} {r : Rn} (h : form 1 acc) (hg : ∀ i l, acc = i ++ [l] → l.hi + 2 ≤ r.lo) (h1 : 1 ≤ r.lo) (h2 : r.lo ≤ r.hi) (h3 : r.hi ≤ 1000000000) : form 1 (acc ++ [r]) := by
 rcases List.eq_nil_or_concat acc with e | ⟨i, l, e⟩
 ·subst e; exact ⟨h1, h2, h3, trivial⟩
 ·rw [List.concat_eq_append] at e
  subst e; exact form_snoc h (hg i l rfl) h2 h3
structure MtInv (x y x' y' acc : List Rn) : Prop where
 frm : form 1 acc
 mm : ∀ n, (mem acc n ∨ (mem x' n ∧ mem y' n)) ↔ (mem x n ∧ mem y n)
 gap : ∀ i l, acc = i ++ [l] → ∀ n, mem x' n → mem y' n → l.hi + 2 ≤ n
 fx : form 1 x'
 fy : form 1 y'
theorem MtInv.start {x y : List Rn} (hx : form 1 x) (hy : form 1 y) : MtInv x y x y [] :=
 ⟨trivial, fun n => ⟨fun h => h.elim (fun e => absurd e (mem_nil n)) id, Or.inr⟩, (fun i l h => by cases i <;> cases h), hx, hy⟩
def met (acc : List Rn) (a b : Rn) : List Rn := if max a.lo b.lo ≤ min a.hi b.hi then acc ++ [⟨max a.lo b.lo, min a.hi b.hi⟩] else acc
theorem met_mem (acc : List Rn) (a b : Rn) (n : Int) : mem (met acc a b) n ↔ mem acc n ∨ (mem [a] n ∧ mem [b] n) := by
 unfold met
 rw [mem_one, mem_one]
 split
 ·rw [mem_append, mem_one]
  simp only
  constructor
  ·rintro (e | e)
   ·exact Or.inl e
   ·exact Or.inr ⟨⟨e.1, e.2.1, by omega, by omega⟩, ⟨e.1, e.2.1, by omega, by omega⟩⟩
  ·rintro (e | ⟨e, f⟩)
   ·exact Or.inl e
   ·exact Or.inr ⟨e.1, e.2.1, by omega, by omega⟩
 ·constructor
  ·exact Or.inl
  ·rintro (e | ⟨e, f⟩)
   ·exact e
   ·omega
theorem MtInv.form_met {x y xs ys acc : List Rn} {a b : Rn} (h : MtInv x y (a :: xs) (b :: ys) acc) : form 1 (met acc a b) := by
 unfold met
 have fa := h.fx
 have fb := h.fy
 split
 ·refine form_push h.frm (fun i l e => ?_) ?_ ?_ ?_
  ·refine h.gap i l e (max a.lo b.lo) ((mem_cons _ _ _).2 (Or.inl ⟨?_, ?_, ?_, ?_⟩)) ((mem_cons _ _ _).2 (Or.inl ⟨?_, ?_, ?_, ?_⟩)) <;> (have := fa.1; have := fa.2.1; have := fa.2.2.1; have := fb.1; have := fb.2.1; have := fb.2.2.1; omega)
  ·have := fa.1; simp only; omega
  ·simp only; assumption
  ·have := fa.2.2.1; simp only; omega
 ·exact h.frm
theorem met_gap {x y xs ys acc i : List Rn} {a b l : Rn} (h : MtInv x y (a :: xs) (b :: ys) acc) (e : met acc a b = i ++ [l]) : (∀ n, mem (a :: xs) n → mem (b :: ys) n → l.hi + 2 ≤ n) ∨ l.hi = min a.hi b.hi := by
 unfold met at e
 split at e
 ·right
  have := List.append_inj_right' e rfl
  simp at this
  rw [← this]
 ·exact Or.inl (h.gap i l e)
theorem MtInv.left {x y xs ys acc : List Rn} {a b : Rn} (h : MtInv x y (a :: xs) (b :: ys) acc) (hlt : a.hi < b.hi) : MtInv x y xs (b :: ys) (met acc a b) := by
 have fa := h.fx
 have fb := h.fy
 refine ⟨h.form_met, fun n => ?_, fun i l e n hx hy => ?_, form_mono (by have := fa.1; have := fa.2.1; omega) fa.2.2.2, fb⟩
 ·rw [← h.mm n, met_mem]
  constructor
  ·rintro ((e | ⟨e, f⟩) | ⟨e, f⟩)
   ·exact Or.inl e
   ·exact Or.inr ⟨(mem_cons _ _ _).2 (Or.inl ((mem_one _ _).1 e)), (mem_cons _ _ _).2 (Or.inl ((mem_one _ _).1 f))⟩
   ·exact Or.inr ⟨(mem_cons _ _ _).2 (Or.inr e), f⟩
  ·rintro (e | ⟨e, f⟩)
   ·exact Or.inl (Or.inl e)
   ·rcases (mem_cons _ _ _).1 e with e | e
    ·rcases (mem_cons _ _ _).1 f with f | f
     ·exact Or.inl (Or.inr ⟨(mem_one _ _).2 e, (mem_one _ _).2 f⟩)
     ·have := form_ge fb.2.2.2 f; omega
    ·exact Or.inr ⟨e, f⟩
 ·rcases met_gap h e with g | g
  ·exact g n ((mem_cons _ _ _).2 (Or.inr hx)) hy
  ·have := form_ge fa.2.2.2 hx; omega
theorem MtInv.right {x y xs ys acc : List Rn} {a b : Rn} (h : MtInv x y (a :: xs) (b :: ys) acc) (hlt : ¬ a.hi < b.hi) : MtInv x y (a :: xs) ys (met acc a b) := by
 have fa := h.fx
 have fb := h.fy
 refine ⟨h.form_met, fun n => ?_, fun i l e n hx hy => ?_, fa, form_mono (by have := fb.1; have := fb.2.1; omega) fb.2.2.2⟩
 ·rw [← h.mm n, met_mem]
  constructor
  ·rintro ((e | ⟨e, f⟩) | ⟨e, f⟩)
   ·exact Or.inl e
   ·exact Or.inr ⟨(mem_cons _ _ _).2 (Or.inl ((mem_one _ _).1 e)), (mem_cons _ _ _).2 (Or.inl ((mem_one _ _).1 f))⟩
   ·exact Or.inr ⟨e, (mem_cons _ _ _).2 (Or.inr f)⟩
  ·rintro (e | ⟨e, f⟩)
   ·exact Or.inl (Or.inl e)
   ·rcases (mem_cons _ _ _).1 f with f | f
    ·rcases (mem_cons _ _ _).1 e with e | e
     ·exact Or.inl (Or.inr ⟨(mem_one _ _).2 e, (mem_one _ _).2 f⟩)
     ·have := form_ge fa.2.2.2 e; omega
    ·exact Or.inr ⟨e, f⟩
 ·rcases met_gap h e with g | g
  ·exact g n hx ((mem_cons _ _ _).2 (Or.inr hy))
  ·have := form_ge fb.2.2.2 hy; omega
def MeetOf (a b R : List Rn) : Prop := form 1 R ∧ ∀ n, mem R n ↔ mem a n ∧ mem b n
theorem MtInv.done {x y x' y' acc a b : List Rn} (h : MtInv x y x' y' acc) (he : x' = [] ∨ y' = []) (hx : NormOf a x) (hy : NormOf b y) : MeetOf a b acc := by
 refine ⟨h.frm, fun n => ?_⟩
 rw [← hx.2 n, ← hy.2 n, ← h.mm n]
 constructor
 ·exact Or.inl
 ·rintro (e | ⟨e, f⟩)
  ·exact e
  ·rcases he with he | he
   ·subst he; exact absurd e (mem_nil n)
   ·subst he; exact absurd f (mem_nil n)
structure OtInv (p q acc : List Rn) (next : Int) : Prop where
 frm : form 1 acc
 mm : ∀ n, mem acc n ↔ (1 ≤ n ∧ n ≤ 1000000000 ∧ n < next ∧ ¬ mem p n)
 gap : ∀ i l, acc = i ++ [l] → l.hi + 2 ≤ next
 lo : 1 ≤ next
 hi : next ≤ 1000000001
 pm : ∀ n, mem p n → n < next
 rest : form next q
theorem OtInv.start {R : List Rn} (h : form 1 R) : OtInv [] R [] 1 :=
 ⟨trivial, fun n => ⟨fun e => absurd e (mem_nil n), fun e => by omega⟩, (fun i l h => by cases i <;> cases h), Int.le_refl _, by omega, fun n e => absurd e (mem_nil n), h⟩
def outs (acc : List Rn) (next lo : Int) : List Rn := if next < lo then acc ++ [⟨next, lo - 1⟩] else acc
theorem outs_mem (acc : List Rn) (next lo n : Int) (h1 : 1 ≤ next) (h3 : lo ≤ 1000000001) : mem (outs acc next lo) n ↔ mem acc n ∨ (next ≤ n ∧ n < lo) := by
 unfold outs
 split
 ·rw [mem_append, mem_one]
  simp only
  constructor
  ·rintro (e | e)
   ·exact Or.inl e
   ·exact Or.inr (by omega)
  ·rintro (e | e)
   ·exact Or.inl e
   ·exact Or.inr (by omega)
 ·exact ⟨Or.inl, fun e => e.elim id (fun e => by omega)⟩
theorem outs_form {p q acc : List Rn} {next lo : Int} (h : OtInv p q acc next) (h3 : lo ≤ 1000000001) : form 1 (outs acc next lo) := by
 unfold outs
 split
 ·refine form_push h.frm (fun i l e => h.gap i l e) h.lo ?_ ?_ <;> (simp only; omega)
 ·exact h.frm
theorem OtInv.step {p q acc : List Rn} {next : Int} {r : Rn} (h : OtInv p (r :: q) acc next) : OtInv (p ++ [r]) q (outs acc next r.lo) (r.hi + 1) := by
 have fr := h.rest
 have f1 := fr.1; have f2 := fr.2.1; have f3 := fr.2.2.1
 have hlo := h.lo
 refine ⟨outs_form h (by omega), fun n => ?_, fun i l e => ?_, by omega, by omega, fun n hn => ?_, form_mono (by omega) fr.2.2.2⟩
 ·rw [outs_mem _ _ _ _ hlo (by omega), h.mm n, mem_append, mem_one]
  constructor
  ·rintro (e | e)
   ·exact ⟨e.1, e.2.1, by omega, fun c => c.elim e.2.2.2 (fun c => by omega)⟩
   ·exact ⟨by omega, by omega, by omega, fun c => c.elim (fun c => by have := h.pm n c; omega) (fun c => by omega)⟩
  ·rintro ⟨e1, e2, e3, e4⟩
   by_cases c : n < next
   ·exact Or.inl ⟨e1, e2, c, fun d => e4 (Or.inl d)⟩
   ·exact Or.inr ⟨by omega, Classical.byContradiction fun d => e4 (Or.inr ⟨e1, e2, by omega, by omega⟩)⟩
 ·unfold outs at e
  split at e
  ·have := List.append_inj_right' e rfl
   simp at this
   rw [← this]; simp only; omega
  ·have := h.gap i l e; omega
 ·rw [mem_append, mem_one] at hn
  rcases hn with e | e
  ·have := h.pm n e; omega
  ·omega
def OutOf (a O : List Rn) : Prop := form 1 O ∧ ∀ n, mem O n ↔ (1 ≤ n ∧ n ≤ 1000000000 ∧ ¬ mem a n)
theorem OtInv.done {R acc a : List Rn} {next : Int} (h : OtInv R [] acc next) (hR : NormOf a R) : OutOf a (outs acc next 1000000001) := by
 refine ⟨outs_form h (Int.le_refl _), fun n => ?_⟩
 rw [outs_mem _ _ _ _ h.lo (Int.le_refl _), h.mm n, ← hR.2 n]
 constructor
 ·rintro (e | e)
  ·exact ⟨e.1, e.2.1, e.2.2.2⟩
  ·exact ⟨by have := h.lo; omega, by omega, fun c => by have := h.pm n c; omega⟩
 ·rintro ⟨e1, e2, e3⟩
  by_cases c : n < next
  ·exact Or.inl ⟨e1, e2, c, e3⟩
  ·exact Or.inr ⟨by omega, by omega⟩
def MinusOf (a b R : List Rn) : Prop := form 1 R ∧ ∀ n, mem R n ↔ mem a n ∧ ¬ mem b n
theorem minus_of {a b O R : List Rn} (hO : OutOf b O) (h : MeetOf a O R) : MinusOf a b R :=
 ⟨h.1, fun n => by rw [h.2 n, hO.2 n]; exact ⟨fun e => ⟨e.1, e.2.2.2⟩, fun e => ⟨e.1, e.1.1, e.1.2.1, e.2⟩⟩⟩
theorem form_empty {a : List Rn} {l : Int} (hl : 1 ≤ l) (h : form l a) (he : ∀ n, ¬ mem a n) : a = [] := by
 cases a with
 | nil => rfl
 | cons r a => exact absurd ((mem_cons r a r.lo).2 (Or.inl ⟨by have := h.1; omega, by have := h.2; omega, Int.le_refl _, h.2.1⟩)) (he _)
def sz : List Rn → Int
 | [] => 0
 | r :: a => (r.hi - r.lo + 1) + sz a
theorem sz_bd : ∀ {a : List Rn} {l : Int}, form l a → 0 ≤ sz a ∧ (a = [] ∨ sz a + l ≤ 1000000001) ∧ (sz a = 0 → a = [])
 | [], _, _ => ⟨Int.le_refl _, Or.inl rfl, fun _ => rfl⟩
 | r :: a, l, h => by
  have h1 := h.1; have h2 := h.2.1; have h3 := h.2.2.1
  obtain ⟨i1, i2, i3⟩ := sz_bd h.2.2.2
  refine ⟨by simp only [sz]; omega, Or.inr ?_, fun e => by simp only [sz] at e; omega⟩
  simp only [sz]
  rcases i2 with e | e
  ·subst e; simp only [sz]; omega
  ·omega
theorem sz_append (a b : List Rn) : sz (a ++ b) = sz a + sz b := by
 induction a with
 | nil => simp [sz]
 | cons r a ih => simp only [List.cons_append, sz, ih]; omega
theorem sz_take : ∀ (a : List Rn) (l : Int) (k : Nat), form l a → 0 ≤ sz (a.take k) ∧ sz (a.take k) ≤ sz a := by
 intro a
 induction a with
 | nil => intro l k _; simp [sz]
 | cons r a ih =>
  intro l k h
  cases k with
  | zero => have := (sz_bd h).1; simp [sz] at *; exact this
  | succ k =>
   have := ih _ k h.2.2.2
   have := h.2.1
   simp only [List.take_succ_cons, sz]
   omega
end Go.Proofs.YtalpnhfoaohhhaaGreat
namespace Go.Proofs.YtalpnhfoaohhhaaGreat

def tn : List Rn → List Int
 | [] => []
 | r :: t => r.lo :: (r.hi + 1) :: tn t
theorem tn_length (R : List Rn) : (tn R).length = 2 * R.length := by
 induction R with
 | nil => rfl
 | cons a t ih => simp [tn, ih]; omega
def cnt (L : List Int) (n : Int) : Nat := L.countP (fun x => decide (x ≤ n))
def inR (R : List Rn) (n : Int) : Prop := ∃ r, r ∈ R ∧ r.lo ≤ n ∧ n ≤ r.hi
structure SwG (I O : List Int) : Prop where
 si : I.Pairwise (· ≤ ·)
 so : O.Pairwise (· ≤ ·)
 len : I.length = O.length
 c : ∀ n, cnt O n ≤ cnt I (n - 1)
 lo : ∀ x, x ∈ I → 1 ≤ x
 hi : ∀ x, x ∈ O → x ≤ 1000000001
structure Sw (I O : List Int) (i j : Nat) (R : List Rn) (s : Option Int) : Prop where
 hi : i ≤ I.length
 hj : j ≤ O.length
 ij : j ≤ i
 fm : form 1 R
 st : s = none ↔ i = j
 cl : s = none → (∀ n, cnt (O.take j) n < cnt (I.take i) n ↔ inR R n) ∧ ∀ x, x ∈ I.drop i → ∀ q r, R = q ++ [r] → r.hi + 2 ≤ x
 op : ∀ a, s = some a → (∀ n, cnt (O.take j) n < cnt (I.take i) n ↔ inR R n ∨ a ≤ n) ∧ (∀ q r, R = q ++ [r] → r.hi + 2 ≤ a) ∧ 1 ≤ a ∧ a ∈ I.take i
 le : ∀ x, x ∈ I.take i ++ O.take j → ∀ y, y ∈ I.drop i ++ O.drop j → x ≤ y
end Go.Proofs.YtalpnhfoaohhhaaGreat
namespace Go.Proofs.YtalpnhfoaohhhaaGreat

structure MI (A B acc : List Int) (i j : Nat) : Prop where
 p : acc.Perm (A.take i ++ B.take j)
 s : acc.Pairwise (· ≤ ·)
 l : ∀ x, x ∈ acc → ∀ y, y ∈ A.drop i ++ B.drop j → x ≤ y
theorem getD_some (L : List Int) (i : Nat) (h : i < L.length) : L[i]? = some (L.getD i 0) := by simp [List.getD, h]
end Go.Proofs.YtalpnhfoaohhhaaGreat
