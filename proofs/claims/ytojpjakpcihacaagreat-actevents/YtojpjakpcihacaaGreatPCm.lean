/- Total orders, plain: lists by their first difference; spans; pasts. -/
import Derived.Test.YtojpjakpcihacaaGreatPKa
import Derived.Test.YtojpjakpcihacaaGreatRMr
namespace Go.Proofs.YtojpjakpcihacaaGreat

def lex {α : Type} (c : α → α → Int) : List α → List α → Int
  | [], [] => 0
  | [], _ :: _ => -1
  | _ :: _, [] => 1
  | x :: s, y :: t => if c x y = 0 then lex c s t else c x y
/-- a total order: -1, 0 or 1 -/
structure Tot {α : Type} (c : α → α → Int) : Prop where
  rng : ∀ x y, c x y = -1 ∨ c x y = 0 ∨ c x y = 1
  neg : ∀ x y, c y x = - c x y
  eq : ∀ x y, c x y = 0 ↔ x = y
  tr : ∀ x y z, c x y ≤ 0 → c y z ≤ 0 → c x z ≤ 0
theorem Tot.lt {α : Type} {c : α → α → Int} (h : Tot c) {x y z : α} (h1 : c x y < 0) (h2 : c y z ≤ 0) : c x z < 0 := by
  have h3 := h.tr x y z (by omega) h2
  by_cases e : c x z = 0
  · have := (h.eq x z).1 e
    subst this
    have := h.neg x y
    omega
  · omega
theorem Tot.lt' {α : Type} {c : α → α → Int} (h : Tot c) {x y z : α} (h1 : c x y ≤ 0) (h2 : c y z < 0) : c x z < 0 := by
  have h3 := h.tr x y z h1 (by omega)
  by_cases e : c x z = 0
  · have := (h.eq x z).1 e
    subst this
    have := h.neg x y
    omega
  · omega
theorem cmpI_tot : Tot cmpI := by
  refine ⟨fun x y => ?_, fun x y => ?_, fun x y => ?_, fun x y z => ?_⟩ <;> unfold cmpI
  · split
    · omega
    · split <;> omega
  · split <;> split <;> (try split) <;> omega
  · split
    · omega
    · split <;> omega
  · intro h1 h2
    split at h1
    · split at h2
      · rw [if_pos (by omega)]; omega
      · split at h2
        · omega
        · rw [if_pos (by omega)]; omega
    · split at h1
      · omega
      · split at h2
        · rw [if_pos (by omega)]; omega
        · split at h2
          · omega
          · rw [if_neg (by omega), if_neg (by omega)]; omega
theorem Tot.lex {α : Type} {c : α → α → Int} (h : Tot c) : Tot (lex c) := by
  refine ⟨?_, ?_, ?_, ?_⟩
  · intro x
    induction x with
    | nil => intro y; cases y <;> simp [Go.Proofs.YtojpjakpcihacaaGreat.lex]
    | cons a s ih =>
      intro y
      cases y with
      | nil => simp [Go.Proofs.YtojpjakpcihacaaGreat.lex]
      | cons b t =>
        simp only [Go.Proofs.YtojpjakpcihacaaGreat.lex]
        split
        · exact ih t
        · exact h.rng a b
  · intro x
    induction x with
    | nil => intro y; cases y <;> simp [Go.Proofs.YtojpjakpcihacaaGreat.lex]
    | cons a s ih =>
      intro y
      cases y with
      | nil => simp [Go.Proofs.YtojpjakpcihacaaGreat.lex]
      | cons b t =>
        simp only [Go.Proofs.YtojpjakpcihacaaGreat.lex]
        have := h.neg a b
        by_cases e : c a b = 0
        · rw [if_pos e, if_pos (by omega)]; exact ih t
        · rw [if_neg e, if_neg (by omega)]; exact this
  · intro x
    induction x with
    | nil => intro y; cases y <;> simp [Go.Proofs.YtojpjakpcihacaaGreat.lex]
    | cons a s ih =>
      intro y
      cases y with
      | nil => simp [Go.Proofs.YtojpjakpcihacaaGreat.lex]
      | cons b t =>
        simp only [Go.Proofs.YtojpjakpcihacaaGreat.lex]
        by_cases e : c a b = 0
        · rw [if_pos e, ih t]
          have := (h.eq a b).1 e
          subst this
          simp
        · rw [if_neg e]
          constructor
          · intro g; exact absurd g e
          · intro g
            have : a = b := by injection g
            exact absurd ((h.eq a b).2 this) e
  · intro x
    induction x with
    | nil =>
      intro y z h1 h2
      cases z with
      | nil => simp [Go.Proofs.YtojpjakpcihacaaGreat.lex]
      | cons d u => simp [Go.Proofs.YtojpjakpcihacaaGreat.lex]
    | cons a s ih =>
      intro y z h1 h2
      cases y with
      | nil => simp [Go.Proofs.YtojpjakpcihacaaGreat.lex] at h1
      | cons b t =>
        cases z with
        | nil => simp [Go.Proofs.YtojpjakpcihacaaGreat.lex] at h2
        | cons d u =>
          simp only [Go.Proofs.YtojpjakpcihacaaGreat.lex] at h1 h2 ⊢
          by_cases e1 : c a b = 0
          · rw [if_pos e1] at h1
            have := (h.eq a b).1 e1
            subst this
            by_cases e2 : c a d = 0
            · rw [if_pos e2] at h2 ⊢; exact ih t u h1 h2
            · rw [if_neg e2] at h2 ⊢; exact h2
          · rw [if_neg e1] at h1
            by_cases e2 : c b d = 0
            · have := (h.eq b d).1 e2
              subst this
              rw [if_neg e1]; exact h1
            · rw [if_neg e2] at h2
              have := h.lt (x := a) (y := b) (z := d) (by omega) h2
              rw [if_neg (by omega)]; omega
/-- first the one, then the other -/
def both {α β γ : Type} (f : α → β) (g : α → γ) (c1 : β → β → Int) (c2 : γ → γ → Int) (x y : α) : Int := if c1 (f x) (f y) = 0 then c2 (g x) (g y) else c1 (f x) (f y)
theorem Tot.both {α β γ : Type} {f : α → β} {g : α → γ} {c1 : β → β → Int} {c2 : γ → γ → Int} (h1 : Tot c1) (h2 : Tot c2) (hi : ∀ x y, f x = f y → g x = g y → x = y) : Tot (both f g c1 c2) := by
  refine ⟨fun x y => ?_, fun x y => ?_, fun x y => ?_, fun x y z => ?_⟩ <;> unfold Go.Proofs.YtojpjakpcihacaaGreat.both
  · split
    · exact h2.rng _ _
    · exact h1.rng _ _
  · have := h1.neg (f x) (f y)
    by_cases e : c1 (f x) (f y) = 0
    · rw [if_pos e, if_pos (by omega)]; exact h2.neg _ _
    · rw [if_neg e, if_neg (by omega)]; exact this
  · by_cases e : c1 (f x) (f y) = 0
    · rw [if_pos e, h2.eq]
      exact ⟨fun k => hi x y ((h1.eq _ _).1 e) k, fun k => by rw [k]⟩
    · rw [if_neg e]
      exact ⟨fun k => absurd k e, fun k => absurd ((h1.eq _ _).2 (by rw [k])) e⟩
  · intro a b
    by_cases e1 : c1 (f x) (f y) = 0
    · rw [if_pos e1] at a
      have q := (h1.eq _ _).1 e1
      rw [q]
      by_cases e2 : c1 (f y) (f z) = 0
      · rw [if_pos e2] at b ⊢; exact h2.tr _ _ _ a b
      · rw [if_neg e2] at b ⊢; exact b
    · rw [if_neg e1] at a
      by_cases e2 : c1 (f y) (f z) = 0
      · have q := (h1.eq _ _).1 e2
        rw [← q, if_neg e1]; exact a
      · rw [if_neg e2] at b
        have := h1.lt (x := f x) (y := f y) (z := f z) (by omega) b
        rw [if_neg (by omega)]; omega
theorem sn_eq {x y : Sn} (h1 : x.rep = y.rep) (h2 : x.lo = y.lo) (h3 : x.hi = y.hi) : x = y := by
  cases x; cases y; simp_all
/-- the order of spans -/
def cmp3 (x y : Sn) : Int := if cmpI x.rep y.rep = 0 then (if cmpI x.lo y.lo = 0 then cmpI x.hi y.hi else cmpI x.lo y.lo) else cmpI x.rep y.rep
theorem cmp3_tot : Tot cmp3 := by
  have h : Tot (both (fun x : Int × Int × Int => x.1) (fun x => x.2) cmpI (both (fun x : Int × Int => x.1) (fun x => x.2) cmpI cmpI)) :=
    Tot.both cmpI_tot (Tot.both cmpI_tot cmpI_tot (fun x y h1 h2 => Prod.ext h1 h2)) (fun x y h1 h2 => Prod.ext h1 h2)
  have e : ∀ x y, cmp3 x y = both (fun x : Int × Int × Int => x.1) (fun x => x.2) cmpI (both (fun x : Int × Int => x.1) (fun x => x.2) cmpI cmpI) (x.rep, x.lo, x.hi) (y.rep, y.lo, y.hi) := fun x y => rfl
  refine ⟨fun x y => ?_, fun x y => ?_, fun x y => ?_, fun x y z => ?_⟩
  · rw [e]; exact h.rng _ _
  · rw [e, e]; exact h.neg _ _
  · rw [e, h.eq]
    constructor
    · intro g
      simp only [Prod.mk.injEq] at g
      exact sn_eq g.1 g.2.1 g.2.2
    · intro g; rw [g]
  · rw [e, e, e]; exact h.tr _ _ _
/-- the order of pasts in form -/
def cmpP (P Q : Pst) : Int := if lex cmpI P.vec Q.vec = 0 then lex cmp3 P.cloud Q.cloud else lex cmpI P.vec Q.vec
theorem cmpP_tot : Tot cmpP := Tot.both (f := Pst.vec) (g := Pst.cloud) cmpI_tot.lex cmp3_tot.lex (fun x y h1 h2 => by cases x; cases y; simp_all)
/-- the first k alike -/
theorem lex_drop {α : Type} {c : α → α → Int} (hc : Tot c) (A B : List α) : ∀ k, A.take k = B.take k → k ≤ A.length → k ≤ B.length → lex c A B = lex c (A.drop k) (B.drop k)
  | 0, _, _, _ => rfl
  | k + 1, h, h1, h2 => by
    cases A with
    | nil => simp at h1
    | cons a s =>
      cases B with
      | nil => simp at h2
      | cons b t =>
        simp only [List.take_succ_cons, List.cons.injEq] at h
        obtain ⟨rfl, h⟩ := h
        have e := (hc.eq a a).2 rfl
        rw [Go.Proofs.YtojpjakpcihacaaGreat.lex, if_pos e]
        exact lex_drop hc s t k h (by simpa using h1) (by simpa using h2)
end Go.Proofs.YtojpjakpcihacaaGreat
