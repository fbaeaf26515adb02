/- Plain facts on orders that are told by -1, 0, 1; the natural order of texts. -/
namespace Go.Proofs.YtllogonbickmcaaDoor

/-- a total order, up to what it calls alike -/
structure Cmp {α : Type} (c : α → α → Int) : Prop where
  rng : ∀ x y, c x y = -1 ∨ c x y = 0 ∨ c x y = 1
  anti : ∀ x y, c y x = -c x y
  trans : ∀ x y z, c x y ≤ 0 → c y z ≤ 0 → c x z ≤ 0 ∧ (c x z = 0 → c x y = 0 ∧ c y z = 0)

theorem Cmp.refl {α : Type} {c : α → α → Int} (h : Cmp c) (x : α) : c x x = 0 := by have := h.anti x x; omega
theorem Cmp.left {α : Type} {c : α → α → Int} (h : Cmp c) {x y : α} (e : c x y = 0) (z : α) : c x z = c y z := by
  have a1 := h.trans x y z
  have a2 := h.trans y x z
  have a3 := h.trans z y x
  have a4 := h.trans z x y
  have b1 := h.anti x y
  have b2 := h.anti y z
  have b3 := h.anti x z
  rcases h.rng x z with r | r | r <;> rcases h.rng y z with q | q | q <;> omega

def sgn (x y : Nat) : Int := if x < y then -1 else if y < x then 1 else 0
theorem sgn_cmp : Cmp sgn := by
  refine ⟨fun x y => ?_, fun x y => ?_, fun x y z => ?_⟩
  · unfold sgn
    repeat' split
    all_goals omega
  · unfold sgn
    repeat' split
    all_goals omega
  · unfold sgn
    intro h1 h2
    repeat' split at h1
    all_goals repeat' split at h2
    all_goals repeat' split
    all_goals omega
theorem sgn_zero {x y : Nat} (h : sgn x y = 0) : x = y := by
  unfold sgn at h
  split at h
  · cases h
  · split at h
    · cases h
    · omega

/-- the first that parts decides -/
def thenC {α : Type} (c d : α → α → Int) : α → α → Int := fun x y => if c x y = 0 then d x y else c x y
theorem Cmp.andThen {α : Type} {c d : α → α → Int} (hc : Cmp c) (hd : Cmp d) : Cmp (thenC c d) := by
  refine ⟨fun x y => ?_, fun x y => ?_, fun x y z => ?_⟩
  · unfold thenC; split
    · exact hd.rng x y
    · exact hc.rng x y
  · unfold thenC
    have a := hc.anti x y
    by_cases h : c x y = 0
    · rw [if_pos h, if_pos (by omega)]; exact hd.anti x y
    · rw [if_neg h, if_neg (by omega)]; exact a
  · unfold thenC
    by_cases h1 : c x y = 0
    · rw [if_pos h1]
      have e := hc.left h1 z
      by_cases h2 : c y z = 0
      · rw [if_pos h2, if_pos (by omega)]; exact hd.trans x y z
      · rw [if_neg h2, if_neg (by omega), e]
        intro _ q
        exact ⟨q, fun h => absurd h h2⟩
    · rw [if_neg h1]
      intro p
      by_cases h2 : c y z = 0
      · rw [if_pos h2]
        intro _
        have e : c x z = c x y := by
          have b1 := hc.left h2 x
          have b2 := hc.anti x y
          have b3 := hc.anti x z
          omega
        rw [if_neg (by omega), e]
        exact ⟨p, fun h => absurd h h1⟩
      · rw [if_neg h2]
        intro q
        obtain ⟨t1, t2⟩ := hc.trans x y z p q
        by_cases h3 : c x z = 0
        · exact absurd (t2 h3).1 h1
        · rw [if_neg h3]; exact ⟨t1, fun h => absurd h h3⟩
theorem Cmp.on {α β : Type} {c : β → β → Int} (h : Cmp c) (f : α → β) : Cmp (fun x y => c (f x) (f y)) :=
  ⟨fun _ _ => h.rng _ _, fun _ _ => h.anti _ _, fun _ _ _ => h.trans _ _ _⟩

/-- lists: element by element, then the shorter one first -/
def lexC {α : Type} (c : α → α → Int) : List α → List α → Int
  | [], [] => 0
  | [], _ :: _ => -1
  | _ :: _, [] => 1
  | x :: xs, y :: ys => if c x y = 0 then lexC c xs ys else c x y
theorem lexC_cmp {α : Type} {c : α → α → Int} (hc : Cmp c) : Cmp (lexC c) := by
  refine ⟨fun x => ?_, fun x => ?_, fun x => ?_⟩
  · induction x with
    | nil => intro y; cases y <;> simp [lexC]
    | cons a x ih =>
      intro y
      cases y with
      | nil => simp [lexC]
      | cons b y =>
        unfold lexC; split
        · exact ih y
        · exact hc.rng a b
  · induction x with
    | nil => intro y; cases y <;> simp [lexC]
    | cons a x ih =>
      intro y
      cases y with
      | nil => simp [lexC]
      | cons b y =>
        have e := hc.anti a b
        unfold lexC
        by_cases h : c a b = 0
        · rw [if_pos h, if_pos (by omega)]; exact ih y
        · rw [if_neg h, if_neg (by omega)]; exact e
  · induction x with
    | nil =>
      intro y z
      cases y with
      | nil => cases z <;> simp [lexC]
      | cons b y => cases z <;> simp [lexC]
    | cons a x ih =>
      intro y z
      cases y with
      | nil => cases z <;> simp [lexC]
      | cons b y =>
        cases z with
        | nil => simp [lexC]
        | cons d z =>
          have key := ih y z
          unfold lexC
          by_cases h1 : c a b = 0
          · rw [if_pos h1]
            have e := hc.left h1 d
            by_cases h2 : c b d = 0
            · rw [if_pos h2, if_pos (by omega)]; exact key
            · rw [if_neg h2, if_neg (by omega), e]
              intro _ q
              exact ⟨q, fun h => absurd h h2⟩
          · rw [if_neg h1]
            intro p
            by_cases h2 : c b d = 0
            · rw [if_pos h2]
              intro _
              have e : c a d = c a b := by
                have b1 := hc.left h2 a
                have b2 := hc.anti a b
                have b3 := hc.anti a d
                omega
              rw [if_neg (by omega), e]
              exact ⟨p, fun h => absurd h h1⟩
            · rw [if_neg h2]
              intro q
              obtain ⟨t1, t2⟩ := hc.trans a b d p q
              by_cases h3 : c a d = 0
              · exact absurd (t2 h3).1 h1
              · rw [if_neg h3]; exact ⟨t1, fun h => absurd h h3⟩

/-- byte by byte -/
def byteC (x y : UInt8) : Int := sgn x.toNat y.toNat
def textC : List UInt8 → List UInt8 → Int := lexC byteC
theorem byteC_cmp : Cmp byteC := sgn_cmp.on UInt8.toNat
theorem textC_cmp : Cmp textC := lexC_cmp byteC_cmp
theorem textC_zero (x : List UInt8) : ∀ y, textC x y = 0 → x = y := by
  induction x with
  | nil => intro y h; cases y with
    | nil => rfl
    | cons b y => simp [textC, lexC] at h
  | cons a x ih =>
    intro y h
    cases y with
    | nil => simp [textC, lexC] at h
    | cons b y =>
      unfold textC lexC at h
      split at h
      · rename_i h1
        rw [ih y h, UInt8.toNat.inj (sgn_zero h1)]
      · rename_i h1; exact absurd h h1
end Go.Proofs.YtllogonbickmcaaDoor
