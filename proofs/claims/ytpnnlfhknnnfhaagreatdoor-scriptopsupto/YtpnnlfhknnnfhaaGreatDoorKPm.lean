/- Plain: a line behind a script. -/
import Derived.Test.YtpnnlfhknnnfhaaGreatDoorKPd
namespace Go.Proofs.YtpnnlfhknnnfhaaGreatDoor
open Go.RowKit T Y

theorem parse_all {r r' : Rd} {k : Nat} {u : List UInt8} (h0 : u ≠ []) (hn : ∀ c ∈ u, c ≠ 10) (h : takeP r u = some r') : parseT r k u = parseT r' (k + 1) [] := by
  have hl := line_all hn
  rw [parseT_go h0 (by rw [hl.1]; exact h), hl.2]
theorem parse_op_last {h : List Int} {L : List Sp} {k : Nat} {u : List UInt8} {p : Sp} (hp : parseOpP u = some p) : parseT ⟨some h, L⟩ k u = .ok h (L ++ [p]) := by
  have hn := parse_no10 hp
  unfold parseOpP at hp
  cases hc : cutP u with
  | none => rw [hc] at hp; cases hp
  | some ws =>
    rw [hc, Option.bind_some] at hp
    have hw := (step_no10 hp).1
    have h0 : u ≠ [] := by
      rintro rfl
      have : cutP [] = some [] := by unfold cutP; rw [if_neg (by decide)]; exact cutR_nil rfl
      rw [this] at hc
      cases hc
      exact hw rfl
    cases ws with
    | nil => exact absurd rfl hw
    | cons w ws =>
      rw [parse_all (r' := ⟨some h, L ++ [p]⟩) h0 hn (by unfold takeP; rw [hc]; simp only; rw [hp]; rfl), parseT_nil]
theorem parse_silent {h : List Int} {L : List Sp} {k : Nat} {u : List UInt8} (hn : ∀ c ∈ u, c ≠ 10) (hc : cutP u = some []) : parseT ⟨some h, L⟩ k u = .ok h L := by
  by_cases h0 : u = []
  · subst h0
    rw [parseT_nil]
  · rw [parse_all (r' := ⟨some h, L⟩) h0 hn (by unfold takeP; rw [hc]), parseT_nil]
theorem parse_bad_last {h : List Int} {L : List Sp} {k : Nat} {u : List UInt8} (hn : ∀ c ∈ u, c ≠ 10) (hp : parseOpP u = none) (hc : cutP u ≠ some []) : parseT ⟨some h, L⟩ k u = .bad (k + 1) := by
  have h0 : u ≠ [] := by
    rintro rfl
    exact hc (by unfold cutP; rw [if_neg (by decide)]; exact cutR_nil rfl)
  refine parseT_bad h0 ?_
  rw [(line_all hn).1]
  unfold parseOpP at hp
  unfold takeP
  cases hq : cutP u with
  | none => rfl
  | some ws =>
    rw [hq, Option.bind_some] at hp
    cases ws with
    | nil => exact absurd hq hc
    | cons w ws =>
      simp only
      rw [hp]
      rfl
/-- does a line say something: its first byte that is no gap is no mark -/
def saysL (u : List UInt8) : Bool := match skipG u with
  | [] => false
  | c :: _ => c != 35
def lk : Bool → Bool → List UInt8 → Bool
  | _, s, [] => s
  | true, s, _ :: t => lk true s t
  | false, s, c :: t => if gapB c = true then lk false s t else lk true (c != 35) t
theorem lk_true (s : Bool) : ∀ u, lk true s u = s
  | [] => rfl
  | _ :: t => by rw [lk, lk_true s t]
theorem lk_says : ∀ u, lk false false u = saysL u
  | [] => rfl
  | c :: t => by
    rw [lk]
    by_cases h : gapB c = true
    · rw [if_pos h, lk_says t]
      unfold saysL skipG
      rw [List.dropWhile_cons_of_pos h]
    · rw [if_neg h, lk_true]
      unfold saysL skipG
      rw [List.dropWhile_cons_of_neg h]
theorem says_no {u : List UInt8} (h : saysL u = false) : cutP u = some [] := by
  unfold saysL at h
  unfold cutP
  cases hs : skipG u with
  | nil => rw [if_neg (by simp)]; exact cutR_nil hs
  | cons c t =>
    rw [hs] at h
    rw [if_pos (by simpa using h)]
theorem says_yes {u : List UInt8} (h : saysL u = true) : cutP u ≠ some [] := by
  unfold saysL at h
  unfold cutP
  cases hs : skipG u with
  | nil => rw [hs] at h; cases h
  | cons c t =>
    rw [hs] at h
    have hc : c ≠ 35 := by simpa using h
    rw [if_neg (by simpa using hc)]
    cases hw : wlen (c :: t) with
    | none => rw [cutR_none hs (by simp) hw]; simp
    | some n =>
      rw [cutR_some hs hw]
      cases cutR ((c :: t).drop n) <;> simp
theorem cnt_no {u : List UInt8} (h : cnt10 u = 0) : ∀ c ∈ u, c ≠ 10 := by
  unfold cnt10 at h
  rw [List.countP_eq_zero] at h
  intro c hc e
  exact h c hc (by rw [e]; rfl)
/-- a script, a line's end and an op's line -/
theorem more_op {t : List UInt8} {h : List Int} {L : List Sp} (hp : parseP t = .ok h L) {u : List UInt8} {p : Sp} (hu : parseOpP u = some p) : parseP (t ++ 10 :: u) = .ok h (L ++ [p]) := by
  unfold parseP at hp ⊢
  rw [parse_more _ t (Nat.le_refl _) _ _ h L u hp, parse_op_last hu]
theorem more_no {t : List UInt8} {h : List Int} {L : List Sp} (hp : parseP t = .ok h L) {u : List UInt8} (hn : cnt10 u = 0) (hs : saysL u = false) : parseP (t ++ 10 :: u) = .ok h L := by
  unfold parseP at hp ⊢
  rw [parse_more _ t (Nat.le_refl _) _ _ h L u hp, parse_silent (cnt_no hn) (says_no hs)]
theorem more_bad {t : List UInt8} {h : List Int} {L : List Sp} (hp : parseP t = .ok h L) {u : List UInt8} (hn : cnt10 u = 0) (hs : saysL u = true) (hu : parseOpP u = none) : parseP (t ++ 10 :: u) = .bad (cnt10 t + 2) := by
  unfold parseP at hp ⊢
  rw [parse_more _ t (Nat.le_refl _) _ _ h L u hp, parse_bad_last (cnt_no hn) hu (says_yes hs)]
  congr 1
  omega
end Go.Proofs.YtpnnlfhknnnfhaaGreatDoor
