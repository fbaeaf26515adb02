/- VectorDots: the law's walk. -/
import Derived.Test.YtdilejbdkhkifaaBeh
import Derived.Test.YtdilejbdkhkifaaMeet
import Derived.Test.YtdilejbdkhkifaaFoLaw
import Derived.Test.YtdilejbdkhkifaaDot
import Derived.Test.YtdilejbdkhkifaaSpV
import Derived.Deep.RegionHeld
namespace Go.Proofs.Ytdilejbdkhkifaa
open Go.RowKit
attribute [local go_sem ↓] ld53_eq st53_eq

theorem bd_max {f g : Nat → Int} (hf : Bd f) (hg : Bd g) : Bd (fmax f g) := fun r hr => by have := hf r hr; have := hg r hr; unfold fmax; split <;> omega
theorem bd_min {f g : Nat → Int} (hf : Bd f) (hg : Bd g) : Bd (fmin f g) := fun r hr => by have := hf r hr; have := hg r hr; unfold fmin; split <;> omega
theorem has_up (X Y : List Int) (r m : Int) : hasD (short (fmax (at' X) (at' Y))) r m = (hasD X r m || hasD Y r m) := by
  unfold hasD atI
  cases h : isR r with
  | false => simp
  | true =>
    obtain ⟨k, rfl, hk⟩ := isR_yes h
    rw [if_pos rfl, if_pos rfl, if_pos rfl, Int.toNat_natCast, at_short _ (bd_max (bd_at X) (bd_at Y)) k hk]
    unfold fmax
    rw [Bool.eq_iff_iff]
    split <;> simp <;> omega
theorem has_down (X Y : List Int) (r m : Int) : hasD (short (fmin (at' X) (at' Y))) r m = (hasD X r m && hasD Y r m) := by
  unfold hasD atI
  cases h : isR r with
  | false => simp
  | true =>
    obtain ⟨k, rfl, hk⟩ := isR_yes h
    rw [if_pos rfl, if_pos rfl, if_pos rfl, Int.toNat_natCast, at_short _ (bd_min (bd_at X) (bd_at Y)) k hk]
    unfold fmin
    rw [Bool.eq_iff_iff]
    split <;> simp <;> omega
/-- is the dot in one of the spans? -/
def inS (r m : Int) (s : Int × Int × Int) : Bool := (s.1 == r) && (decide (s.2.1 ≤ m) && decide (m ≤ s.2.2))
def inL (r m : Int) (L : List (Int × Int × Int)) : Bool := L.any (inS r m)
theorem inL_beh (X Y : List Int) (r m : Int) : inL r m (behL (at' X) (at' Y) 16) = (hasD Y r m && !hasD X r m) := by
  have key : ∀ k, inL r m (behL (at' X) (at' Y) k) = true ↔ ∃ j : Nat, j < k ∧ r = j ∧ at' X j < m ∧ m ≤ at' Y j := by
    intro k
    induction k with
    | zero => simp [behL, inL]
    | succ k ih =>
      unfold behL
      unfold inL at ih ⊢
      rw [List.any_append, Bool.or_eq_true, ih]
      constructor
      · rintro (⟨j, hj, h⟩ | h)
        · exact ⟨j, by omega, h⟩
        · split at h
          · simp [inS] at h; exact ⟨k, by omega, by omega, by omega, by omega⟩
          · simp at h
      · rintro ⟨j, hj, h⟩
        by_cases e : j = k
        · subst e; right; rw [if_pos (by omega)]; simp [inS]; omega
        · exact Or.inl ⟨j, by omega, h⟩
  rw [Bool.eq_iff_iff, key]
  unfold hasD atI
  cases h : isR r with
  | false =>
    simp
    constructor
    · rintro ⟨j, hj, rfl, _⟩; unfold isR at h; simp at h; omega
    · intro ⟨h1, h2⟩; omega
  | true =>
    obtain ⟨k, rfl, hk⟩ := isR_yes h
    have b := at'_bd X k
    simp
    constructor
    · rintro ⟨j, hj, e, h1, h2⟩
      have : j = k := by omega
      subst this; omega
    · intro ⟨h1, h2⟩; exact ⟨k, hk, rfl, by omega, by omega⟩
theorem beh_ok (f g : Nat → Int) (hf : Bd f) (k : Nat) (hk : k ≤ 16) : ∀ s ∈ behL f g k, 1 ≤ s.2.1 ∧ s.2.1 ≤ s.2.2 := by
  induction k with
  | zero => intro s h; simp [behL] at h
  | succ k ih =>
    intro s h
    unfold behL at h
    rw [List.mem_append] at h
    rcases h with h | h
    · exact ih (by omega) s h
    · split at h
      · simp at h; subst h; have := hf k (by omega); simp; omega
      · simp at h

/-- what stands all the way through: old memory, the two lists, the dot -/
structure ThD (w W : World) (ao bo : Option Addr) (n c m d : Nat) (X Y : List Int) (r q : Int) : Prop where
  below : Below w.heap.size w W
  x : Src W ao n c X
  y : Src W bo m d Y
  d : DotAt W w.heap.size r q
theorem ThD.on {w W W' : World} {ao bo : Option Addr} {n c m d : Nat} {X Y : List Int} {r q : Int} (h : ThD w W ao bo n c m d X Y r q) (hb : Below W.heap.size W W') : ThD w W' ao bo n c m d X Y r q :=
  ⟨h.below.trans (hb.mono h.below.size), h.x.below hb, h.y.below hb, h.d.below hb⟩
theorem mergeRows_any (ao bo : Option Addr) (n c m d : Nat) (X Y : List Int) (w : World) (g : Nat) (c0 : w.cell? ⟨g, 0, none⟩ = some (.slice ao n c)) (c1 : w.cell? ⟨g, 1, none⟩ = some (.slice bo m d)) (hX : Src w ao n c X) (hY : Src w bo m d Y) :
    Calls Try.prog 26 #[.slice (some ⟨g, 0, none⟩) 2 2] w fun e w' => Gives w w' e (short (fmax (at' X) (at' Y))) := by
  have R : Rows w (some ⟨g, 0, none⟩) 2 2 (pick2 ao bo) (pick2 n m) (pick2 c d) (pick2 X Y) := by
    refine ⟨fun h => (by cases h), fun ad h t ht => ?_, fun t ht => ?_⟩
    · obtain rfl := Option.some.inj h
      rw [Addr.add_lit, Nat.zero_add]
      match t, ht with
      | 0, _ => exact c0
      | 1, _ => exact c1
    · match t, ht with
      | 0, _ => exact hX
      | 1, _ => exact hY
  refine (merge_any _ 2 2 _ _ _ _ _ R (by unfold maxLen; omega)).mono ?_
  intro e w' h
  have e2 : short (mergeF (pick2 X Y) 2) = short (fmax (at' X) (at' Y)) := by
    refine short_congr (fun r hr => ?_)
    show fmax (fmax (fun _ => 0) (at' X)) (at' Y) r = fmax (at' X) (at' Y) r
    have := fmax_zero (at' X) (bd_at X) r hr
    show (if fmax (fun _ => 0) (at' X) r < at' Y r then _ else fmax (fun _ => 0) (at' X) r) = _
    rw [this]; rfl
  rw [e2] at h
  exact h
theorem take_snocS (l : List (Int × Int × Int)) (k : Nat) (h : k < l.length) : l.take (k + 1) = l.take k ++ [l.getD k (0, 0, 0)] := by
  rw [List.take_succ_eq_append_getElem h]; simp [List.getD, h]
theorem inL_snoc (r q : Int) (l : List (Int × Int × Int)) (s : Int × Int × Int) : inL r q (l ++ [s]) = (inL r q l || inS r q s) := by simp [inL]
theorem getS_mem (l : List (Int × Int × Int)) (k : Nat) (h : k < l.length) : l.getD k (0, 0, 0) ∈ l := by
  simp only [List.getD, List.getElem?_eq_getElem h, Option.getD_some]; exact List.getElem_mem h
theorem SSrc.at {w : World} {ao : Option Addr} {n c : Nat} {L : List (Int × Int × Int)} (S : SSrc w ao n c L) (k : Nat) (h : k < n) : ∃ ad, ao = some ad := by
  cases ao with
  | none => have := S.2.1 rfl; omega
  | some ad => exact ⟨ad, rfl⟩
theorem lit_has (w : World) (g : Nat) (hg : w.heap.size = g) : Calls Try.prog 18 #[.slice (some ⟨g, 0, none⟩) 1 1, .agg #[.int .i64 0, .int .i64 2]] (w.alloc (.cells #[.int .i64 2] 3)) fun e w' => e = .returned (.bool true) ∧ Below w.heap.size w w' := by
  subst hg
  have h1 := has_any (some ⟨w.heap.size, 0, none⟩) 1 1 [2] 0 2 (w.alloc (.cells #[.int .i64 2] 3)) (lit_src w [2] _ rfl 3 1 rfl)
  rw [show hasD [2] 0 2 = true from by decide +kernel] at h1
  exact h1.mono (fun e w' ⟨he, hb⟩ => ⟨he, below_on2 (below_new _ _) hb⟩)

end Go.Proofs.Ytdilejbdkhkifaa
