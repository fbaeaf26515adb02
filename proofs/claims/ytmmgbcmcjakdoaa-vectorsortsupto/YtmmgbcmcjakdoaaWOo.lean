/- The reference's Order: its contract. -/
import Derived.Test.YtmmgbcmcjakdoaaWRn
import Derived.Test.YtmmgbcmcjakdoaaWOr
namespace Go.Proofs.Ytmmgbcmcjakdoaa
open Go.RowKit V
attribute [local go_sem ↓] ld55_eq st55_eq
attribute [local go_sem] zeros_VC cells_VA

/-- at how many of the first k replicas the one has more -/
def cnt (f g : Nat → Int) : Nat → Int
  | 0 => 0
  | k + 1 => cnt f g k + (if g k < f k then 1 else 0)
theorem cnt_bd (f g : Nat → Int) (k : Nat) : 0 ≤ cnt f g k ∧ cnt f g k ≤ k := by
  induction k with
  | zero => simp [cnt]
  | succ k ih => unfold cnt; split <;> omega
theorem cnt_zero (f g : Nat → Int) (k : Nat) : cnt f g k = 0 ↔ ∀ r, r < k → f r ≤ g r := by
  induction k with
  | zero => simp [cnt]
  | succ k ih =>
    have b := cnt_bd f g k
    unfold cnt
    constructor
    · intro h r hr
      split at h
      · omega
      · by_cases e : r = k
        · subst e; omega
        · exact ih.1 (by omega) r (by omega)
    · intro h
      have h1 := ih.2 (fun r hr => h r (by omega))
      have h2 := h k (by omega)
      rw [if_neg (by omega), h1]; rfl
theorem cnt16 (f g : Nat → Int) : cnt f g 16 = 0 ↔ leF f g = true := by rw [cnt_zero, leF_iff]
theorem eq_le (f g : Nat → Int) : eqF f g = true ↔ leF f g = true ∧ leF g f = true := by
  rw [eqF_iff, leF_iff, leF_iff]
  constructor
  · intro h; exact ⟨fun r hr => by rw [h r hr]; exact Int.le_refl _, fun r hr => by rw [h r hr]; exact Int.le_refl _⟩
  · intro ⟨h1, h2⟩ r hr; have := h1 r hr; have := h2 r hr; omega

theorem ord_of_cnt (f g : Nat → Int) (p q : Int) (hp : p = 0 ↔ leF f g = true) (hq : q = 0 ↔ leF g f = true) : ordF f g = if p = 0 ∧ q = 0 then 0 else if p = 0 then 1 else if q = 0 then 2 else 3 := by
  have h := eq_le f g
  unfold ordF
  simp only [h, ← hp, ← hq]

set_option maxHeartbeats 1600000 in
theorem refOrder_any (ao bo : Option Addr) (n c m d : Nat) (X Y : List Int) (w : World) (hX : Src w ao n c X) (hY : Src w bo m d Y) :
    Calls Try.prog 23 #[.slice ao n c, .slice bo m d] w fun e w' => e = .returned (.int .i64 (ordF (at' X) (at' Y))) ∧ Below w.heap.size w w' := by
  have HX := hide hX
  have HY := hide hY
  clear hX hY
  go_enter Try.func23, Try.ntmps23
  go_wp2_with fail
  refine (full_any ao n c X _ HX.out).mono ?_
  rintro e w1 ⟨rfl, b1⟩
  obtain ⟨w2, s2, a2, b2, _⟩ := fresh55 w w1 (at' X) b1
  have A2 := hide a2
  have B2 := hide b2
  have Y2 := hide (HY.out.below b2)
  clear a2 b2 b1
  go_wp2_with fail
  refine (full_any bo m d Y _ Y2.out).mono ?_
  rintro e w3 ⟨rfl, b3⟩
  have A3 := A2.out.below b3
  obtain ⟨w4, s4, a4, b4, c4⟩ := fresh55 w w3 (at' Y) (B2.out.trans (b3.mono B2.out.size))
  have A4 := hide (A3.below c4)
  have C4 := hide a4
  have B4 := hide b4
  clear A2 A3 B2 Y2 b3 a4 b4 c4
  obtain ⟨f, Hf⟩ : ∃ f, Hid (at' X = f) := ⟨_, rfl⟩
  obtain ⟨g, Hg⟩ : ∃ g, Hid (at' Y = g) := ⟨_, rfl⟩
  rw [Hf.out] at A4
  rw [Hg.out] at C4
  go_wp2_with fail
  go_loopw [7, 8, 9] (fun p q i wr => ∃ k : Nat, k ≤ 16 ∧ i = .int .i64 k ∧ p = .int .i64 (cnt f g k) ∧ q = .int .i64 (cnt g f k) ∧ Hid (Arr wr w1.heap.size 41 f) ∧ Hid (Arr wr w3.heap.size 41 g) ∧ Hid (Below w.heap.size w wr)) (fun _ _ i _ => 16 - (intOf i).toNat)
  case atStart => exact ⟨0, Nat.zero_le _, rfl, rfl, rfl, A4, C4, B4⟩
  case round =>
    obtain ⟨k, hk, rfl, rfl, rfl, A, B, W⟩ := hrel
    have d1 := cnt_bd f g k
    have d2 := cnt_bd g f k
    by_cases hlt : k < 16
    · have c1 := A.out.cell k hlt
      have c2 := B.out.cell k hlt
      have N1 : Hid (cnt f g (k + 1) = cnt f g k + (if g k < f k then 1 else 0)) := rfl
      have N2 : Hid (cnt g f (k + 1) = cnt g f k + (if f k < g k then 1 else 0)) := rfl
      obtain ⟨p, Hp⟩ : ∃ p, Hid (cnt f g k = p) := ⟨_, rfl⟩
      obtain ⟨q, Hq⟩ : ∃ q, Hid (cnt g f k = q) := ⟨_, rfl⟩
      obtain ⟨x, Hx⟩ : ∃ x, Hid (f k = x) := ⟨_, rfl⟩
      obtain ⟨y, Hy⟩ : ∃ y, Hid (g k = y) := ⟨_, rfl⟩
      rw [Hp.out] at d1 N1 ⊢
      rw [Hq.out] at d2 N2 ⊢
      rw [Hx.out] at c1
      rw [Hy.out] at c2
      rw [Hx.out, Hy.out] at N1 N2
      by_cases h1 : y < x
      · have h2 : ¬ x < y := by omega
        rw [if_pos h1] at N1
        rw [if_neg h2, Int.add_zero] at N2
        go_wp2_with fail
        go_quiet (fail)
        go_wp2_with fail
        go_quiet (fail)
        go_wp2_with fail
        go_roundw
        case rel => exact ⟨k + 1, by omega, by go_num, by rw [N1.out], by rw [N2.out], A, B, W.out.trans ⟨rfl, rfl, rfl, Nat.le_refl _, fun _ _ => rfl⟩⟩
        case measure => simp [intOf]; omega
      · by_cases h2 : x < y
        · rw [if_neg h1, Int.add_zero] at N1
          rw [if_pos h2] at N2
          go_wp2_with fail
          go_quiet (fail)
          go_wp2_with fail
          go_quiet (fail)
          go_wp2_with fail
          go_roundw
          case rel => exact ⟨k + 1, by omega, by go_num, by rw [N1.out], by rw [N2.out], A, B, W.out.trans ⟨rfl, rfl, rfl, Nat.le_refl _, fun _ _ => rfl⟩⟩
          case measure => simp [intOf]; omega
        · rw [if_neg h1, Int.add_zero] at N1
          rw [if_neg h2, Int.add_zero] at N2
          go_wp2_with fail
          go_quiet (fail)
          go_wp2_with fail
          go_quiet (fail)
          go_wp2_with fail
          go_roundw
          case rel => exact ⟨k + 1, by omega, by go_num, by rw [N1.out], by rw [N2.out], A, B, W.out.trans ⟨rfl, rfl, rfl, Nat.le_refl _, fun _ _ => rfl⟩⟩
          case measure => simp [intOf]; omega
    · obtain rfl : k = 16 := by omega
      have Z1 := hide (cnt16 f g)
      have Z2 := hide (cnt16 g f)
      obtain ⟨p, Hp⟩ : ∃ p, Hid (cnt f g 16 = p) := ⟨_, rfl⟩
      obtain ⟨q, Hq⟩ : ∃ q, Hid (cnt g f 16 = q) := ⟨_, rfl⟩
      rw [Hp.out] at d1 Z1 ⊢
      rw [Hq.out] at d2 Z2 ⊢
      have HO : Hid (ordF (at' X) (at' Y) = if p = 0 ∧ q = 0 then 0 else if p = 0 then 1 else if q = 0 then 2 else 3) := by
        show _ = _
        rw [Hf.out, Hg.out]
        exact ord_of_cnt f g p q Z1.out Z2.out
      by_cases hp : p = 0
      · have hp' : (p == 0) = true := by simp [hp]
        by_cases hq : q = 0
        · have hq' : (q == 0) = true := by simp [hq]
          rw [if_pos ⟨hp, hq⟩] at HO
          clear hp hq
          go_wp2_with fail
          go_ret
          exact ⟨ret_int HO.out.symm, W.out⟩
        · have hq' : (q == 0) = false := by simp [hq]
          rw [if_neg (fun h => hq h.2), if_pos hp] at HO
          clear hp hq
          go_wp2_with fail
          go_ret
          exact ⟨ret_int HO.out.symm, W.out⟩
      · have hp' : (p == 0) = false := by simp [hp]
        by_cases hq : q = 0
        · have hq' : (q == 0) = true := by simp [hq]
          rw [if_neg (fun h => hp h.1), if_neg hp, if_pos hq] at HO
          clear hp hq
          go_wp2_with fail
          go_ret
          exact ⟨ret_int HO.out.symm, W.out⟩
        · have hq' : (q == 0) = false := by simp [hq]
          rw [if_neg (fun h => hp h.1), if_neg hp, if_neg hq] at HO
          clear hp hq
          go_wp2_with fail
          go_ret
          exact ⟨ret_int HO.out.symm, W.out⟩
end Go.Proofs.Ytmmgbcmcjakdoaa
