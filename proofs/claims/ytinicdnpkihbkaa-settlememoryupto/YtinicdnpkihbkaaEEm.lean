/- settle.Enough and the reference's (without the rounds). -/
import Derived.Test.YtinicdnpkihbkaaERf
namespace Go.Proofs.Ytinicdnpkihbkaa
open Go.RowKit
variable {w w' w2 : World} {g : Nat}
/-- does each know all? -/
def enB (n : Nat) (L : List Pr) : Bool := decide (∀ i, i < n → ∀ j, j < n → knw n L i j = true)
theorem rl_full (f : Nat → Bool) (n : Nat) : (rl f n).length = n ↔ ∀ j, j < n → f j = true := by
  induction n with
  | zero => simp [rl]
  | succ n ih =>
    unfold rl
    have hl := rl_len f n
    by_cases h : f n = true
    · rw [if_pos h, List.length_append]
      constructor
      · intro e j hj
        by_cases x : j = n
        · rw [x]; exact h
        · exact ih.1 (by simp at e; omega) j (by omega)
      · intro e
        rw [ih.2 (fun j hj => e j (by omega))]
        rfl
    · rw [if_neg h]
      constructor
      · intro e; omega
      · intro e; exact absurd (e n (by omega)) h
theorem en_t {n : Nat} {L : List Pr} (h : ∀ i, i < n → (rl (knw n L i) n).length = n) : enB n L = true := by
  unfold enB; rw [decide_eq_true_eq]; exact fun i hi => (rl_full _ n).1 (h i hi)
theorem en_f {n : Nat} {L : List Pr} (i : Nat) (hi : i < n) (h : (rl (knw n L i) n).length ≠ n) : enB n L = false := by
  unfold enB; rw [decide_eq_false_iff_not]; exact fun e => h ((rl_full _ n).2 (e i hi))
set_option maxRecDepth 100000 in
theorem enough_any (r : Int) (ao : Option Addr) (m c : Nat) (L : List Pr) (w : World) (S : PSrc w ao m c L) (hm : m ≤ 140737488355328) : Calls Try.prog 18 #[.int .i64 r, .slice ao m c] w fun e w' => e = .returned (.bool (enB (clN r) L)) ∧ Below w.heap.size w w' := by
  have HC := hide (clamped_any r)
  have HR := hide (reach_any r ao m c L w S hm)
  have hn := (clN_le r).2
  obtain ⟨n, hnn⟩ : ∃ n, clN r = n := ⟨_, rfl⟩
  rw [hnn] at HC HR hn ⊢
  unfold RcA at HR
  clear hnn S
  go_enter Try.func18, Try.ntmps18
  go_wp2_with (go_at_call 11; refine HR.out.mono ?_; rintro e w1 ⟨g1, F1, rfl, M1⟩; have HM := hide M1; clear M1)
  go_loopw [11] (fun i wr => ∃ k : Nat, k ≤ n ∧ i = .int .i64 k ∧ Hid (∀ i, i < k → (rl (knw n L i) n).length = n) ∧ w1 = wr) (fun i _ => n - (intOf i).toNat)
  case atStart => exact ⟨0, Nat.zero_le _, rfl, (fun i hi => by omega), rfl⟩
  case round =>
    obtain ⟨k, hk, rfl, HF, rfl⟩ := hrel
    by_cases hlt : k < n
    · have cF := HM.out.cell k hlt
      have hl := (HM.out.row k hlt).len
      have hle := rl_len (knw n L k) n
      by_cases he : (rl (knw n L k) n).length = n
      · have HF2 : Hid (∀ i, i < k + 1 → (rl (knw n L i) n).length = n) := fun i hi => by
          by_cases x : i = k
          · rw [x]; exact he
          · exact HF.out i (by omega)
        have hfn : (F1 k).n = n := by omega
        rw [hfn] at cF
        clear hl hle he hfn HF
        go_wp2_with (go_at_call 20; refine (HC.out _).mono ?_; rintro e w2 ⟨rfl, rfl⟩)
        go_roundw
        case rel => exact ⟨k + 1, by omega, by go_num, HF2, trivial⟩
        case measure => simp [intOf]; omega
      · have HE := hide (en_f k hlt he)
        have hfn : (F1 k).n < n := by omega
        obtain ⟨fn, hf⟩ : ∃ fn, (F1 k).n = fn := ⟨_, rfl⟩
        rw [hf] at cF hfn
        clear hl hle he hf HF
        go_wp2_with (go_at_call 20; refine (HC.out _).mono ?_; rintro e w2 ⟨rfl, rfl⟩)
        go_ret
        exact ⟨ret_bool HE.out.symm, HM.out.bel⟩
    · obtain rfl : k = n := by omega
      have HE := hide (en_t HF.out)
      go_wp2_with fail
      go_ret
      exact ⟨ret_bool HE.out.symm, HM.out.bel⟩
set_option maxRecDepth 100000 in
theorem refEnough_any (r : Int) (ao : Option Addr) (m c : Nat) (L : List Pr) (w : World) (S : QSrc w ao m c (L.map toQ)) (hm : m ≤ 140737488355328) : Calls Try.prog 25 #[.int .i64 r, .slice ao m c] w fun e w' => e = .returned (.bool (enB (clN r) L)) ∧ Below w.heap.size w w' := by
  have HC := hide (reps_any r)
  have HR := hide (refReach_any r ao m c L w S hm)
  have hn := (clN_le r).2
  obtain ⟨n, hnn⟩ : ∃ n, clN r = n := ⟨_, rfl⟩
  rw [hnn] at HC HR hn ⊢
  unfold RcA at HR
  clear hnn S
  go_enter Try.func25, Try.ntmps25
  go_wp2_with (first
    | (go_at_call 21; refine (HC.out _).mono ?_; rintro e w2 ⟨rfl, rfl⟩)
    | (go_at_call 13; refine HR.out.mono ?_; rintro e w1 ⟨g1, F1, rfl, M1⟩; have HM := hide M1; clear M1))
  go_loopw [14] (fun i wr => ∃ k : Nat, k ≤ n ∧ i = .int .i64 k ∧ Hid (∀ i, i < k → (rl (knw n L i) n).length = n) ∧ w1 = wr) (fun i _ => n - (intOf i).toNat)
  case atStart => exact ⟨0, Nat.zero_le _, rfl, (fun i hi => by omega), rfl⟩
  case round =>
    obtain ⟨k, hk, rfl, HF, rfl⟩ := hrel
    by_cases hlt : k < n
    · have cF := HM.out.cell k hlt
      have hl := (HM.out.row k hlt).len
      by_cases he : (rl (knw n L k) n).length = n
      · have HF2 : Hid (∀ i, i < k + 1 → (rl (knw n L i) n).length = n) := fun i hi => by
          by_cases x : i = k
          · rw [x]; exact he
          · exact HF.out i (by omega)
        have hfn : (F1 k).n = n := by omega
        rw [hfn] at cF
        clear hl he hfn HF
        go_wp2_with fail
        go_roundw
        case rel => exact ⟨k + 1, by omega, by go_num, HF2, trivial⟩
        case measure => simp [intOf]; omega
      · have HE := hide (en_f k hlt he)
        obtain ⟨fn, hf⟩ : ∃ fn, (F1 k).n = fn := ⟨_, rfl⟩
        rw [hf] at cF hl
        have hfn : ¬ (fn : Int) = (n : Int) := by omega
        clear hl he hf HF
        go_wp2_with fail
        go_ret
        exact ⟨ret_bool HE.out.symm, HM.out.bel⟩
    · obtain rfl : k = n := by omega
      have HE := hide (en_t HF.out)
      go_wp2_with fail
      go_ret
      exact ⟨ret_bool HE.out.symm, HM.out.bel⟩
end Go.Proofs.Ytinicdnpkihbkaa
