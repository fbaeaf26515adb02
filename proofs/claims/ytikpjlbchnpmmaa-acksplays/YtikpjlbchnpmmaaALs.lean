/- acks' All and Least. -/
import Derived.Test.YtikpjlbchnpmmaaAAl
namespace Go.Proofs.Ytikpjlbchnpmmaa
open Go.RowKit
variable {w w' : World} {g : Nat} {r s : Int} {f : Nat → Int}

/-- what All tells -/
def allL (n : Nat) (f : Nat → Int) : List Int := (List.range n).map f
theorem allL_len (n : Nat) (f : Nat → Int) : (allL n f).length = n := by simp [allL]
theorem allL_at (n : Nat) (f : Nat → Int) (t : Nat) (ht : t < n) : (allL n f).getD t 0 = f t := by simp [allL, List.getD, ht]
set_option maxRecDepth 100000 in
theorem all_any (w : World) (n : Nat) (T : Tb w g n s f) (hn : n ≤ 16) : Calls Try.prog 12 #[ptr g] w fun e w' =>
    ∃ bo c2, e = .returned (.slice bo n c2) ∧ w'.ownsRow w.heap.size 3 1 (.slice bo n c2) n (ics (allL n f)) ∧ Below w.heap.size w w' := by
  have HC : Hid (∀ q, Calls Try.prog 24 #[.slice (some ⟨g, 2, none⟩) n 16] (w.drewN q) fun e w' =>
    ∃ bo c2, e = .returned (.slice bo n c2) ∧ w'.ownsRow w.heap.size 3 1 (.slice bo n c2) n (ics (allL n f)) ∧ Below w.heap.size w w') := fun q => by
    refine (clone_any (some ⟨g, 2, none⟩) n 16 (allL n f) (w.drewN q) (allL_len n f) (Or.inr ⟨g, 2, rfl, fun t ht => ?_⟩) (by omega)).mono ?_
    · rw [allL_at n f t ht]; exact T.c t (by omega)
    · rintro e w' ⟨bo, c2, rfl, o, b⟩
      exact ⟨bo, c2, rfl, o, ⟨b.os, b.tape, b.output, b.size, b.block⟩⟩
  have c0 := T.c0
  have hn' : (n : Int) ≤ 16 := by omega
  clear T
  go_enter Try.func12, Try.ntmps12
  go_wp2_with fail
  go_region_with (go_at_call 24; refine (HC.out 1).mono ?_; rintro e w2 ⟨bo, c2, rfl, o, b⟩)
  all_goals (go_wp2_with fail; go_ret; exact ⟨_, _, rfl, o, b⟩)
/-- the least of the peers below k, at most M -/
def lsf (s : Int) (f : Nat → Int) : Nat → Int
  | 0 => 4611686018427387904
  | k + 1 => if (k : Int) = s then lsf s f k else min (lsf s f k) (f k)
set_option maxRecDepth 100000 in
theorem least_any (w : World) (n : Nat) (T : Tb w g n s f) (hn : n ≤ 16) (h2 : 2 ≤ n) : Calls Try.prog 13 #[ptr g] w fun e w' =>
    e = .returned (.tuple #[.int .i64 (lsf s f n), .bool true]) ∧ w' = w := by
  have HT := hide T
  have c0 := T.c0
  have c1 := T.c1
  have h2' : ¬ (n : Int) < 2 := by omega
  clear T
  go_enter Try.func13, Try.ntmps13
  go_wp2_with fail
  go_loopw [4, 15] (fun l i wr => ∃ k : Nat, k ≤ n ∧ i = .int .i64 k ∧ l = .int .i64 (lsf s f k) ∧ wr = w) (fun _ i _ => n - (intOf i).toNat)
  case atStart => exact ⟨0, Nat.zero_le _, rfl, rfl, rfl⟩
  case round =>
    obtain ⟨k, hk, rfl, rfl, rfl⟩ := hrel
    by_cases hlt : k < n
    · have hlt' : (k : Int) < 16 := by omega
      by_cases hs : (k : Int) = s
      · have HE : Hid (lsf s f (k + 1) = lsf s f k) := by show _ = _; rw [lsf, if_pos hs]
        go_wp2_with fail
        go_roundw
        case rel => exact ⟨k + 1, by omega, by go_num, by rw [HE.out], trivial⟩
        case measure => simp [intOf]; omega
      · have HE : Hid (lsf s f (k + 1) = min (lsf s f k) (f k)) := by show _ = _; rw [lsf, if_neg hs]
        have ck := HT.out.c k (by omega)
        obtain ⟨z, hz⟩ : ∃ z, f k = z := ⟨_, rfl⟩
        obtain ⟨l, hl⟩ : ∃ l, lsf s f k = l := ⟨_, rfl⟩
        rw [hz, hl] at HE
        rw [hz] at ck
        rw [hl]
        clear hz hl
        by_cases hm : z < l
        · have HM : Hid (min l z = z) := Int.min_eq_right (by omega)
          go_wp2_with fail
          go_roundw
          case rel => exact ⟨k + 1, by omega, by go_num, by rw [HE.out, HM.out], trivial⟩
          case measure => simp [intOf]; omega
        · have HM : Hid (min l z = l) := Int.min_eq_left (by omega)
          go_wp2_with fail
          go_roundw
          case rel => exact ⟨k + 1, by omega, by go_num, by rw [HE.out, HM.out], trivial⟩
          case measure => simp [intOf]; omega
    · obtain hkn : k = n := by omega
      rw [hkn]
      go_wp2_with fail
      go_ret2
      exact ⟨rfl, rfl⟩
theorem least_none (w : World) (T : Tb w g r s f) (hr : r < 2) : Calls Try.prog 13 #[ptr g] w fun e w' =>
    e = .returned (.tuple #[.int .i64 0, .bool false]) ∧ w' = w := by
  have c0 := T.c0
  clear T
  go_enter Try.func13, Try.ntmps13
  go_wp2_with fail
  go_ret2
  exact ⟨rfl, rfl⟩
end Go.Proofs.Ytikpjlbchnpmmaa
