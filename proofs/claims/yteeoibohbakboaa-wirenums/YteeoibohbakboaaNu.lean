/- wire.Num, barrowref05.NumAt: their contracts. -/
import Derived.Test.YteeoibohbakboaaFn
namespace Go.Proofs.Yteeoibohbakboaa
open Go.RowKit

theorem drop_getD (Z : List Int) (a t : Nat) : (Z.drop a).getD t 0 = Z.getD (a + t) 0 := by simp [List.getD]
theorem src_nil (w : World) : Src w none 0 0 [] := ⟨rfl, fun _ => ⟨rfl, rfl⟩, fun ad h => (by cases h), fun t => (by simp [List.getD])⟩
theorem Src.from {w : World} {ad : Addr} {n cap : Nat} {Z : List Int} (h : Src w (some ad) n cap Z) (a : Nat) (ha : a ≤ n) (ad' : Addr) (hd : a < n → ad' = ad.add a) (cap' : Nat) : Src w (some ad') (n - a) cap' (Z.drop a) := by
  refine ⟨by simp [h.1], fun h => (by cases h), fun ad1 h1 t ht => ?_, fun t => (by rw [drop_getD]; exact h.2.2.2 _)⟩
  obtain rfl := Option.some.inj h1
  rw [hd (by omega), drop_getD, Addr.add_add]
  exact h.2.2.1 ad rfl (a + t) (by omega)
theorem scan_size (Z : List Int) (a f k : Nat) (h : (scan Z a f k).2.2 = 0) : 0 < (scan Z a f k).2.1 ∧ (a : Int) + (scan Z a f k).2.1 ≤ Z.length := by
  induction f generalizing k with
  | zero => exact absurd (show (51 : Int) = 0 from h) (by decide)
  | succ f ih =>
    unfold scan at h ⊢
    split at h
    · exact absurd h (by decide)
    · rename_i h1
      rw [if_neg h1]
      split at h
      · rename_i h2
        rw [if_pos h2]
        split at h
        · exact absurd h (by decide)
        · rename_i h3; rw [if_neg h3]; constructor
          · show (0 : Int) < (k : Int) + 1; omega
          · show (a : Int) + ((k : Int) + 1) ≤ _; omega
      · rename_i h2
        rw [if_neg h2]
        exact ih _ h
theorem Src.sub {w : World} {ao : Option Addr} {n cap : Nat} {Z : List Int} (h : Src w ao n cap Z) (k : Nat) (hk : k ≤ n) (hcap : n ≤ cap) :
    ∃ ao' cap', ((ao = none ∧ ao' = none ∧ cap' = cap - k) ∨ (∃ ad, ao = some ad ∧ cap = k ∧ ao' = some ad ∧ cap' = 0) ∨ ∃ ad, ao = some ad ∧ ¬ cap = k ∧ ao' = some (ad.add k) ∧ cap' = cap - k) ∧ Src w ao' (n - k) cap' (Z.drop k) ∧ n - k ≤ cap' := by
  cases ao with
  | none =>
    have := h.2.1 rfl
    refine ⟨none, cap - k, Or.inl ⟨rfl, rfl, rfl⟩, ⟨by simp [h.1], fun _ => by omega, fun ad h => (by cases h), fun t => (by rw [drop_getD]; exact h.2.2.2 _)⟩, by omega⟩
  | some ad =>
    by_cases hc : cap = k
    · exact ⟨some ad, 0, Or.inr (Or.inl ⟨ad, rfl, hc, rfl, rfl⟩), h.from k hk ad (fun hl => by omega) _, by omega⟩
    · exact ⟨some (ad.add k), cap - k, Or.inr (Or.inr ⟨ad, rfl, hc, rfl, rfl⟩), h.from k hk _ (fun _ => rfl) _, by omega⟩
set_option maxHeartbeats 1600000 in
theorem num_any (ao : Option Addr) (n cap : Nat) (Z : List Int) (a : Int) (w : World) (hS : Src w ao n cap Z) (hcap : n ≤ cap) (hn : n ≤ 4611686018427387904) :
    Calls Try.prog 4 #[.slice ao n cap, .int .i64 a] w fun e w' => e = p3 (numA Z a) ∧ w' = w := by
  by_cases h0 : a < 0
  · have HF : Hid (numA Z a = (0, 0, 2)) := by show _ = _; unfold numA; rw [if_pos (Or.inl h0)]
    go_enter Try.func4, Try.ntmps4
    go_wp2
    go_ret3
    exact ⟨by rw [HF.out]; rfl, rfl⟩
  by_cases h1 : (n : Int) < a
  · have HF : Hid (numA Z a = (0, 0, 2)) := by show _ = _; unfold numA; rw [if_pos (Or.inr (by rw [hS.1]; exact h1))]
    go_enter Try.func4, Try.ntmps4
    go_wp2
    go_ret3
    exact ⟨by rw [HF.out]; rfl, rfl⟩
  obtain ⟨k, rfl⟩ : ∃ k : Nat, a = k := ⟨a.toNat, by omega⟩
  have hk : k ≤ n := by omega
  have HF : Hid (numA Z k = if (rdN Z k).2.2 = 0 then ((rdN Z k).1, (k : Int) + (rdN Z k).2.1, 0) else (0, 0, (rdN Z k).2.2)) := by
    show _ = _; unfold numA; rw [if_neg (by rw [hS.1]; omega), Int.toNat_natCast]
  clear h0 h1
  have hF := first_any
  obtain ⟨x, y, e, he⟩ : ∃ x y e, rdN Z k = (x, y, e) := ⟨_, _, _, rfl⟩
  have hC : ∀ ao' cap', Src w ao' (n - k) cap' (Z.drop k) → n - k ≤ cap' → Calls Try.prog 8 #[.slice ao' (n - k) cap'] w fun e' w' => e' = .returned (.tuple #[.int .i64 x, .int .i64 y, .int .i64 e]) ∧ w' = w := by
    intro ao' cap' h1 h2
    have := first_any ao' (n - k) cap' (Z.drop k) w h1 h2 (by omega)
    rw [rdN_drop, he] at this
    exact this
  rw [he] at HF
  have HC := hide hC
  clear hF hC
  have hsz : e = 0 → 0 < y ∧ (k : Int) + y ≤ n := by
    intro h
    have := scan_size Z k 9 0 (by show (rdN Z k).2.2 = 0; rw [he]; exact h)
    have h2 : scan Z k 9 0 = (x, y, e) := he
    rw [h2, hS.1] at this
    exact this
  clear he
  obtain ⟨ao', cap', hcases, S', hle⟩ := hS.sub k hk hcap
  have hCC := hide (HC.out ao' cap' S' hle)
  clear HC S' hle hS
  by_cases h0 : e = 0
  · subst h0
    obtain ⟨y0, y1⟩ := hsz rfl
    rw [if_pos rfl] at HF
    rcases hcases with ⟨rfl, rfl, rfl⟩ | ⟨ad, rfl, rfl, rfl, rfl⟩ | ⟨ad, rfl, hne, rfl, rfl⟩
    · go_enter Try.func4, Try.ntmps4
      go_wp2_with (go_at_call 8; refine hCC.out.mono ?_; rintro e' w' ⟨rfl, rfl⟩)
      go_ret3
      exact ⟨by rw [HF.out]; rfl, rfl⟩
    · omega
    · go_enter Try.func4, Try.ntmps4
      go_wp2_with (go_at_call 8; refine hCC.out.mono ?_; rintro e' w' ⟨rfl, rfl⟩)
      go_ret3
      exact ⟨by rw [HF.out]; rfl, rfl⟩
  · rw [if_neg h0] at HF
    have h0' : (e != 0) = true := by simpa using h0
    clear hsz h0
    rcases hcases with ⟨rfl, rfl, rfl⟩ | ⟨ad, rfl, rfl, rfl, rfl⟩ | ⟨ad, rfl, hne, rfl, rfl⟩
    · go_enter Try.func4, Try.ntmps4
      go_wp2_with (go_at_call 8; refine hCC.out.mono ?_; rintro e' w' ⟨rfl, rfl⟩)
      go_ret3
      exact ⟨by rw [HF.out]; rfl, rfl⟩
    · have hnk : n - cap = 0 := by omega
      rw [hnk] at hCC
      go_enter Try.func4, Try.ntmps4
      go_wp2_with (go_at_call 8; refine hCC.out.mono ?_; rintro e' w' ⟨rfl, rfl⟩)
      go_ret3
      exact ⟨by rw [HF.out]; rfl, rfl⟩
    · go_enter Try.func4, Try.ntmps4
      go_wp2_with (go_at_call 8; refine hCC.out.mono ?_; rintro e' w' ⟨rfl, rfl⟩)
      go_ret3
      exact ⟨by rw [HF.out]; rfl, rfl⟩
theorem numA_rd (Z : List Int) (k : Nat) (hk : k ≤ Z.length) : numA Z k = rdA Z k := by
  unfold numA rdA
  rw [if_neg (by omega), Int.toNat_natCast]
  split
  · rfl
  · rename_i h
    obtain ⟨h1, h2⟩ := scan_err Z k 9 0 h
    have e1 : (rdN Z k).1 = 0 := h1
    have e2 : (rdN Z k).2.1 = 0 := h2
    rw [← e1]
    conv => lhs; rw [show (rdN Z k).1 = (rdN Z k).1 from rfl]
    exact Prod.ext rfl (Prod.ext (e1.trans e2.symm) rfl)
set_option maxHeartbeats 1600000 in
theorem refNumAt_any (ao : Option Addr) (n cap : Nat) (Z : List Int) (a : Int) (w : World) (hS : Src w ao n cap Z) (hn : n ≤ 4611686018427387904) :
    Calls Try.prog 5 #[.slice ao n cap, .int .i64 a] w fun e w' => e = p3 (numA Z a) ∧ w' = w := by
  by_cases h0 : a < 0
  · have HF : Hid (numA Z a = (0, 0, 2)) := by show _ = _; unfold numA; rw [if_pos (Or.inl h0)]
    go_enter Try.func5, Try.ntmps5
    go_wp2
    go_ret3
    exact ⟨by rw [HF.out]; rfl, rfl⟩
  by_cases h1 : (n : Int) < a
  · have HF : Hid (numA Z a = (0, 0, 2)) := by show _ = _; unfold numA; rw [if_pos (Or.inr (by rw [hS.1]; exact h1))]
    go_enter Try.func5, Try.ntmps5
    go_wp2
    go_ret3
    exact ⟨by rw [HF.out]; rfl, rfl⟩
  obtain ⟨k, rfl⟩ : ∃ k : Nat, a = k := ⟨a.toNat, by omega⟩
  have hk : k ≤ n := by omega
  have hC := refRead_any ao n cap Z k w hS hk hn
  rw [numA_rd Z k (by rw [hS.1]; exact hk)]
  obtain ⟨x, y, e, he⟩ : ∃ x y e, rdA Z k = (x, y, e) := ⟨_, _, _, rfl⟩
  rw [he] at hC ⊢
  have hC' : Calls Try.prog 9 #[.slice ao n cap, .int .i64 k] w fun e' w' => e' = .returned (.tuple #[.int .i64 x, .int .i64 y, .int .i64 e]) ∧ w' = w := hC
  have HC := hide hC'
  clear h0 h1 hC hC' he hS
  go_enter Try.func5, Try.ntmps5
  go_wp2_with (go_at_call 9; refine HC.out.mono ?_; rintro e' w' ⟨rfl, rfl⟩)
  go_ret3
  exact ⟨rfl, rfl⟩
end Go.Proofs.Yteeoibohbakboaa
