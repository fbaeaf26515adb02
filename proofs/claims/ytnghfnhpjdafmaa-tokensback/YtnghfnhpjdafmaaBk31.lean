/- UNu -/
import Derived.Test.YtnghfnhpjdafmaaBk27
namespace Go.Proofs.Ytnghfnhpjdafmaa.U
open Go.RowKit

set_option maxHeartbeats 1600000 in
theorem num_any (ao : Option Addr) (n cap : Nat) (Z : List Int) (a : Int) (w : World) (hS : Src w ao n cap Z) (hcap : n ≤ cap) (hn : n ≤ 4611686018427387904) :
    Calls Try.prog 83 #[.slice ao n cap, .int .i64 a] w fun e w' => e = p3 (numA Z a) ∧ w' = w := by
  by_cases h0 : a < 0
  · have HF : Hid (numA Z a = (0, 0, 2)) := by show _ = _; unfold numA; rw [if_pos (Or.inl h0)]
    go_enter Try.func83, Try.ntmps83
    go_wp2
    go_ret3
    exact ⟨by rw [HF.out]; rfl, rfl⟩
  by_cases h1 : (n : Int) < a
  · have HF : Hid (numA Z a = (0, 0, 2)) := by show _ = _; unfold numA; rw [if_pos (Or.inr (by rw [hS.1]; exact h1))]
    go_enter Try.func83, Try.ntmps83
    go_wp2
    go_ret3
    exact ⟨by rw [HF.out]; rfl, rfl⟩
  obtain ⟨k, rfl⟩ : ∃ k : Nat, a = k := ⟨a.toNat, by omega⟩
  have hk : k ≤ n := by omega
  have HF : Hid (numA Z k = if (rdN Z k).2.2 = 0 then ((rdN Z k).1, (k : Int) + (rdN Z k).2.1, 0) else (0, 0, (rdN Z k).2.2)) := by
    show _ = _; unfold numA; rw [if_neg (by rw [hS.1]; omega), Int.toNat_natCast]
  clear h0 h1
  have hF := first_any
  obtain ⟨x, y, e, he⟩ : ∃ x y e, rdN Z k = (x, y, e) := ⟨_, _, _, rfl⟩
  have hC : ∀ ao' cap', Src w ao' (n - k) cap' (Z.drop k) → n - k ≤ cap' → Calls Try.prog 116 #[.slice ao' (n - k) cap'] w fun e' w' => e' = .returned (.tuple #[.int .i64 x, .int .i64 y, .int .i64 e]) ∧ w' = w := by
    intro ao' cap' h1 h2
    have := first_any ao' (n - k) cap' (Z.drop k) w h1 h2 (by omega)
    rw [rdN_drop, he] at this
    exact this
  rw [he] at HF
  have HC := hide hC
  clear hF hC
  have hsz : e = 0 → 0 < y ∧ (k : Int) + y ≤ n := by
    intro h
    have := scan_size Z k 9 0 (by show (rdN Z k).2.2 = 0; rw [he]; exact h)
    have h2 : scan Z k 9 0 = (x, y, e) := he
    rw [h2, hS.1] at this
    exact this
  clear he
  obtain ⟨ao', cap', hcases, S', hle⟩ := hS.sub k hk hcap
  have hCC := hide (HC.out ao' cap' S' hle)
  clear HC S' hle hS
  by_cases h0 : e = 0
  · subst h0
    obtain ⟨y0, y1⟩ := hsz rfl
    rw [if_pos rfl] at HF
    rcases hcases with ⟨rfl, rfl, rfl⟩ | ⟨ad, rfl, rfl, rfl, rfl⟩ | ⟨ad, rfl, hne, rfl, rfl⟩
    · go_enter Try.func83, Try.ntmps83
      go_wp2_with (go_at_call 116; refine hCC.out.mono ?_; rintro e' w' ⟨rfl, rfl⟩)
      go_ret3
      exact ⟨by rw [HF.out]; rfl, rfl⟩
    · omega
    · go_enter Try.func83, Try.ntmps83
      go_wp2_with (go_at_call 116; refine hCC.out.mono ?_; rintro e' w' ⟨rfl, rfl⟩)
      go_ret3
      exact ⟨by rw [HF.out]; rfl, rfl⟩
  · rw [if_neg h0] at HF
    have h0' : (e != 0) = true := by simpa using h0
    clear hsz h0
    rcases hcases with ⟨rfl, rfl, rfl⟩ | ⟨ad, rfl, rfl, rfl, rfl⟩ | ⟨ad, rfl, hne, rfl, rfl⟩
    · go_enter Try.func83, Try.ntmps83
      go_wp2_with (go_at_call 116; refine hCC.out.mono ?_; rintro e' w' ⟨rfl, rfl⟩)
      go_ret3
      exact ⟨by rw [HF.out]; rfl, rfl⟩
    · have hnk : n - cap = 0 := by omega
      rw [hnk] at hCC
      go_enter Try.func83, Try.ntmps83
      go_wp2_with (go_at_call 116; refine hCC.out.mono ?_; rintro e' w' ⟨rfl, rfl⟩)
      go_ret3
      exact ⟨by rw [HF.out]; rfl, rfl⟩
    · go_enter Try.func83, Try.ntmps83
      go_wp2_with (go_at_call 116; refine hCC.out.mono ?_; rintro e' w' ⟨rfl, rfl⟩)
      go_ret3
      exact ⟨by rw [HF.out]; rfl, rfl⟩
theorem numA_rd (Z : List Int) (k : Nat) (hk : k ≤ Z.length) : numA Z k = rdA Z k := by
  unfold numA rdA
  rw [if_neg (by omega), Int.toNat_natCast]
  split
  · rfl
  · rename_i h
    obtain ⟨h1, h2⟩ := scan_err Z k 9 0 h
    have e1 : (rdN Z k).1 = 0 := h1
    have e2 : (rdN Z k).2.1 = 0 := h2
    rw [← e1]
    conv => lhs; rw [show (rdN Z k).1 = (rdN Z k).1 from rfl]
    exact Prod.ext rfl (Prod.ext (e1.trans e2.symm) rfl)
end Go.Proofs.Ytnghfnhpjdafmaa.U
