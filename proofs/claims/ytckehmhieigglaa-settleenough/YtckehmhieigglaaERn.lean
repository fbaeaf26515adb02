/- settle.round, settle.Rounds. -/
import Derived.Test.YtckehmhieigglaaERo
namespace Go.Proofs.Ytckehmhieigglaa
open Go.RowKit
variable {w w' w2 : World} {g : Nat}

/-- the round of that step, of those below k -/
def roundP (n s : Nat) : Nat → List Pr
  | 0 => []
  | k + 1 => roundP n s k ++ [⟨(k : Int), ((k : Int) + (s : Int)) % (n : Int)⟩]
theorem roundP_len (n s k : Nat) : (roundP n s k).length = k := by
  induction k with
  | zero => rfl
  | succ k ih => rw [roundP, List.length_append, ih]; rfl
set_option maxRecDepth 100000 in
theorem round_any (n s : Nat) (h1 : 1 ≤ n) (hn : n ≤ 16) (hs : s ≤ 16) (w : World) : Calls Try.prog 30 #[.int .i64 n, .int .i64 s] w fun e w' =>
    ∃ bo c, e = .returned (.slice bo n c) ∧ PR w' bo n c (roundP n s n) ∧ NewB w w' bo := by
  have h1' : (1 : Int) ≤ n := by omega
  have hn' : (n : Int) ≤ 16 := by omega
  have hs' : (s : Int) ≤ 16 := by omega
  go_enter Try.func30, Try.ntmps30
  go_wp2_with fail
  go_loopw [5, 8] (fun p i wr => ∃ (k : Nat) (ao : Option Addr) (m c : Nat), k ≤ n ∧ i = .int .i64 k ∧ p = .slice ao m c ∧ Hid (m = k) ∧ Hid (GrP w wr ao m c (roundP n s k))) (fun _ i _ => n - (intOf i).toNat)
  case atStart => exact ⟨0, none, 0, 0, Nat.zero_le _, rfl, rfl, rfl, PR.nil _, Ap.refl _ _⟩
  case round =>
    obtain ⟨k, ao, m, c, hk, rfl, rfl, HK, HG⟩ := hrel
    by_cases hlt : k < n
    · have HR := hide HG.out.r
      have HM : Hid (m + 1 ≤ 8796093022108) := by show _ ≤ _; have := HK.out; omega
      have hk' : (k : Int) ≤ 16 := by omega
      go_wp2_with (at_builtin; refine HR.out.app (L := [⟨(k : Int), ((k : Int) + (s : Int)) % (n : Int)⟩]) (m := 1) rfl (pcs_lit _ _) HM.out rfl (.tmp 11) (.tmp 19) rfl rfl rfl ?_; intro bo c2 w3 R3 A3; have HG3 := hide (HG.out.app R3 A3); clear R3 A3)
      go_roundw
      case rel => exact ⟨k + 1, bo, m + 1, c2, by omega, by go_num, rfl, by show _ = _; rw [HK.out], HG3⟩
      case measure => simp [intOf]; omega
    · obtain rfl : k = n := by omega
      go_wp2_with fail
      go_ret
      obtain rfl := HK.out
      exact ⟨_, _, rfl, HG.out.r, NewB.of_ap HG.out.a⟩
/-- the first k rounds -/
def rsP (n : Nat) : Nat → List (List Pr)
  | 0 => []
  | k + 1 => rsP n k ++ [roundP n (2 ^ k) n]
/-- how many rounds there are -/
def cN (n : Nat) : Nat := if n ≤ 1 then 0 else if n ≤ 2 then 1 else if n ≤ 4 then 2 else if n ≤ 8 then 3 else 4
theorem cN_of {n k : Nat} (_ : n ≤ 16) (hk : k ≤ 4) (h1 : k = 0 ∨ 2 ^ (k - 1) < n) (h2 : ¬ 2 ^ k < n) : k = cN n := by
  unfold cN
  rcases (show k = 0 ∨ k = 1 ∨ k = 2 ∨ k = 3 ∨ k = 4 by omega) with rfl | rfl | rfl | rfl | rfl <;> simp at h1 h2 <;> (repeat' split) <;> omega
theorem pow_le4 {n k : Nat} (hn : n ≤ 16) (hk : k ≤ 4) (h : 2 ^ k < n) : k + 1 ≤ 4 ∧ 2 ^ k ≤ 8 := by
  rcases (show k = 0 ∨ k = 1 ∨ k = 2 ∨ k = 3 ∨ k = 4 by omega) with rfl | rfl | rfl | rfl | rfl <;> simp at h ⊢ <;> omega
theorem infoSP : (Try.prog.info? 22).map (fun i => (i.zero, i.size, i.bytes)) = some (some (.slice none 0 0), 1, 24) := by kernel_rfl
/-- what Rounds answers -/
def RnA (w w' : World) (n : Nat) (e : Ending) : Prop := ∃ (bo : Option Addr) (c : Nat) (F : List Sl), e = .returned (.slice bo (cN n) c) ∧ RR rkP 22 [] w w' bo (cN n) c F (rsP n (cN n))
set_option maxRecDepth 100000 in
theorem rounds_any (r : Int) (w : World) : Calls Try.prog 12 #[.int .i64 r] w fun e w' => RnA w w' (clN r) e := by
  have HC := hide (clamped_any r)
  have hn := (clN_le r).2
  have h1 := (clN_le r).1
  obtain ⟨n, hnn⟩ : ∃ n, clN r = n := ⟨_, rfl⟩
  rw [hnn] at HC hn h1 ⊢
  clear hnn
  go_enter Try.func12, Try.ntmps12
  go_wp2_with (go_at_call 27; refine (HC.out _).mono ?_; rintro e w2 ⟨rfl, rfl⟩)
  go_loopw [4, 5] (fun p i wr => ∃ (k s : Nat) (ao : Option Addr) (m c : Nat) (F : List Sl), k ≤ 4 ∧ s ≤ 16 ∧ i = .int .i64 s ∧ p = .slice ao m c ∧ Hid (s = 2 ^ k) ∧ Hid (m = k) ∧ Hid (k = 0 ∨ 2 ^ (k - 1) < n) ∧ Hid (RR rkP 22 [] w wr ao m c F (rsP n k))) (fun _ i _ => 17 - (intOf i).toNat)
  case atStart => exact ⟨0, 1, none, 0, 0, [], Nat.zero_le _, by omega, rfl, rfl, rfl, rfl, Or.inl rfl, RR.nil _ _ _ _⟩
  case round =>
    obtain ⟨k, s, ao, m, c, F, hk, hs, rfl, rfl, HS, HK, H2, HG⟩ := hrel
    by_cases hlt : s < n
    · have HP := hide (pow_le4 hn hk (by rw [← HS.out]; exact hlt))
      have hs15 : s ≤ 8 := by have := HP.out.2; rw [← HS.out] at this; exact this
      have hs0 : 1 ≤ s := by have h := Nat.two_pow_pos k; rw [← HS.out] at h; exact h
      have hs' : (s : Int) ≤ 8 := by omega
      have HRn := hide (round_any n s h1 hn hs)
      go_wp2_with (first
        | (go_at_call 30; refine (HRn.out _).mono ?_; rintro e w3 ⟨b3, c3, rfl, R3, N3⟩; have HR3 := hide R3; have HN3 := hide N3; have HO3 := hide ((HG.out.below N3.1).out); clear R3 N3)
        | (at_builtin; refine HO3.out.app (s := ⟨b3, n, c3⟩) infoSP Try.underlying30 (by have := HK.out; omega) rfl (.tmp 13) (.tmp 17) rfl rfl rfl ?_; intro b4 c4 w4 R4 A4; have HG4 := hide (HG.out.push (ρ := rkP) HR3.out HN3.out R4 A4); clear R4 A4))
      go_roundw
      case rel => exact ⟨k + 1, s * 2, b4, m + 1, c4, _, HP.out.1, by omega, by go_num, rfl, by show _ = _; rw [HS.out, Nat.pow_succ], by show _ = _; rw [HK.out], Or.inr (by rw [Nat.add_sub_cancel, ← HS.out]; exact hlt), by show RR _ _ _ _ _ _ _ _ _ _; rw [rsP, ← HS.out]; exact HG4.out⟩
      case measure => simp [intOf]; omega
    · have HE := hide (cN_of hn hk H2.out (by rw [← HS.out]; exact hlt))
      go_wp2_with fail
      go_ret
      have hKm := HK.out
      subst hKm
      have hE := HE.out
      subst hE
      exact ⟨_, _, _, rfl, HG.out⟩
end Go.Proofs.Ytckehmhieigglaa
