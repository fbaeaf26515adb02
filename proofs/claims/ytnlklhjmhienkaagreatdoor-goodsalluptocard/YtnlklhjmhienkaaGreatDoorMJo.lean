/- The reference's dash and joint: their contracts; what a run of marks comes to. -/
import Derived.Test.YtnlklhjmhienkaaGreatDoorMCleanW
import Derived.Test.YtnlklhjmhienkaaGreatDoorMCk
namespace Go.Proofs.YtnlklhjmhienkaaGreatDoor.M
open Go.RowKit

def dsh (c : UInt8) : Bool := decide (c = 32 ∨ c = 9 ∨ c = 95 ∨ c = 47 ∨ c = 45)
theorem u8_ne {c d : UInt8} {n : Int} (hn : (d.toNat : Int) = n) (h : ¬ c = d) : ((c.toNat : Int) == n) = false := by
  rw [← hn, beq_eq_false_iff_ne]; intro e; exact h ((u8_eq_iff c d).2 e)
set_option maxHeartbeats 1600000 in
theorem dash_any (c : UInt8) (w : World) : Calls Tryz.prog 54 #[.int .u8 (c.toNat : Int)] w fun e w' => e = .returned (.bool (dsh c)) ∧ w' = w := by
  by_cases h : c = 32 ∨ c = 9 ∨ c = 95 ∨ c = 47 ∨ c = 45
  · have HP : Hid (true = dsh c) := by show _ = _; unfold dsh; rw [decide_eq_true h]
    rcases h with h | h | h | h | h
    all_goals
      subst h
      go_enter Tryz.func54, Tryz.ntmps54
      go_wp2
      go_ret
      exact ⟨ret_bool HP.out, rfl⟩
  · have HP : Hid (false = dsh c) := by show _ = _; unfold dsh; rw [decide_eq_false h]
    have e1 := u8_ne (n := 32) rfl (fun e => h (Or.inl e) : ¬ c = 32)
    have e2 := u8_ne (n := 9) rfl (fun e => h (Or.inr (Or.inl e)) : ¬ c = 9)
    have e3 := u8_ne (n := 95) rfl (fun e => h (Or.inr (Or.inr (Or.inl e))) : ¬ c = 95)
    have e4 := u8_ne (n := 47) rfl (fun e => h (Or.inr (Or.inr (Or.inr (Or.inl e)))) : ¬ c = 47)
    have e5 := u8_ne (n := 45) rfl (fun e => h (Or.inr (Or.inr (Or.inr (Or.inr e)))) : ¬ c = 45)
    clear h
    go_enter Tryz.func54, Tryz.ntmps54
    go_wp2
    go_ret
    exact ⟨ret_bool HP.out, rfl⟩
theorem mo_dsh (c : UInt8) : (mo c ≠ 0) ↔ (dsh c = true ∨ c = 46) := by
  unfold mo dsh
  by_cases h : c = 32 ∨ c = 9 ∨ c = 95 ∨ c = 47 ∨ c = 45
  · rw [if_pos h, decide_eq_true h]; simp
  · rw [if_neg h, decide_eq_false h]
    by_cases h2 : c = 46
    · rw [if_pos h2]; simp [h2]
    · rw [if_neg h2]; simp [h2]
theorem mo_46 (c : UInt8) (h : c = 46) : mo c = 46 := by subst h; rfl
theorem mo_45 (c : UInt8) (h : mo c ≠ 0) (h2 : ¬ c = 46) : mo c = 45 := by
  unfold mo at h ⊢
  by_cases h1 : c = 32 ∨ c = 9 ∨ c = 95 ∨ c = 47 ∨ c = 45
  · rw [if_pos h1]
  · rw [if_neg h1, if_neg h2] at h; exact absurd rfl h
/-- a run of marks from i on: what it comes to, the place behind it -/
def jt (l : List UInt8) : Nat → Nat → UInt8 → UInt8 × Nat
  | 0, i, m => (m, i)
  | f + 1, i, m => if mo (l.getD i 0) ≠ 0 then jt l f (i + 1) (if l.getD i 0 = 46 then 46 else m) else (m, i)
theorem jt_crun (l : List UInt8) (acc : List UInt8) (f : Nat) : ∀ (i : Nat) (wt m : UInt8), i + f = l.length → crun (l.take i) = (acc, wt) → ((wt = 0 ∧ m = 45 ∧ (0 < f → mo (l.getD i 0) ≠ 0) ∧ 0 < f) ∨ (wt = m ∧ (m = 45 ∨ m = 46))) →
    crun (l.take (jt l f i m).2) = (acc, (jt l f i m).1) ∧ ((jt l f i m).1 = 45 ∨ (jt l f i m).1 = 46) ∧ i ≤ (jt l f i m).2 ∧ (jt l f i m).2 ≤ l.length ∧ ((jt l f i m).2 < l.length → mo (l.getD (jt l f i m).2 0) = 0) := by
  induction f with
  | zero =>
    intro i wt m hi hc hr
    rcases hr with ⟨_, _, _, h⟩ | ⟨rfl, h⟩
    · omega
    · exact ⟨hc, h, Nat.le_refl _, by show i ≤ _; omega, fun h => by have : i < l.length := h; omega⟩
  | succ f ih =>
    intro i wt m hi hc hr
    by_cases hm : mo (l.getD i 0) ≠ 0
    · have e : jt l (f + 1) i m = jt l f (i + 1) (if l.getD i 0 = 46 then 46 else m) := by rw [jt, if_pos hm]
      rw [e]
      have hlt : i < l.length := by omega
      have ht : l.take (i + 1) = l.take i ++ [l.getD i 0] := by rw [List.take_succ_eq_append_getElem hlt]; simp [List.getD, hlt]
      have hc' : crun (l.take (i + 1)) = (acc, jm wt (mo (l.getD i 0))) := by rw [ht, crun_snoc, hc]; unfold cstep; rw [if_pos hm]
      obtain ⟨h1, h2, h3, h4, h5⟩ := ih (i + 1) _ (if l.getD i 0 = 46 then 46 else m) (by omega) hc' (by
        right
        by_cases h46 : l.getD i 0 = 46
        · rw [if_pos h46, mo_46 _ h46]
          refine ⟨?_, Or.inr rfl⟩
          unfold jm
          by_cases hw : wt = 46
          · rw [if_pos hw, hw]
          · rw [if_neg hw]
        · rw [if_neg h46, mo_45 _ hm h46]
          rcases hr with ⟨rfl, rfl, _, _⟩ | ⟨rfl, h⟩
          · exact ⟨rfl, Or.inl rfl⟩
          · refine ⟨?_, h⟩
            unfold jm
            rcases h with rfl | rfl
            · rfl
            · rfl)
      exact ⟨h1, h2, by omega, h4, h5⟩
    · have e : jt l (f + 1) i m = (m, i) := by rw [jt, if_neg hm]
      rw [e]
      rcases hr with ⟨_, _, h, _⟩ | ⟨rfl, h⟩
      · exact absurd (h (by omega)) hm
      · exact ⟨hc, h, Nat.le_refl _, by show i ≤ _; omega, fun _ => by show mo (l.getD i 0) = 0; exact Decidable.not_not.1 hm⟩
theorem jt_more (l : List UInt8) (f i : Nat) (m : UInt8) (hf : 0 < f) (h : mo (l.getD i 0) ≠ 0) (hi : i + f = l.length) : i < (jt l f i m).2 := by
  have ge : ∀ (f i : Nat) (m : UInt8), i ≤ (jt l f i m).2 := by
    intro f
    induction f with
    | zero => intro i m; exact Nat.le_refl _
    | succ f ih =>
      intro i m
      rw [jt]
      split
      · have := ih (i + 1) (if l.getD i 0 = 46 then 46 else m); omega
      · exact Nat.le_refl _
  cases f with
  | zero => omega
  | succ f => rw [jt, if_pos h]; exact ge f (i + 1) _
set_option maxHeartbeats 1600000 in
theorem joint_any (s : ByteArray) (i0 : Nat) (w : World) (hs : s.size ≤ 1000) (hi0 : i0 ≤ s.size) : Calls Tryz.prog 55 #[.string s, .int .i64 i0] w fun e w' => e = .returned (.tuple #[.int .u8 ((jt s.data.toList (s.size - i0) i0 45).1.toNat : Int), .int .i64 ((jt s.data.toList (s.size - i0) i0 45).2 : Int)]) ∧ w' = w := by
  obtain ⟨J, HJ⟩ : ∃ J, Hid (jt s.data.toList (s.size - i0) i0 45 = J) := ⟨_, rfl⟩
  rw [HJ.out]
  go_enter Tryz.func55, Tryz.ntmps55
  go_wp2
  go_loop [1, 6] (fun u v => ∃ (i : Nat) (m : UInt8), i ≤ s.size ∧ u = .int .i64 i ∧ v = .int .u8 (m.toNat : Int) ∧ Hid (jt s.data.toList (s.size - i) i m = J)) (fun u _ => s.size - (intOf u).toNat)
  case atStart => exact ⟨i0, 45, hi0, rfl, rfl, HJ⟩
  case round =>
    obtain ⟨i, m, hi, rfl, rfl, HK⟩ := hrel
    by_cases hlt : i < s.size
    · have hg := getD_at s i hlt
      have hf : s.size - i = (s.size - (i + 1)) + 1 := by omega
      rw [hf] at HK
      obtain ⟨x, Hx⟩ : ∃ x, Hid (dsh s[i] = x) := ⟨dsh s[i], rfl⟩
      by_cases h46 : s[i] = 46
      · have e46 : ((s[i].toNat : Int) == 46) = true := by rw [h46]; rfl
        have hmo : mo s[i] ≠ 0 := (mo_dsh _).2 (Or.inr h46)
        have HN : Hid (jt s.data.toList (s.size - (i + 1)) (i + 1) 46 = J) := by show _ = _; rw [← HK.out, jt, hg, if_pos hmo, if_pos h46]
        clear h46 hmo hg hf
        cases x with
        | true =>
          go_wp2_with (go_at_call 54; refine (dash_any s[i] _).mono ?_; rintro e wx ⟨rfl, hwx⟩; subst wx; rw [Hx.out])
          go_round
          case rel => exact ⟨i + 1, 46, by omega, by go_num, rfl, HN⟩
          case measure => simp [intOf]; omega
        | false =>
          go_wp2_with (go_at_call 54; refine (dash_any s[i] _).mono ?_; rintro e wx ⟨rfl, hwx⟩; subst wx; rw [Hx.out])
          go_round
          case rel => exact ⟨i + 1, 46, by omega, by go_num, rfl, HN⟩
          case measure => simp [intOf]; omega
      · have e46 : ((s[i].toNat : Int) == 46) = false := u8_ne (n := 46) rfl h46
        cases x with
        | true =>
          have hmo : mo s[i] ≠ 0 := (mo_dsh _).2 (Or.inl Hx.out)
          have HN : Hid (jt s.data.toList (s.size - (i + 1)) (i + 1) m = J) := by show _ = _; rw [← HK.out, jt, hg, if_pos hmo, if_neg h46]
          clear h46 hmo hg hf
          go_wp2_with (go_at_call 54; refine (dash_any s[i] _).mono ?_; rintro e wx ⟨rfl, hwx⟩; subst wx; rw [Hx.out])
          go_round
          case rel => exact ⟨i + 1, m, by omega, by go_num, rfl, HN⟩
          case measure => simp [intOf]; omega
        | false =>
          have hmo : ¬ mo s[i] ≠ 0 := by rw [mo_dsh]; simp [Hx.out, h46]
          have HN : Hid ((m, i) = J) := by show _ = _; rw [← HK.out, jt, hg, if_neg hmo]
          clear h46 hmo hg hf
          go_wp2_with (go_at_call 54; refine (dash_any s[i] _).mono ?_; rintro e wx ⟨rfl, hwx⟩; subst wx; rw [Hx.out])
          go_ret2
          exact ⟨by rw [← HN.out]; rfl, rfl⟩
    · have HN : Hid ((m, i) = J) := by show _ = _; rw [← HK.out, show s.size - i = 0 by omega]; rfl
      go_wp2
      go_ret2
      exact ⟨by rw [← HN.out]; rfl, rfl⟩
end Go.Proofs.YtnlklhjmhienkaaGreatDoor.M
