/- The reference's Clean: its contract. -/
import Derived.Test.YtnlklhjmhienkaaGreatDoorMJo
namespace Go.Proofs.YtnlklhjmhienkaaGreatDoor.M
open Go.RowKit

/-- what the reference has laid out at the head of a round at i -/
def CR (l : List UInt8) (i : Nat) (out : List UInt8) : Prop := ∃ acc wt, crun (l.take i) = (acc, wt) ∧ ((wt = 0 ∧ out = acc ∧ (acc ≠ [] ↔ 0 < i)) ∨ (wt ≠ 0 ∧ out = (if acc ≠ [] ∧ i < l.length then acc ++ [wt] else acc) ∧ (i < l.length → mo (l.getD i 0) = 0)))
theorem CR.start (l : List UInt8) : CR l 0 [] := ⟨[], 0, rfl, Or.inl ⟨rfl, rfl, by simp⟩⟩
theorem CR.ends {l out : List UInt8} (h : CR l l.length out) : out = (crun l).1 := by
  obtain ⟨acc, wt, hc, h⟩ := h
  rw [List.take_length] at hc
  rw [hc]
  rcases h with ⟨_, h, _⟩ | ⟨_, h, _⟩
  · exact h
  · rw [h, if_neg (by omega)]
theorem CR.short {l out : List UInt8} {i : Nat} (h : CR l i out) : out.length ≤ 2 * l.length + 1 := by
  obtain ⟨acc, wt, hc, h⟩ := h
  have h1 := crun_len (l.take i)
  rw [hc] at h1
  have h2 := List.length_take_le i l
  have h2' : (l.take i).length ≤ l.length := by rw [List.length_take]; omega
  have h3 : acc.length ≤ 2 * (l.take i).length := h1
  rcases h with ⟨_, h, _⟩ | ⟨_, h, _⟩
  · rw [h]; omega
  · rw [h]; split
    · simp; omega
    · omega
theorem CR.byte {l out : List UInt8} {i : Nat} (h : CR l i out) (hi : i < l.length) (hm : mo (l.getD i 0) = 0) : CR l (i + 1) (out ++ [up (l.getD i 0)]) := by
  obtain ⟨acc, wt, hc, h⟩ := h
  have ht : l.take (i + 1) = l.take i ++ [l.getD i 0] := by rw [List.take_succ_eq_append_getElem hi]; simp [List.getD, hi]
  refine ⟨out ++ [up (l.getD i 0)], 0, ?_, Or.inl ⟨rfl, rfl, by simp⟩⟩
  rw [ht, crun_snoc, hc]
  unfold cstep
  rw [if_neg (by simpa using hm)]
  rcases h with ⟨h0, h, _⟩ | ⟨h0, h, _⟩
  · subst h0 h; simp
  · by_cases ha : acc ≠ []
    · rw [if_pos ⟨ha, hi⟩] at h; rw [if_pos ⟨h0, ha⟩, h]
    · rw [if_neg (fun hh => ha hh.1)] at h; rw [if_neg (fun hh => ha hh.2), h]
theorem CR.mark {l out : List UInt8} {i : Nat} (h : CR l i out) (hi : i < l.length) (hm : mo (l.getD i 0) ≠ 0) :
    CR l (jt l (l.length - i) i 45).2 (if 0 < i ∧ (jt l (l.length - i) i 45).2 < l.length then out ++ [(jt l (l.length - i) i 45).1] else out) ∧ i < (jt l (l.length - i) i 45).2 ∧ (jt l (l.length - i) i 45).2 ≤ l.length := by
  obtain ⟨acc, wt, hc, h⟩ := h
  rcases h with ⟨h0, h, hp⟩ | ⟨_, _, h⟩
  · subst h0 h
    obtain ⟨h1, h2, h3, h4, h5⟩ := jt_crun l out (l.length - i) i 0 45 (by omega) hc (Or.inl ⟨rfl, rfl, fun _ => hm, by omega⟩)
    refine ⟨⟨out, _, h1, Or.inr ⟨by rcases h2 with h2 | h2 <;> rw [h2] <;> decide, ?_, h5⟩⟩, jt_more l _ i 45 (by omega) hm (by omega), h4⟩
    by_cases hi0 : 0 < i
    · have ha := hp.2 hi0
      by_cases hj : (jt l (l.length - i) i 45).2 < l.length
      · rw [if_pos ⟨hi0, hj⟩, if_pos ⟨ha, hj⟩]
      · rw [if_neg (fun hh => hj hh.2), if_neg (fun hh => hj hh.2)]
    · rw [if_neg (fun hh => hi0 hh.1), if_neg (fun hh => hi0 (hp.1 hh.1))]
  · exact absurd (h hi) hm
theorem ascii_all (s : ByteArray) (k : Nat) (h : ascii (s.data.toList.take k) = true) (hk : k = s.size) : ascii s.data.toList = true := by
  rw [List.take_of_length_le (by rw [len_at]; omega)] at h; exact h

set_option maxRecDepth 100000 in
set_option maxHeartbeats 8000000 in
theorem refClean_any (s : ByteArray) (w : World) (hs : s.size ≤ maxLen) :
    Calls Tryz.prog 26 #[.string s] w fun e w' => e = .returned (.tuple #[.string (bs (clS s.data.toList)), .int .i64 (clE s.data.toList)]) ∧ Below w.heap.size w w' := by
  unfold maxLen at hs
  by_cases h96 : 96 < s.size
  · have HE : Hid (clE s.data.toList = 21) := by show _ = _; unfold clE; rw [len_at, if_pos h96]
    have HC : Hid (clS s.data.toList = []) := by show _ = _; unfold clS; rw [HE.out]; rfl
    have h96' : (96 : Int) < s.size := by omega
    go_enter Tryz.func26, Tryz.ntmps26
    go_wp2
    go_ret2
    exact ⟨by rw [HE.out, HC.out]; rfl, Below.refl _ _⟩
  have h96' : ¬ (96 : Int) < s.size := by omega
  have HE : Hid (clE s.data.toList = if ascii s.data.toList = true then ckE (crun s.data.toList).1 else 22) := by show _ = _; unfold clE; rw [len_at, if_neg h96]
  go_enter Tryz.func26, Tryz.ntmps26
  go_wp2
  go_loop [4] (fun i => ∃ k : Nat, k ≤ s.size ∧ i = .int .i64 k ∧ Hid (ascii (s.data.toList.take k) = true)) (fun i => s.size - (intOf i).toNat)
  case atStart => exact ⟨0, Nat.zero_le _, rfl, rfl⟩
  case round =>
    obtain ⟨k, hk, rfl, HK⟩ := hrel
    by_cases hlt : k < s.size
    · by_cases hc : (s[k]).toNat < 128
      · have hx128 : ¬ (128 : Int) ≤ (s[k].toNat : Int) := by omega
        have HN : Hid (ascii (s.data.toList.take (k + 1)) = true) := by show _ = _; rw [take_snocC s k hlt]; exact ascii_snoc _ _ HK.out hc
        go_wp2
        go_round
        case rel => exact ⟨k + 1, by omega, by go_num, HN⟩
        case measure => simp [intOf]; omega
      · have hx128 : (128 : Int) ≤ (s[k].toNat : Int) := by omega
        have HF : Hid (clE s.data.toList = 22) := by show _ = _; rw [HE.out, ascii_no s k hlt hc]; rfl
        have HC2 : Hid (clS s.data.toList = []) := by show _ = _; unfold clS; rw [HF.out]; rfl
        go_wp2
        go_ret2
        exact ⟨by rw [HF.out, HC2.out]; rfl, Below.refl _ _⟩
    · obtain rfl : k = s.size := by omega
      have HA : Hid (ascii s.data.toList = true) := ascii_all s _ HK.out rfl
      have HE2 : Hid (clE s.data.toList = ckE (crun s.data.toList).1) := by show _ = _; rw [HE.out, if_pos HA.out]
      clear HK HE hk hlt
      go_wp2
      go_loopw [5, 6] (fun v u wr => ∃ (i : Nat) (ao : Option Addr) (cap : Nat) (out : List UInt8), i ≤ s.size ∧ v = .slice ao out.length cap ∧ u = .int .i64 i ∧ Own w.heap.size w.heap.size w wr ao cap out ∧ Hid (CR s.data.toList i out)) (fun _ u _ => s.size - (intOf u).toNat)
      case atStart => exact ⟨0, none, 0, [], Nat.zero_le _, rfl, rfl, Own.nil (Below.refl _ _) (Nat.le_refl _) (Nat.le_refl _), CR.start _⟩
      case round =>
        obtain ⟨i, ao, cap, out, hi, rfl, rfl, O, HR⟩ := hrel
        have hol : out.length ≤ 193 := by have := HR.out.short; rw [len_at] at this; omega
        by_cases hlt : i < s.size
        · have HG := hide (getD_at s i hlt)
          have Hl : Hid (i < s.data.toList.length) := by show _ < _; rw [len_at]; omega
          by_cases hm : mo s[i] = 0
          · have HN : Hid (CR s.data.toList (i + 1) (out ++ [up s[i]])) := by
              have := HR.out.byte Hl.out (by rw [HG.out]; exact hm)
              rw [HG.out] at this; exact this
            have hd : dsh s[i] = false := by
              cases h : dsh s[i] with
              | false => rfl
              | true => exact absurd hm ((mo_dsh _).2 (Or.inl h))
            have h46 : ¬ s[i] = 46 := fun h => (mo_dsh _).2 (Or.inr h) hm
            have e46 : ((s[i].toNat : Int) == 46) = false := u8_ne (n := 46) rfl h46
            have HD := hide hd
            clear hm hd h46
            by_cases h1 : (97 : Int) ≤ (s[i].toNat : Int)
            · by_cases h2 : (s[i].toNat : Int) ≤ 122
              · have HU : Hid ((s[i].toNat : Int) - 32 = ((up s[i]).toNat : Int)) := by
                  show _ = _
                  unfold up
                  rw [if_pos (by rw [UInt8.le_iff_toNat_le, UInt8.le_iff_toNat_le]; exact ⟨by show 97 ≤ s[i].toNat; omega, by show s[i].toNat ≤ 122; omega⟩), UInt8.toNat_sub_of_le _ _ (by rw [UInt8.le_iff_toNat_le]; show 32 ≤ s[i].toNat; omega)]
                  show (s[i].toNat : Int) - 32 = ((s[i].toNat - 32 : Nat) : Int)
                  omega
                have hw := wrap8 ((s[i].toNat : Int) - 32) (by omega) (by omega)
                go_wp2_with (first | (go_at_call 54; refine (dash_any s[i] _).mono ?_; rintro e wx ⟨rfl, hwx⟩; subst wx; rw [HD.out]) | (at_builtin; refine O.append [up s[i]] _ (by show _ = #[Value.int .u8 _]; rw [← HU.out]; rfl) (by simp) (by simp; omega) rfl _ _ rfl out.length rfl rfl 1 rfl rfl ?_; intro g4 c4 w4 O4 hk4))
                go_roundw
                case rel => exact ⟨i + 1, some ⟨g4, 0, none⟩, c4, _, by omega, by simp, by go_num, O4, HN⟩
                case measure => simp [intOf]; omega
              · have HU : Hid ((s[i].toNat : Int) = ((up s[i]).toNat : Int)) := by
                  show _ = _
                  unfold up
                  rw [if_neg (by rw [UInt8.le_iff_toNat_le, UInt8.le_iff_toNat_le]; intro hh; have : s[i].toNat ≤ 122 := hh.2; omega)]
                go_wp2_with (first | (go_at_call 54; refine (dash_any s[i] _).mono ?_; rintro e wx ⟨rfl, hwx⟩; subst wx; rw [HD.out]) | (at_builtin; refine O.append [up s[i]] _ (by show _ = #[Value.int .u8 _]; rw [← HU.out]; rfl) (by simp) (by simp; omega) rfl _ _ rfl out.length rfl rfl 1 rfl rfl ?_; intro g4 c4 w4 O4 hk4))
                go_roundw
                case rel => exact ⟨i + 1, some ⟨g4, 0, none⟩, c4, _, by omega, by simp, by go_num, O4, HN⟩
                case measure => simp [intOf]; omega
            · have HU : Hid ((s[i].toNat : Int) = ((up s[i]).toNat : Int)) := by
                show _ = _
                unfold up
                rw [if_neg (by rw [UInt8.le_iff_toNat_le, UInt8.le_iff_toNat_le]; intro hh; have : 97 ≤ s[i].toNat := hh.1; omega)]
              go_wp2_with (first | (go_at_call 54; refine (dash_any s[i] _).mono ?_; rintro e wx ⟨rfl, hwx⟩; subst wx; rw [HD.out]) | (at_builtin; refine O.append [up s[i]] _ (by show _ = #[Value.int .u8 _]; rw [← HU.out]; rfl) (by simp) (by simp; omega) rfl _ _ rfl out.length rfl rfl 1 rfl rfl ?_; intro g4 c4 w4 O4 hk4))
              go_roundw
              case rel => exact ⟨i + 1, some ⟨g4, 0, none⟩, c4, _, by omega, by simp, by go_num, O4, HN⟩
              case measure => simp [intOf]; omega
          · obtain ⟨hN, hj1, hj2⟩ := HR.out.mark Hl.out (by rw [HG.out]; exact hm)
            rw [len_at] at hN hj1 hj2
            obtain ⟨⟨m, j⟩, HJ⟩ : ∃ J, Hid (jt s.data.toList (s.size - i) i 45 = J) := ⟨_, rfl⟩
            rw [HJ.out] at hN hj1 hj2
            simp only at hN hj1 hj2
            have hcase : (dsh s[i] = true) ∨ (dsh s[i] = false ∧ ((s[i].toNat : Int) == 46) = true) := by
              rcases (mo_dsh _).1 hm with h | h
              · exact Or.inl h
              · cases hd : dsh s[i] with
                | true => exact Or.inl rfl
                | false => exact Or.inr ⟨rfl, by rw [h]; rfl⟩
            have HNN := hide hN
            clear hm hN
            rcases hcase with hd | ⟨hd, e46⟩
            all_goals
              have HD := hide hd
              clear hd
              by_cases hi0 : 0 < i
              · have hi0' : (0 : Int) < (i : Int) := by omega
                by_cases hj : j < s.size
                · have hj' : (j : Int) < (s.size : Int) := by omega
                  have HN : Hid (CR s.data.toList j (out ++ [m])) := by show CR _ _ _; have := HNN.out; rw [if_pos ⟨hi0, hj⟩] at this; exact this
                  go_wp2_with (first | (go_at_call 54; refine (dash_any s[i] _).mono ?_; rintro e wx ⟨rfl, hwx⟩; subst wx; rw [HD.out]) | (go_at_call 55; refine (joint_any s i _ (by omega) (by omega)).mono ?_; rintro e wx ⟨rfl, hwx⟩; subst wx; rw [HJ.out]) | (at_builtin; refine O.append [m] _ rfl (by simp) (by simp; omega) rfl _ _ rfl out.length rfl rfl 1 rfl rfl ?_; intro g4 c4 w4 O4 hk4))
                  go_roundw
                  case rel => exact ⟨j, some ⟨g4, 0, none⟩, c4, _, by omega, by simp, rfl, O4, HN⟩
                  case measure => simp [intOf]; omega
                · have hj' : ¬ (j : Int) < (s.size : Int) := by omega
                  have HN : Hid (CR s.data.toList j out) := by show CR _ _ _; have := HNN.out; rw [if_neg (fun hh => hj hh.2)] at this; exact this
                  go_wp2_with (first | (go_at_call 54; refine (dash_any s[i] _).mono ?_; rintro e wx ⟨rfl, hwx⟩; subst wx; rw [HD.out]) | (go_at_call 55; refine (joint_any s i _ (by omega) (by omega)).mono ?_; rintro e wx ⟨rfl, hwx⟩; subst wx; rw [HJ.out]))
                  go_roundw
                  case rel => exact ⟨j, ao, cap, out, by omega, rfl, rfl, O, HN⟩
                  case measure => simp [intOf]; omega
              · have hi0' : ¬ (0 : Int) < (i : Int) := by omega
                have HN : Hid (CR s.data.toList j out) := by show CR _ _ _; have := HNN.out; rw [if_neg (fun hh => hi0 hh.1)] at this; exact this
                go_wp2_with (first | (go_at_call 54; refine (dash_any s[i] _).mono ?_; rintro e wx ⟨rfl, hwx⟩; subst wx; rw [HD.out]) | (go_at_call 55; refine (joint_any s i _ (by omega) (by omega)).mono ?_; rintro e wx ⟨rfl, hwx⟩; subst wx; rw [HJ.out]))
                go_roundw
                case rel => exact ⟨j, ao, cap, out, by omega, rfl, rfl, O, HN⟩
                case measure => simp [intOf]; omega
        · obtain rfl : i = s.size := by omega
          have hend : out = (crun s.data.toList).1 := CR.ends (by rw [len_at]; exact HR.out)
          have HF : Hid (clE s.data.toList = ckE out) := by show _ = _; rw [HE2.out, ← hend]
          have HC2 : Hid (clS s.data.toList = if ckE out = 0 then out else []) := by show _ = _; unfold clS; rw [HF.out, ← hend]
          have htx := O.text out.length rfl
          have hb := O.below
          have HL : Hid ((bs out).size ≤ maxLen) := by show _ ≤ _; rw [bs_size]; unfold maxLen; omega
          obtain ⟨f, Hf⟩ : ∃ f : Int, Hid (ckE out = f) := ⟨_, rfl⟩
          rw [Hf.out] at HF HC2
          clear hend
          by_cases hf : f = 0
          · subst hf
            have HC3 : Hid (clS s.data.toList = out) := by show _ = _; rw [HC2.out, if_pos rfl]
            go_wp2_with (go_at_call 21; refine (refCheck_full (bs out) _ HL.out).mono ?_; rintro e w' ⟨rfl, rfl⟩; rw [bs_list, Hf.out])
            go_ret2
            exact ⟨by rw [HF.out, HC3.out]; rfl, hb⟩
          · have hf' : (f == 0) = false := by simpa using hf
            have hf2 : (f != 0) = true := by rw [bne, hf']; rfl
            have HC3 : Hid (clS s.data.toList = []) := by show _ = _; rw [HC2.out, if_neg hf]
            clear hf
            go_wp2_with (go_at_call 21; refine (refCheck_full (bs out) _ HL.out).mono ?_; rintro e w' ⟨rfl, rfl⟩; rw [bs_list, Hf.out])
            go_ret2
            exact ⟨by rw [HF.out, HC3.out]; rfl, hb⟩
end Go.Proofs.YtnlklhjmhienkaaGreatDoor.M
