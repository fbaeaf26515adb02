/- unquote, skuOf. -/
import Derived.Test.YtpnnlfhknnnfhaaGreatDoorKUq
namespace Go.Proofs.YtpnnlfhknnnfhaaGreatDoor
open Go.RowKit T Y V
variable {w w' w2 : World} {g : Nat}

set_option maxRecDepth 100000 in
set_option maxHeartbeats 3200000 in
theorem unquote_any (l : List UInt8) (hl : l.length ≤ 1000000000000) (w : World) : Calls Tryz.prog 54 #[.string (bs l)] w fun e w' => e = .returned (.tuple #[.string (bs ((unq l).getD [])), .bool (unq l).isSome]) ∧ Below w.heap.size w w' := by
  go_enter Tryz.func54, Tryz.ntmps54
  go_wp2
  go_loopw [0, 4] (fun v t wr => ∃ (bo : Option Addr) (n c : Nat) (Z R : List UInt8), t = .slice bo n c ∧ v = .string (bs R) ∧ n + R.length ≤ l.length ∧ Hid (BR wr bo n c (nI Z)) ∧ Hid (unq l = (unq R).map (Z ++ ·)) ∧ Hid (Below w.heap.size w wr) ∧ Hid (∀ k, blk bo = some k → w.heap.size ≤ k)) (fun v _ _ => szOf v)
  case atStart => exact ⟨none, 0, 0, [], l, rfl, rfl, by omega, BR.nil _, (by show _ = _; simp), Below.refl _ _, (fun k hk => by cases hk)⟩
  case round =>
    obtain ⟨bo, n, c, Z, R, rfl, rfl, hn, HR, HC, HB, HF⟩ := hrel
    cases R with
    | nil =>
      have he : (bs ([] : List UInt8)).toList.isEmpty = true := empty_yes _ (by rw [bs_size]; rfl)
      have HE : Hid (unq l = some Z) := by show _ = _; rw [HC.out]; simp [unq]
      have hcv := run_str HR.out
      rw [str_nI] at hcv
      clear HC
      go_wp2
      go_ret2
      exact ⟨ret_sb (by rw [HE.out]; rfl) (by rw [HE.out]; rfl), HB.out⟩
    | cons x t =>
      have he : (bs (x :: t)).toList.isEmpty = false := empty_no _ (by rw [bs_size]; simp)
      have ht : t.length + 1 + n ≤ 1000000000000 := by simp only [List.length_cons] at hn; omega
      have hfb := fbP_unq x t
      have HW := hide (fun w => firstByte_any x t (by omega) w)
      obtain ⟨y, q, hyq⟩ : ∃ y q, fbP (x :: t) = (y, q) := ⟨_, _, rfl⟩
      rw [hyq] at hfb HW
      simp only at hfb HW
      clear hyq
      rcases hfb with ⟨hq0, hu⟩ | ⟨hq0, hq1, hu⟩
      · have HE : Hid (unq l = none) := by show _ = _; rw [HC.out, hu]; rfl
        rw [hq0] at HW
        clear HC hu hq0
        go_wp2_with (go_at_call 64; refine (HW.out _).mono ?_; rintro e w2 ⟨rfl, b2⟩)
        go_ret2
        exact ⟨ret_sb (by rw [HE.out]; rfl) (by rw [HE.out]; rfl), HB.out.trans (b2.mono HB.out.size)⟩
      · have hE : unq l = (unq ((x :: t).drop q)).map ((Z ++ [y]) ++ ·) := by
          rw [HC.out, hu, Option.map_map]
          congr 1
          funext z
          simp
        have HE := hide hE
        have hx2 : (bs (x :: t)).extract q (bs (x :: t)).size = bs ((x :: t).drop q) := by rw [bs_cut, bs_size, List.take_length]
        have hsz : (bs (x :: t)).size = t.length + 1 := by rw [bs_size]; rfl
        have Hlen : Hid (n + 1 + ((x :: t).drop q).length ≤ l.length) := by show _ ≤ _; rw [List.length_drop]; simp only [List.length_cons] at hn ⊢; omega
        have Hms : Hid (((x :: t).drop q).length < (x :: t).length) := by show _ < _; rw [List.length_drop]; simp only [List.length_cons]; omega
        obtain ⟨s, hs⟩ : ∃ s, bs (x :: t) = s := ⟨_, rfl⟩
        have Hss : Hid (s.size = (x :: t).length) := by show _ = _; rw [← hs, bs_size]
        obtain ⟨D1, hD1⟩ : ∃ D1, (x :: t).drop q = D1 := ⟨_, rfl⟩
        rw [hD1] at hx2 HE Hlen Hms
        rw [hs] at he hx2 hsz HW ⊢
        have hqz : ((q : Int) == 0) = false := by rw [beq_eq_false_iff_ne]; omega
        have hqs : q ≤ s.size := by omega
        have hqI : (q : Int) ≤ s.size := by omega
        have hsb : s.size ≤ 1000000000001 := by omega
        clear HC hE hs hD1 hsz hq1 hu
        go_wp2_with (first | (go_at_call 64; refine (HW.out _).mono ?_; rintro e w2 ⟨rfl, b2⟩; have HR2 : Hid (BR w2 bo n c (nI Z)) := HR.out.keep (fun k e => b2.block k (HR.out.lt k e)); have HB2 := hide (HB.out.trans (b2.mono HB.out.size))) | (at_builtin; refine HR2.out.app1 (y.toNat : Int) (by omega) rfl (.tmp 16) (.tmp 18) rfl rfl rfl ?_; intro b3 q3 w3 R3 A3; have HB3 := hide (below_ap HB2.out HB2.out.size A3 HF.out); have HF3 := hide (fresh_step A3 HB2.out.size HF.out); have HR3 := hide R3; clear R3 A3))
        go_roundw
        case rel => exact ⟨b3, n + 1, q3, Z ++ [y], D1, rfl, rfl, Hlen.out, by show BR _ _ _ _ _; rw [nI_app]; exact HR3.out, HE, HB3, HF3⟩
        case measure => simp only [szOf]; rw [bs_size, Hss.out]; exact Hms.out
set_option maxRecDepth 100000 in
set_option maxHeartbeats 3200000 in
theorem skuOf_any (l : List UInt8) (hl : l.length ≤ 1000000000000) (w : World) : Calls Tryz.prog 40 #[.string (bs l)] w fun e w' => e = .returned (.tuple #[.string (bs ((skuOf l).getD [])), .bool (skuOf l).isSome]) ∧ Below w.heap.size w w' := by
  obtain ⟨s, hs⟩ : ∃ s, bs l = s := ⟨_, rfl⟩
  have hsz : s.size = l.length := by rw [← hs, bs_size]
  have HG := hide (fun w => good_any (bs l) w (by rw [bs_size]; unfold maxLen; omega))
  rw [bs_list, hs] at HG
  have hget : ∀ k (h : k < s.size), s[k] = l.getD k 0 := by subst hs; exact bs_get _
  cases hg : good l with
  | true =>
    rw [hg] at HG
    have HF : Hid (skuOf l = some l) := by show _ = _; unfold skuOf; rw [if_pos hg]
    have HS := hide hs
    rw [hs]
    clear hs hg hget
    go_enter Tryz.func40, Tryz.ntmps40
    go_wp2_with (go_at_call 45; refine (HG.out _).mono ?_; rintro e w1 ⟨rfl, h1⟩; subst w1)
    go_ret2
    exact ⟨ret_sb (by rw [HF.out]; exact HS.out.symm) (by rw [HF.out]; rfl), Below.refl _ _⟩
  | false =>
    rw [hg] at HG
    have hsk : skuOf l = if 2 ≤ l.length ∧ l.getD 0 0 = 34 ∧ l.getD (l.length - 1) 0 = 34 then unq ((l.take (l.length - 1)).drop 1) else none := by unfold skuOf; rw [if_neg (by rw [hg]; simp)]
    have HU := hide (fun w => unquote_any ((l.take (l.length - 1)).drop 1) (by rw [List.length_drop, List.length_take]; omega) w)
    have hx : s.extract 1 (s.size - 1) = bs ((l.take (l.length - 1)).drop 1) := by rw [hsz, ← hs, bs_cut]
    rw [hs]
    clear hs hg
    have hsb : s.size ≤ 1000000000000 := by omega
    by_cases h2 : s.size < 2
    · have hlast : (s.size : Int) - 1 < 1 := by omega
      have HF : Hid (skuOf l = none) := by show _ = _; rw [hsk, if_neg (by omega)]
      clear hsk hget hsz hx HU h2
      go_enter Tryz.func40, Tryz.ntmps40
      go_wp2_with (go_at_call 45; refine (HG.out _).mono ?_; rintro e w1 ⟨rfl, h1⟩; subst w1)
      go_ret2
      exact ⟨ret_sb (by rw [HF.out]; rfl) (by rw [HF.out]; rfl), Below.refl _ _⟩
    · obtain ⟨m, hm⟩ : ∃ m, s.size - 1 = m := ⟨_, rfl⟩
      have hml : l.length - 1 = m := by omega
      have hmI : (s.size : Int) - 1 = (m : Int) := by omega
      have hm1 : ¬ (m : Int) < 1 := by omega
      have h0s : 0 < s.size := by omega
      have h0I : (0 : Int) < s.size := by omega
      have hms : m < s.size := by omega
      have hmsI : (m : Int) < s.size := by omega
      have hmle : m ≤ s.size := by omega
      have h1m : 1 ≤ m := by omega
      have h1mI : (1 : Int) ≤ m := by omega
      rw [hm] at hx
      rw [hml] at hsk HU hx
      rw [← hget 0 h0s, ← hget m hms] at hsk
      by_cases h34 : s[0] = 34
      · have e0 : ((s[0].toNat : Int) == 34) = true := eq_beq (n := 34) (by decide) h34
        have f0 : ((s[0].toNat : Int) != 34) = false := by rw [bne, e0]; rfl
        by_cases hL : s[m] = 34
        · have e1 : ((s[m].toNat : Int) == 34) = true := eq_beq (n := 34) (by decide) hL
          have f1 : ((s[m].toNat : Int) != 34) = false := by rw [bne, e1]; rfl
          have HF : Hid (skuOf l = unq ((l.take m).drop 1)) := by show _ = _; rw [hsk, if_pos ⟨by omega, h34, hL⟩]
          obtain ⟨D, hD⟩ : ∃ D, (l.take m).drop 1 = D := ⟨_, rfl⟩
          rw [hD] at HF hx HU
          clear hsk hget hsz h2 h34 hL hD hml
          go_enter Tryz.func40, Tryz.ntmps40
          go_wp2_with (first | (go_at_call 45; refine (HG.out _).mono ?_; rintro e w1 ⟨rfl, h1⟩; subst w1) | (go_at_call 54; (try rw [hx]); refine (HU.out _).mono ?_; rintro e w2 ⟨rfl, b2⟩))
          go_ret2
          exact ⟨ret_sb (by rw [HF.out]) (by rw [HF.out]), b2⟩
        · have e1 : ((s[m].toNat : Int) == 34) = false := ne_beq (n := 34) (by decide) hL
          have f1 : ((s[m].toNat : Int) != 34) = true := by rw [bne, e1]; rfl
          have HF : Hid (skuOf l = none) := by show _ = _; rw [hsk, if_neg (fun h => hL h.2.2)]
          clear hsk hget hsz h2 h34 hL HU hx hml
          go_enter Tryz.func40, Tryz.ntmps40
          go_wp2_with (go_at_call 45; refine (HG.out _).mono ?_; rintro e w1 ⟨rfl, h1⟩; subst w1)
          go_ret2
          exact ⟨ret_sb (by rw [HF.out]; rfl) (by rw [HF.out]; rfl), Below.refl _ _⟩
      · have e0 : ((s[0].toNat : Int) == 34) = false := ne_beq (n := 34) (by decide) h34
        have f0 : ((s[0].toNat : Int) != 34) = true := by rw [bne, e0]; rfl
        have HF : Hid (skuOf l = none) := by show _ = _; rw [hsk, if_neg (fun h => h34 h.2.1)]
        clear hsk hget hsz h2 h34 HU hx hml
        go_enter Tryz.func40, Tryz.ntmps40
        go_wp2_with (go_at_call 45; refine (HG.out _).mono ?_; rintro e w1 ⟨rfl, h1⟩; subst w1)
        go_ret2
        exact ⟨ret_sb (by rw [HF.out]; rfl) (by rw [HF.out]; rfl), Below.refl _ _⟩
end Go.Proofs.YtpnnlfhknnnfhaaGreatDoor
