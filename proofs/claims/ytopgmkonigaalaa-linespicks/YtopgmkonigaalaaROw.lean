/- The reference's Own: its contract. -/
import Derived.Test.YtopgmkonigaalaaROf
import Derived.Test.YtopgmkonigaalaaOPl
namespace Go.Proofs.Ytopgmkonigaalaa
open Go.RowKit
attribute [local go_sem ↓] ld28_eq st28_eq
attribute [local go_sem] zero_EC cells_EV EC_size fold_EC

theorem owV_of (L : List En) (r : Int) (s : ByteArray) (h : isR r = true) : owV L r s = (ofV L s).filter (fun e => e.rep == r) := by
  unfold owV ofV
  rw [ow_of L r s h]
  split
  · rw [List.filter_filter]
  · rfl
set_option maxHeartbeats 1600000 in
theorem refOwn_any (ao : Option Addr) (n cap : Nat) (L : List En) (r : Int) (s : ByteArray) (w : World) (hS : ESrc w ao n cap L) (hs : s.size ≤ maxLen) :
    Calls Try.prog 14 #[.slice ao n cap, .int .i64 r, .string s] w fun x w' => GivesEE w w' x (owV L r s) (owE L r s) := by
  have HS := hide hS
  have HSs := hide hs
  clear hS hs
  go_enter Try.func14, Try.ntmps14
  go_wp2_with fail
  refine (refCheckL_any _ _ _ L _ HS.out).mono ?_
  rintro x w1 ⟨rfl, b1⟩
  have B1 := hide b1
  clear b1
  rcases chk_cases L with h | h
  · rw [h]
    obtain ⟨q, Hq⟩ : ∃ q, Hid (isR r = q) := ⟨_, rfl⟩
    cases q with
    | false =>
      have HE : Hid (owE L r s = 3) := by show _ = _; unfold owE; rw [if_pos h, Hq.out]; rfl
      have HV : Hid (owV L r s = []) := by show _ = _; unfold owV; rw [HE.out]; rfl
      clear h
      by_cases h0 : r < 0
      · go_wp2_with fail
        go_ret2
        rw [HE.out, HV.out]
        exact ⟨_, _, _, rfl, esrc_nil _, B1.out, fun ad h => by cases h⟩
      · have h1 : 16 ≤ r := by have := Hq.out; unfold isR at this; simp at this; omega
        go_wp2_with fail
        go_ret2
        rw [HE.out, HV.out]
        exact ⟨_, _, _, rfl, esrc_nil _, B1.out, fun ad h => by cases h⟩
    | true =>
      have hr := (isR_iff r).1 Hq.out
      have HE := hide (ow_of L r s Hq.out)
      have HV := hide (owV_of L r s Hq.out)
      clear h
      go_wp2_with fail
      refine (refOf_any _ _ _ L s _ (HS.out.below B1.out) HSs.out).mono ?_
      rintro x w2 ⟨a2, n2, c2, rfl, S2, b2, F2⟩
      have B2 := hide (B1.out.trans (b2.mono B1.out.size))
      have HN2 : Hid ((ofV L s).length = n2) := S2.1
      have hn2 := S2.2.2.2.2
      have S2' := hide S2
      obtain ⟨M, HM⟩ : ∃ M, Hid (ofV L s = M) := ⟨_, rfl⟩
      obtain ⟨er, Her⟩ : ∃ er, Hid (ofE L s = er) := ⟨_, rfl⟩
      rw [HM.out] at S2' HN2 HV
      rw [Her.out] at HE ⊢
      clear S2 b2 F2
      obtain ⟨p, Hp⟩ : ∃ p : En → Bool, Hid ((fun e : En => e.rep == r) = p) := ⟨_, rfl⟩
      rw [Hp.out] at HV
      go_wp2_with fail
      go_loopw [10, 11] (fun v i wr => ∃ (k : Nat) (ap : Option Addr) (c : Nat), k ≤ n2 ∧ v = .slice ap ((M.take k).filter p).length c ∧ i = .int .i64 k ∧ Hid (OwnE w2.heap.size w2.heap.size w2 wr ap c ((M.take k).filter p))) (fun _ i _ => n2 - (intOf i).toNat)
      case atStart => exact ⟨0, none, 0, Nat.zero_le _, rfl, rfl, OwnE.nil (Below.refl _ _) (Nat.le_refl _) (Nat.le_refl _)⟩
      case round =>
        obtain ⟨k, ap, c, hk, rfl, rfl, HO⟩ := hrel
        obtain ⟨acc, Hacc⟩ : ∃ acc, Hid ((M.take k).filter p = acc) := ⟨_, rfl⟩
        have hal : acc.length ≤ k := by
          rw [← Hacc.out]; have h1 := List.length_filter_le p (M.take k); have h2 := List.length_take_le k M; omega
        rw [Hacc.out] at HO ⊢
        by_cases hlt : k < n2
        · obtain ⟨ad, rfl, A0⟩ := (S2'.out.below HO.out.below).at k hlt
          have hld := run_ld28 A0
          obtain ⟨e, He⟩ : ∃ e, Hid (M.getD k en0 = e) := ⟨_, rfl⟩
          rw [He.out] at hld A0
          have HT := hide (take_snoc M k (by rw [HN2.out]; exact hlt))
          rw [He.out] at HT
          have x0 := A0.c0
          clear A0
          obtain ⟨q, Hq'⟩ : ∃ q, Hid (p e = q) := ⟨_, rfl⟩
          have hq : (e.rep == r) = q := by rw [← Hq'.out, ← Hp.out]
          cases q with
          | false =>
            have HN : Hid ((M.take (k + 1)).filter p = acc) := by show _ = _; rw [HT.out, List.filter_append, Hacc.out]; simp [Hq'.out]
            go_wp2_with fail
            go_roundw
            case rel => exact ⟨k + 1, ap, c, by omega, by rw [HN.out], by go_num, by rw [HN.out]; exact HO⟩
            case measure => simp [intOf]; omega
          | true =>
            have HN : Hid ((M.take (k + 1)).filter p = acc ++ [e]) := by show _ = _; rw [HT.out, List.filter_append, Hacc.out]; simp [Hq'.out]
            have O2 := HO.out
            go_wp2_with (at_builtin; refine O2.append e _ rfl (by omega) rfl (.tmp 41) (.tmp 46) rfl acc.length rfl rfl rfl ?_; intro g4 c4 w4 O4 hk4)
            go_roundw
            case rel => exact ⟨k + 1, some ⟨g4, 0, none⟩, c4, by omega, by rw [HN.out]; simp, by go_num, by rw [HN.out]; exact O4⟩
            case measure => simp [intOf]; omega
        · obtain rfl : k = n2 := by omega
          have HF : Hid (M.filter p = acc) := by show _ = _; rw [← Hacc.out, List.take_of_length_le (by rw [HN2.out]; exact Nat.le_refl _)]
          have hsk : ∀ e ∈ acc, e.sku.size ≤ maxLen := by
            intro e he; rw [← HF.out] at he; exact S2'.out.2.2.2.1 e (List.mem_filter.1 he).1
          obtain ⟨S1, F1⟩ := HO.out.src hsk (by omega)
          have HS1 := hide S1
          have HF1 := hide F1
          clear S1 F1 hsk
          go_wp2_with fail
          go_ret2
          rw [HE.out, HV.out, HF.out]
          exact ⟨_, _, _, rfl, HS1.out, B2.out.trans (HO.out.below.mono B2.out.size), fun ad h => Nat.le_trans B2.out.size (HF1.out ad h)⟩
  · have HE : Hid (owE L r s = 1) := by show _ = _; unfold owE; rw [h]; rfl
    have HV : Hid (owV L r s = []) := by show _ = _; unfold owV; rw [HE.out]; rfl
    rw [h]
    clear h
    go_wp2_with fail
    go_ret2
    rw [HE.out, HV.out]
    exact ⟨_, _, _, rfl, esrc_nil _, B1.out, fun ad h => by cases h⟩
end Go.Proofs.Ytopgmkonigaalaa
