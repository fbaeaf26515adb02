/- Clean: its contract. -/
import Derived.Test.YtnlklhjmhienkaaGreatDoorMClean
namespace Go.Proofs.YtnlklhjmhienkaaGreatDoor.M
open Go.RowKit

theorem Own.iterAt {N : Nat} {w w' : World} {ao : Option Addr} {cap : Nat} {acc : List UInt8} (O : Own N (N + 1) w w' ao cap acc) (s : ByteArray) (p : Nat) : Own N (N + 1) w (w'.iterAt N s p) ao cap acc := by
  refine ⟨?_, Lib.below_iterAt O.below (Nat.le_refl _) s p, by rw [Lib.iterAt_size]; exact O.hB, O.hB0⟩
  refine ⟨O.own.1, ?_⟩
  rcases O.own.2 with h | ⟨g, cap2, cur, hv, hbg, hgg, r⟩
  · exact Or.inl h
  · exact Or.inr ⟨g, cap2, cur, hv, hbg, by rw [Lib.iterAt_other _ _ _ _ _ (by omega)]; exact hgg, r⟩

theorem crun_snoc (l : List UInt8) (c : UInt8) : crun (l ++ [c]) = cstep (crun l) c := by unfold crun; rw [List.foldl_append]; rfl
theorem crun_len_from (l : List UInt8) (st : List UInt8 × UInt8) : (l.foldl cstep st).1.length ≤ st.1.length + 2 * l.length := by
  induction l generalizing st with
  | nil => simp
  | cons c l ih =>
    rw [List.foldl_cons]
    have h := ih (cstep st c)
    have h2 : (cstep st c).1.length ≤ st.1.length + 2 := by
      unfold cstep
      split
      · simp
      · split <;> simp
    simp only [List.length_cons]
    omega
theorem crun_len (l : List UInt8) : (crun l).1.length ≤ 2 * l.length := by
  have := crun_len_from l ([], 0)
  unfold crun
  simpa using this
theorem ascii_snoc (l : List UInt8) (c : UInt8) (h : ascii l = true) (hc : c.toNat < 128) : ascii (l ++ [c]) = true := by
  unfold ascii at *; rw [List.all_append, h]; simp [hc]
theorem ascii_no (s : ByteArray) (k : Nat) (h : k < s.size) (hc : ¬ (s[k]).toNat < 128) : ascii s.data.toList = false := by
  unfold ascii; rw [List.all_eq_false]
  exact ⟨s[k], by show s.data[k] ∈ _; simp, by simpa using hc⟩

set_option maxRecDepth 100000 in
set_option maxHeartbeats 4000000 in
theorem clean_any (s : ByteArray) (w : World) (hs : s.size ≤ maxLen) :
    Calls Tryz.prog 25 #[.string s] w fun e w' => e = .returned (.tuple #[.string (bs (clS s.data.toList)), .int .i64 (clE s.data.toList)]) ∧ Below w.heap.size w w' := by
  unfold maxLen at hs
  by_cases h96 : 96 < s.size
  · have HE : Hid (clE s.data.toList = 21) := by show _ = _; unfold clE; rw [len_at, if_pos h96]
    have HC : Hid (clS s.data.toList = []) := by show _ = _; unfold clS; rw [HE.out]; rfl
    have h96' : (96 : Int) < s.size := by omega
    go_enter Tryz.func25, Tryz.ntmps25
    go_wp2
    go_ret2
    exact ⟨by rw [HE.out, HC.out]; rfl, Below.refl _ _⟩
  have h96' : ¬ (96 : Int) < s.size := by omega
  have HE : Hid (clE s.data.toList = if ascii s.data.toList = true then ckE (crun s.data.toList).1 else 22) := by show _ = _; unfold clE; rw [len_at, if_neg h96]
  go_enter Tryz.func25, Tryz.ntmps25
  go_wp2
  go_loopw [4, 5] (fun v u wr => ∃ (pos : Nat) (ao : Option Addr) (cap : Nat), pos ≤ s.size ∧ v = .slice ao (crun (s.data.toList.take pos)).1.length cap ∧ u = .int .u8 ((crun (s.data.toList.take pos)).2.toNat : Int) ∧ Own w.heap.size (w.heap.size + 1) w wr ao cap (crun (s.data.toList.take pos)).1 ∧ wr.heap[w.heap.size]? = some (.stringIter s pos) ∧ Hid (ascii (s.data.toList.take pos) = true)) (fun _ _ wr => s.size - wr.iterPos w.heap.size)
  case atStart =>
    refine ⟨0, none, 0, Nat.zero_le _, rfl, rfl, Own.nil ((Below.refl _ _).alloc (Nat.le_refl _) _) (by show w.heap.size + 1 ≤ (w.alloc _).heap.size; simp) (by omega), ?_, rfl⟩
    exact World.iter_heap w s 0
  case round =>
    obtain ⟨pos, ao, cap, hp, rfl, rfl, O, hit, HA⟩ := hrel
    obtain ⟨acc, hacc⟩ : ∃ acc, (crun (s.data.toList.take pos)).1 = acc := ⟨_, rfl⟩
    obtain ⟨wt, hwt⟩ : ∃ wt, (crun (s.data.toList.take pos)).2 = wt := ⟨_, rfl⟩
    have hal : acc.length ≤ 192 := by
      rw [← hacc]; have := crun_len (s.data.toList.take pos); have h2 := List.length_take_le pos s.data.toList; omega
    have HCR : Hid (crun (s.data.toList.take pos) = (acc, wt)) := by show _ = _; rw [← hacc, ← hwt]
    rw [hacc] at O ⊢
    rw [hwt]
    clear hacc hwt
    by_cases hlt : pos < s.size
    · have HT := hide (take_snocC s pos hlt)
      by_cases hc : (s[pos]).toNat < 128
      · have hnx : ∀ ty, (Instr.next (.pointer (some ⟨w.heap.size, 0, none⟩)) true ty).run Tryz.prog wr = _ := fun ty => Lib.run_next_ascii_at wr w.heap.size s pos ty hit hlt hc
        have O2 := O.iterAt s (pos + 1)
        have hit2 := Lib.iterAt_heap wr w.heap.size s pos (pos + 1) hit
        obtain ⟨c, hcE⟩ : ∃ c, s[pos] = c := ⟨_, rfl⟩
        have HAS : Hid (ascii (s.data.toList.take (pos + 1)) = true) := by show _ = _; rw [HT.out]; exact ascii_snoc _ _ HA.out hc
        have HCS : Hid (crun (s.data.toList.take (pos + 1)) = cstep (acc, wt) c) := by show _ = _; rw [HT.out, crun_snoc, HCR.out, hcE]
        rw [hcE] at hnx hc
        have hx128 : ¬ (128 : Int) ≤ (c.toNat : Int) := by omega
        have HC := hide hc
        clear hcE O HT hc
        by_cases hm : mo c = 0
        · have hm0 : (((mo c).toNat : Int) == 0) = true := by rw [hm]; rfl
          by_cases hb : wt ≠ 0 ∧ acc ≠ []
          · have HM : Hid (cstep (acc, wt) c = (acc ++ [wt] ++ [up c], 0)) := by show _ = _; unfold cstep; rw [if_neg (by simpa using hm), if_pos hb]
            have hw0 : ((wt.toNat : Int) == 0) = false := by
              have : ¬ (wt.toNat : Int) = ((0 : UInt8).toNat : Int) := fun h => hb.1 ((u8_eq_iff _ _).2 h)
              simpa using this
            have hw1 : ((wt.toNat : Int) != 0) = true := by rw [bne, hw0]; rfl
            have hl0 : 0 < acc.length := List.length_pos_iff.2 hb.2
            have hl0' : (0 : Int) < acc.length := by omega
            clear hm hb
            go_wp2_with (first | (go_at_call 51; refine (markOf_any c _).mono ?_; rintro e w' ⟨rfl, rfl⟩) | (at_builtin; refine O2.append [wt] _ rfl (by simp) (by simp; omega) rfl (.tmp 35) (.tmp 37) rfl acc.length rfl rfl 1 rfl rfl ?_; intro g3 c3 w3 O3 hk3) | (go_at_call 53; refine (capital_any c _ HC.out).mono ?_; rintro e w' ⟨rfl, rfl⟩) | (at_builtin; refine O3.append [up c] _ rfl (by simp) (by simp; omega) rfl (.tmp 39) (.tmp 42) rfl (acc.length + 1) (by simp) rfl 1 rfl rfl ?_; intro g4 c4 w4 O4 hk4))
            go_roundw
            case rel =>
              refine ⟨pos + 1, some ⟨g4, 0, none⟩, c4, by omega, ?_, ?_, ?_, ?_, HAS⟩
              · rw [HCS.out, HM.out]; simp
              · rw [HCS.out, HM.out]; rfl
              · rw [HCS.out, HM.out]; exact O4
              · rw [hk4 _ (by omega), hk3 _ (by omega)]; exact hit2
            case measure =>
              simp only [World.iterPos, hk4 _ (Nat.lt_succ_self _), hk3 _ (Nat.lt_succ_self _), hit2, hit]
              omega
          · have HM : Hid (cstep (acc, wt) c = (acc ++ [up c], 0)) := by show _ = _; unfold cstep; rw [if_neg (by simpa using hm), if_neg hb]
            by_cases hwz : wt = 0
            · subst hwz
              clear hm hb
              go_wp2_with (first | (go_at_call 51; refine (markOf_any c _).mono ?_; rintro e w' ⟨rfl, rfl⟩) | (go_at_call 53; refine (capital_any c _ HC.out).mono ?_; rintro e w' ⟨rfl, rfl⟩) | (at_builtin; refine O2.append [up c] _ rfl (by simp) (by simp; omega) rfl (.tmp 39) (.tmp 42) rfl acc.length rfl rfl 1 rfl rfl ?_; intro g4 c4 w4 O4 hk4))
              go_roundw
              case rel =>
                refine ⟨pos + 1, some ⟨g4, 0, none⟩, c4, by omega, ?_, ?_, ?_, ?_, HAS⟩
                · rw [HCS.out, HM.out]; simp
                · rw [HCS.out, HM.out]; rfl
                · rw [HCS.out, HM.out]; exact O4
                · rw [hk4 _ (by omega)]; exact hit2
              case measure =>
                simp only [World.iterPos, hk4 _ (Nat.lt_succ_self _), hit2, hit]
                omega
            · have haz : acc = [] := Classical.byContradiction fun h => hb ⟨hwz, h⟩
              subst haz
              have hw0 : ((wt.toNat : Int) == 0) = false := by
                have : ¬ (wt.toNat : Int) = ((0 : UInt8).toNat : Int) := fun h => hwz ((u8_eq_iff _ _).2 h)
                simpa using this
              have hw1 : ((wt.toNat : Int) != 0) = true := by rw [bne, hw0]; rfl
              clear hm hb hwz
              go_wp2_with (first | (go_at_call 51; refine (markOf_any c _).mono ?_; rintro e w' ⟨rfl, rfl⟩) | (go_at_call 53; refine (capital_any c _ HC.out).mono ?_; rintro e w' ⟨rfl, rfl⟩) | (at_builtin; refine O2.append [up c] _ rfl (by simp) (by simp) rfl (.tmp 39) (.tmp 42) rfl 0 rfl rfl 1 rfl rfl ?_; intro g4 c4 w4 O4 hk4))
              go_roundw
              case rel =>
                refine ⟨pos + 1, some ⟨g4, 0, none⟩, c4, by omega, ?_, ?_, ?_, ?_, HAS⟩
                · rw [HCS.out, HM.out]; simp
                · rw [HCS.out, HM.out]; rfl
                · rw [HCS.out, HM.out]; exact O4
                · rw [hk4 _ (by omega)]; exact hit2
              case measure =>
                simp only [World.iterPos, hk4 _ (Nat.lt_succ_self _), hit2, hit]
                omega
        · have HM : Hid (cstep (acc, wt) c = (acc, jm wt (mo c))) := by show _ = _; unfold cstep; rw [if_pos hm]
          have hm0 : (((mo c).toNat : Int) == 0) = false := by
            have : ¬ ((mo c).toNat : Int) = ((0 : UInt8).toNat : Int) := fun h => hm ((u8_eq_iff _ _).2 h)
            simpa using this
          clear hm
          go_wp2_with (first | (go_at_call 51; refine (markOf_any c _).mono ?_; rintro e w' ⟨rfl, rfl⟩) | (go_at_call 52; refine (joinMarks_any wt (mo c) _).mono ?_; rintro e w' ⟨rfl, rfl⟩))
          go_roundw
          case rel =>
            refine ⟨pos + 1, ao, cap, by omega, ?_, ?_, ?_, hit2, HAS⟩
            · rw [HCS.out, HM.out]
            · rw [HCS.out, HM.out]
            · rw [HCS.out, HM.out]; exact O2
          case measure =>
            simp only [World.iterPos, hit2, hit]
            omega
      · have hnx : ∀ ty, (Instr.next (.pointer (some ⟨w.heap.size, 0, none⟩)) true ty).run Tryz.prog wr = _ := fun ty => Lib.run_next_any_at wr w.heap.size s pos ty hit hlt
        have hdh := (decode_high s pos hlt (by omega)).1
        have HF : Hid (clE s.data.toList = 22) := by show _ = _; rw [HE.out, ascii_no s pos hlt hc]; rfl
        have HC2 : Hid (clS s.data.toList = []) := by show _ = _; unfold clS; rw [HF.out]; rfl
        have hb2 := Lib.below_iterAt O.below (k := w.heap.size) (Nat.le_refl _) s (pos + (Utf8.decode s pos).2)
        obtain ⟨r, hr⟩ : ∃ r : Nat, (Utf8.decode s pos).1 = r := ⟨_, rfl⟩
        rw [hr] at hdh hnx
        have hdh' : (128 : Int) ≤ r := by omega
        clear hc
        go_wp2
        go_ret2
        exact ⟨by rw [HF.out, HC2.out]; rfl, hb2⟩
    · have hnx : ∀ ty, (Instr.next (.pointer (some ⟨w.heap.size, 0, none⟩)) true ty).run Tryz.prog wr = _ := fun ty => Lib.run_next_end_at wr w.heap.size s pos ty hit hlt
      have ek : s.data.toList.take pos = s.data.toList := List.take_of_length_le (by rw [len_at]; omega)
      rw [ek] at HA HCR
      have HF : Hid (clE s.data.toList = ckE acc) := by show _ = _; rw [HE.out, if_pos HA.out, HCR.out]
      have HC2 : Hid (clS s.data.toList = if ckE acc = 0 then acc else []) := by show _ = _; unfold clS; rw [HF.out, HCR.out]
      have htx := O.text acc.length rfl
      have hb := O.below
      have HL : Hid ((bs acc).size ≤ maxLen) := by show _ ≤ _; rw [bs_size]; unfold maxLen; omega
      obtain ⟨f, Hf⟩ : ∃ f : Int, Hid (ckE acc = f) := ⟨_, rfl⟩
      rw [Hf.out] at HF HC2
      clear ek
      by_cases hf : f = 0
      · subst hf
        have HC3 : Hid (clS s.data.toList = acc) := by show _ = _; rw [HC2.out, if_pos rfl]
        go_wp2_with (go_at_call 20; refine (check_any (bs acc) _ HL.out).mono ?_; rintro e w' ⟨⟨p, rfl⟩, rfl⟩; rw [bs_list, Hf.out])
        go_ret2
        exact ⟨by rw [HF.out, HC3.out]; rfl, hb⟩
      · have hf' : (f == 0) = false := by simpa using hf
        have hf2 : (f != 0) = true := by rw [bne, hf']; rfl
        have HC3 : Hid (clS s.data.toList = []) := by show _ = _; rw [HC2.out, if_neg hf]
        clear hf
        go_wp2_with (go_at_call 20; refine (check_any (bs acc) _ HL.out).mono ?_; rintro e w' ⟨⟨p, rfl⟩, rfl⟩; rw [bs_list, Hf.out])
        go_ret2
        exact ⟨by rw [HF.out, HC3.out]; rfl, hb⟩
end Go.Proofs.YtnlklhjmhienkaaGreatDoor.M
