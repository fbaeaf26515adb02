/- Gtin: its contract. -/
import Derived.Test.YtnlklhjmhienkaaGreatDoorAChk
import Derived.Deep.RegionWith
import Derived.Lib.Strings
namespace Go.Proofs.YtnlklhjmhienkaaGreatDoor.A
open Go.RowKit

/-- the text without its last byte; the last byte's number -/
def cutL (s : ByteArray) : ByteArray := s.extract 0 (s.size - 1)
def lastD (s : ByteArray) : Int := ((s.data.toList.getD (s.size - 1) 48).toNat : Int) - 48
def gtE (s : ByteArray) : Int := if nf s [8, 12, 13, 14] = 0 then (if chk (cutL s) = lastD s then 0 else 23) else nf s [8, 12, 13, 14]
def gtN (s : ByteArray) : Int := if gtE s = 0 then (s.size : Int) else 0

theorem nf_zero {s : ByteArray} (h : nf s [8, 12, 13, 14] = 0) : 8 ≤ s.size ∧ s.size ≤ 14 ∧ allDig s = true ∧ has [8, 12, 13, 14] (s.size : Int) = true := by
  unfold nf at h
  split at h
  · cases h
  · split at h
    · cases h
    · split at h
      · rename_i h1 h2 h3
        split at h
        · rename_i h4
          refine ⟨?_, ?_, h4, h3⟩
          · simp only [has, List.contains_iff_mem, List.mem_cons, List.not_mem_nil, or_false] at h3; omega
          · simp only [has, List.contains_iff_mem, List.mem_cons, List.not_mem_nil, or_false] at h3; omega
        · cases h
      · cases h
theorem cutL_list (s : ByteArray) : (cutL s).data.toList = s.data.toList.take (s.size - 1) := by
  unfold cutL; rw [Lib.extract_data]; simp
theorem cutL_size (s : ByteArray) : (cutL s).size = s.size - 1 := by
  unfold cutL; simp
theorem cutL_dig (s : ByteArray) (h : allDig s = true) : allDig (cutL s) = true := by
  unfold allDig at h ⊢
  rw [cutL_list, List.all_eq_true]
  intro x hx
  rw [List.all_eq_true] at h
  exact h x (List.mem_of_mem_take hx)
theorem lastD_at (s : ByteArray) (h : 0 < s.size) : lastD s = ((s[s.size - 1]'(by omega)).toNat : Int) - 48 := by
  unfold lastD
  rw [List.getD, List.getElem?_eq_getElem (by simp; omega)]; rfl
theorem ret_two {a b c d : Int} {k k' : IntKind} (h : a = b) (h' : c = d) : Ending.returned (.tuple #[.int k a, .int k' c]) = .returned (.tuple #[.int k b, .int k' d]) := by rw [h, h']

theorem wrap8 (x : Int) (h0 : 0 ≤ x) (h1 : x ≤ 255) : IntKind.u8.wrap x = x := by
  simp [IntKind.wrap, IntKind.bits, IntKind.signed]; omega
theorem wrap64' (x : Int) (h0 : 0 ≤ x) (h1 : x ≤ 255) : IntKind.i64.wrap x = x := by
  rw [IntKind.wrap_i64]; omega
theorem below_on {B : Nat} {a b c : World} (h : Below B a b) (hB : B ≤ a.heap.size) (k : Below b.heap.size b c) : Below B a c := h.trans (k.mono (Nat.le_trans hB h.size))

set_option maxRecDepth 100000 in
set_option maxHeartbeats 1600000 in
theorem gtin_any (s : ByteArray) (w : World) (hs : s.size ≤ maxLen) :
    Calls Tryz.prog 30 #[.string s] w fun e w' => e = .returned (.tuple #[.int .i64 (gtN s), .int .i64 (gtE s)]) ∧ Below w.heap.size w w' := by
  have HS := hide hs
  unfold maxLen at hs
  by_cases h0 : nf s [8, 12, 13, 14] = 0
  · obtain ⟨h8, h14, hd, -⟩ := nf_zero h0
    have H0 := hide h0
    have HD := hide hd
    have HL := hide (lastD_at s (by omega))
    have hdg := allDig_at s hd (s.size - 1) (by omega)
    have HC := hide (cutL_dig s hd)
    clear h0 hd
    obtain ⟨d, hdE⟩ : ∃ d : Int, ((s[s.size - 1]'(by omega)).toNat : Int) = d := ⟨_, rfl⟩
    rw [hdE] at hdg HL
    obtain ⟨x, HX⟩ : ∃ x : Int, Hid (chk (cutL s) = x) := ⟨_, rfl⟩
    have HK : Hid (∀ W : World, Calls Tryz.prog 57 #[.string (s.extract 0 (s.size - 1))] W fun e w' => e = .returned (.int .i64 x) ∧ Below W.heap.size W w') := fun W => by
      have h := checkDigit_any (cutL s) W (by rw [cutL_size]; omega) HC.out
      rw [HX.out] at h
      exact h
    have hA : (1 : Int) ≤ s.size := by omega
    have hw8 := wrap8 (d - 48) (by omega) (by omega)
    have hw64 := wrap64' (d - 48) (by omega) (by omega)
    have hz : ((s.size : Int) - 1).toNat = s.size - 1 := by omega
    by_cases hx : x = d - 48
    · have HE : Hid (gtE s = 0) := by show _ = _; unfold gtE; rw [if_pos H0.out, HX.out, HL.out, if_pos hx]
      have HN : Hid (gtN s = s.size) := by show _ = _; unfold gtN; rw [if_pos HE.out]
      clear HX HL HC HD
      subst hx
      go_enter Tryz.func30, Tryz.ntmps30
      go_wp2_with (go_at_call 56; refine (numberFault_any s 8 12 13 14 _ HS.out).mono ?_; rintro e w1 ⟨rfl, hb1⟩; rw [H0.out])
      go_region_with (go_at_call 57; refine (HK.out _).mono ?_; rintro e w2 ⟨rfl, hb2⟩)
      all_goals
        go_wp2
        go_ret2
        exact ⟨ret_two HN.out.symm HE.out.symm, below_on hb1 (Nat.le_refl _) ⟨hb2.os, hb2.tape, hb2.output, hb2.size, hb2.block⟩⟩
    · have hx' : (x == d - 48) = false := by simpa using hx
      have HE : Hid (gtE s = 23) := by show _ = _; unfold gtE; rw [if_pos H0.out, HX.out, HL.out, if_neg hx]
      have HN : Hid (gtN s = 0) := by show _ = _; unfold gtN; rw [HE.out]; rfl
      clear HX HL HC HD hx
      go_enter Tryz.func30, Tryz.ntmps30
      go_wp2_with (go_at_call 56; refine (numberFault_any s 8 12 13 14 _ HS.out).mono ?_; rintro e w1 ⟨rfl, hb1⟩; rw [H0.out])
      go_region_with (go_at_call 57; refine (HK.out _).mono ?_; rintro e w2 ⟨rfl, hb2⟩)
      all_goals
        go_wp2
        go_ret2
        exact ⟨ret_two HN.out.symm HE.out.symm, below_on hb1 (Nat.le_refl _) ⟨hb2.os, hb2.tape, hb2.output, hb2.size, hb2.block⟩⟩
  · obtain ⟨f, HF⟩ : ∃ f : Int, Hid (nf s [8, 12, 13, 14] = f) := ⟨_, rfl⟩
    have hf : (f == 0) = false := by rw [← HF.out]; simpa using h0
    have HE : Hid (gtE s = f) := by show _ = _; unfold gtE; rw [if_neg h0, HF.out]
    have HN : Hid (gtN s = 0) := by show _ = _; unfold gtN; rw [HE.out, if_neg (by simpa using hf)]
    clear h0
    go_enter Tryz.func30, Tryz.ntmps30
    go_wp2_with (go_at_call 56; refine (numberFault_any s 8 12 13 14 _ HS.out).mono ?_; rintro e w1 ⟨rfl, hb1⟩; rw [HF.out])
    go_ret2
    exact ⟨ret_two HN.out.symm HE.out.symm, hb1⟩
end Go.Proofs.YtnlklhjmhienkaaGreatDoor.A
