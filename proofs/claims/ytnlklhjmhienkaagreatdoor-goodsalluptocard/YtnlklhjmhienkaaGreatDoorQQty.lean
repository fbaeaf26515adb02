/- PrintQty, ParseQty: their contracts. -/
import Derived.Test.YtnlklhjmhienkaaGreatDoorQPri
import Derived.Test.YtnlklhjmhienkaaGreatDoorShf
import Derived.Lib.SmallJoins
import Derived.Lib.AtoiErrMem
namespace Go.Proofs.YtnlklhjmhienkaaGreatDoor.Q
open Go.RowKit

def Tab (w : World) : Prop := Lib.TabIs Tryz.prog w "internal/strconv.uint64pow10" .u64 Lib.pow10Tab
theorem gTab : Tryz.prog.globalNamed "internal/strconv.uint64pow10" = some 5 := by kernel_rfl
theorem Tab.on {w w' : World} (h : Tab w) (hb : Below w.heap.size w w') : Tab w' := Joins.tab_stays gTab h hb (Nat.le_refl _)
theorem below_grow (w : World) (k : Nat) (os : Array Obj) : Below w.heap.size w (Sort.grow (w.drewN k) os) :=
  ⟨rfl, rfl, rfl, by show w.heap.size ≤ (w.heap ++ os).size; simp, fun i hi => by
    show ((w.drewN k).heap ++ os)[i]? = _
    rw [Array.getElem?_append_left (by show i < w.heap.size; omega)]
    rfl⟩
set_option maxHeartbeats 800000 in
theorem print_any (n : Int) (w : World) (ht : Tab w) :
    Calls Tryz.prog 42 #[.int .i64 n] w fun e w' => e = .returned (.tuple #[.string (prS n), .int .i64 (prE n)]) ∧ Below w.heap.size w w' := by
  by_cases hq : 1 ≤ n ∧ n ≤ 1000000
  · have HQ : Hid (qty n = true) := (qty_iff n).2 hq
    have HE : Hid (prE n = 0) := by show _ = _; unfold prE; rw [if_pos hq]
    have HP : Hid (prS n = bs (Lib.decDigits n.toNat)) := by show _ = _; unfold prS; rw [if_pos hq]
    have HT := hide ht
    have HI : Hid (∀ w : World, Tab w → Calls Tryz.prog 69 #[.int .i64 n] w fun e w' => e = .returned (.string (bs (Lib.decDigits n.toNat))) ∧ Below w.heap.size w w') := fun w ht => by
      obtain ⟨u, rfl⟩ : ∃ u : Nat, n = (u : Int) := ⟨n.toNat, by omega⟩
      exact (Tryz.strconv_Itoa (u : Int) (by omega) (by omega) w ht).mono fun e w' ⟨he, k, os, hw⟩ => ⟨by rw [he, Lib.itoa_nonneg]; rfl, by rw [hw]; exact below_grow w k os⟩
    clear ht hq
    go_enter Tryz.func42, Tryz.ntmps42
    go_wp2_with (first | (go_at_call 68; refine (isQty_any _ _).mono ?_; rintro e w1 ⟨rfl, h1⟩; subst w1; rw [HQ.out]) | (go_at_call 69; refine (HI.out _ HT.out).mono ?_; rintro e w1 ⟨rfl, hb1⟩))
    go_ret2
    exact ⟨by rw [HE.out, HP.out]; rfl, hb1⟩
  · have HQ : Hid (qty n = false) := by show _ = _; rw [Bool.eq_false_iff]; exact fun h => hq ((qty_iff n).1 h)
    have HE : Hid (prE n = 6) := by show _ = _; unfold prE; rw [if_neg hq]
    have HP : Hid (prS n = ⟨#[]⟩) := by show _ = _; unfold prS; rw [if_neg hq]
    clear ht hq
    go_enter Tryz.func42, Tryz.ntmps42
    go_wp2_with (go_at_call 68; refine (isQty_any _ _).mono ?_; rintro e w1 ⟨rfl, h1⟩; subst w1; rw [HQ.out])
    go_ret2
    exact ⟨by rw [HE.out, HP.out]; rfl, Below.refl _ _⟩
theorem allDig_mem (s : ByteArray) (h : allDig s = true) : ∀ b ∈ s.data.toList, 48 ≤ b.toNat ∧ b.toNat ≤ 57 := by
  unfold allDig at h
  rw [List.all_eq_true] at h
  intro b hb
  have := (dig_iff b).1 (h b hb)
  omega
theorem below_bytes (w : World) (t : ByteArray) : Below w.heap.size w (Lib.bytesWorld w 5 t) := Lib.bytesWorld_below w 5 t
set_option maxHeartbeats 1600000 in
theorem parse_any (s : ByteArray) (w : World) (hs : s.size ≤ maxLen) : Calls Tryz.prog 40 #[.string s] w fun e w' => e = .returned (.tuple #[.int .i64 (pqN s), .int .i64 (pqE s)]) ∧ Below w.heap.size w w' := by
  have HS := hide hs
  unfold maxLen at hs
  by_cases h0 : s.size = 0
  · have he := empty_yes s h0
    have HE : Hid (pqE s = 20) := by show _ = _; unfold pqE; rw [if_pos h0]
    have HN : Hid (pqN s = 0) := by show _ = _; unfold pqN; rw [HE.out]; rfl
    go_enter Tryz.func40, Tryz.ntmps40
    go_wp2
    go_ret2
    exact ⟨ret_two HN.out.symm HE.out.symm, Below.refl _ _⟩
  have he := empty_no s h0
  by_cases h7 : 7 < s.size
  · have HE : Hid (pqE s = 21) := by show _ = _; unfold pqE; rw [if_neg h0, if_pos h7]
    have HN : Hid (pqN s = 0) := by show _ = _; unfold pqN; rw [HE.out]; rfl
    go_enter Tryz.func40, Tryz.ntmps40
    go_wp2
    go_ret2
    exact ⟨ret_two HN.out.symm HE.out.symm, Below.refl _ _⟩
  have hz : 0 < s.size := by omega
  have HG := hide (getD_at s 0 hz)
  cases hd : allDig s with
  | false =>
    have HE : Hid (pqE s = 22) := by show _ = _; unfold pqE; rw [if_neg h0, if_neg h7, if_neg (by rw [hd]; simp)]
    have HN : Hid (pqN s = 0) := by show _ = _; unfold pqN; rw [HE.out]; rfl
    have HD := hide hd
    clear hd
    go_enter Tryz.func40, Tryz.ntmps40
    go_wp2_with (go_at_call 66; refine (allDigits_any s _ HS.out).mono ?_; rintro e w1 ⟨rfl, h1⟩; subst w1; rw [HD.out])
    go_ret2
    exact ⟨ret_two HN.out.symm HE.out.symm, Below.refl _ _⟩
  | true =>
    have HD := hide hd
    by_cases h48 : s[0].toNat = 48 ∧ 1 < s.size
    · have HE : Hid (pqE s = 22) := by show _ = _; unfold pqE; rw [if_neg h0, if_neg h7, if_neg (by rw [HG.out]; exact fun hh => hh.2 h48)]
      have HN : Hid (pqN s = 0) := by show _ = _; unfold pqN; rw [HE.out]; rfl
      obtain ⟨e48, h1⟩ := h48
      clear hd
      go_enter Tryz.func40, Tryz.ntmps40
      go_wp2_with (go_at_call 66; refine (allDigits_any s _ HS.out).mono ?_; rintro e w1 ⟨rfl, h1⟩; subst w1; rw [HD.out])
      go_ret2
      exact ⟨ret_two HN.out.symm HE.out.symm, Below.refl _ _⟩
    · have HE : Hid (pqE s = if 1 ≤ dvl s.data.toList ∧ dvl s.data.toList ≤ 1000000 then 0 else 6) := by show _ = _; unfold pqE; rw [if_neg h0, if_neg h7, if_pos ⟨hd, by rw [HG.out]; exact h48⟩]
      have hne : s.data.toList ≠ [] := by
        intro e
        have e1 : s.data.toList.length = 0 := by rw [e]; rfl
        have e2 : s.data.toList.length = s.size := by simp
        omega
      have HA : Hid (∀ w : World, Calls Tryz.prog 67 #[.string s] w fun e w' => e = .returned (.tuple #[.int .i64 (dvl s.data.toList : Int), .nilIface]) ∧ Below w.heap.size w w') := fun w =>
        (Tryz.strconv_Atoi s (dvl s.data.toList : Int) (by omega) (atoi_digits _ _ hne (allDig_mem s hd) (dvl_dec s.data.toList 0 hd)) w).mono fun e w' ⟨he, t, hw⟩ => ⟨he, by rw [hw]; exact below_bytes w t⟩
      obtain ⟨D, hD⟩ : ∃ D, dvl s.data.toList = D := ⟨_, rfl⟩
      have HN : Hid (pqN s = if pqE s = 0 then (D : Int) else 0) := by show _ = _; unfold pqN; rw [hD]
      rw [hD] at HE HA
      obtain ⟨x, Hx⟩ : ∃ x, Hid (qty (D : Int) = x) := ⟨_, rfl⟩
      have hcase : (s[0].toNat = 48 ∧ ¬ 1 < s.size) ∨ ¬ s[0].toNat = 48 := by
        by_cases h : s[0].toNat = 48
        · exact Or.inl ⟨h, fun hh => h48 ⟨h, hh⟩⟩
        · exact Or.inr h
      clear hd h48 hD hne
      have HF : Hid (pqN s = (if x = true then (D : Int) else 0) ∧ pqE s = (if x = true then 0 else 6)) := by
        show _ ∧ _
        by_cases h1 : 1 ≤ D ∧ D ≤ 1000000
        · have : x = true := by rw [← Hx.out]; exact (qty_iff _).2 (by omega)
          subst this
          have e0 : pqE s = 0 := by rw [HE.out, if_pos h1]
          exact ⟨by rw [HN.out, e0]; rfl, by rw [e0]; rfl⟩
        · have : x = false := by rw [← Hx.out, Bool.eq_false_iff]; exact fun h => h1 (by have := (qty_iff _).1 h; omega)
          subst this
          have e0 : pqE s = 6 := by rw [HE.out, if_neg h1]
          exact ⟨by rw [HN.out, e0]; rfl, by rw [e0]; rfl⟩
      clear HN HE
      cases x
      all_goals
        rcases hcase with ⟨h48, h1⟩ | h48
        all_goals
          go_enter Tryz.func40, Tryz.ntmps40
          go_wp2_with (first | (go_at_call 66; refine (allDigits_any s _ HS.out).mono ?_; rintro e w1 ⟨rfl, h1⟩; subst w1; rw [HD.out]) | (go_at_call 67; refine (HA.out _).mono ?_; rintro e w1 ⟨rfl, hb1⟩) | (go_at_call 68; refine (isQty_any _ _).mono ?_; rintro e w3 ⟨rfl, h3⟩; subst w3; rw [Hx.out]))
          go_ret2
          exact ⟨ret_two HF.out.1.symm HF.out.2.symm, hb1⟩
end Go.Proofs.YtnlklhjmhienkaaGreatDoor.Q
