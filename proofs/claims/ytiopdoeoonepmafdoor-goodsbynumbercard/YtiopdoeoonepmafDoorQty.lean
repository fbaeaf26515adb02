/- PrintQty, ParseQty: their contracts. -/
import Derived.Test.YtiopdoeoonepmafDoorDig
import Derived.Test.YtiopdoeoonepmafDoorDec
import Derived.Test.YtiopdoeoonepmafDoorShf
import Derived.Lib.SmallJoins
import Derived.Lib.AtoiErrMem
namespace Go.Proofs.YtiopdoeoonepmafDoor
open Go.RowKit

def Tab (w : World) : Prop := Lib.TabIs Tryd.prog w "internal/strconv.uint64pow10" .u64 Lib.pow10Tab
theorem gTab : Tryd.prog.globalNamed "internal/strconv.uint64pow10" = some 3 := by kernel_rfl
theorem Tab.on {w w' : World} (h : Tab w) (hb : Below w.heap.size w w') : Tab w' := Joins.tab_stays gTab h hb (Nat.le_refl _)
theorem below_grow (w : World) (k : Nat) (os : Array Obj) : Below w.heap.size w (Sort.grow (w.drewN k) os) :=
  ⟨rfl, rfl, rfl, by show w.heap.size ≤ (w.heap ++ os).size; simp, fun i hi => by
    show ((w.drewN k).heap ++ os)[i]? = _
    rw [Array.getElem?_append_left (by show i < w.heap.size; omega)]
    rfl⟩
def str (l : List UInt8) : ByteArray := ⟨l.toArray⟩
theorem ret_two {a a' : Value} {b b' : Value} (h : a = a') (h' : b = b') : Ending.returned (.tuple #[a, b]) = .returned (.tuple #[a', b']) := by rw [h, h']

theorem isQty_yes (n : Int) (h1 : 1 ≤ n) (h2 : n ≤ 1000000) (w : World) : Calls Tryd.prog 22 #[.int .i64 n] w fun e w' => e = .returned (.bool true) ∧ w' = w := by
  go_enter Tryd.func22, Tryd.ntmps22
  go_wp2
  go_ret
  exact ⟨rfl, rfl⟩
theorem isQty_no (n : Int) (h : ¬ (1 ≤ n ∧ n ≤ 1000000)) (w : World) : Calls Tryd.prog 22 #[.int .i64 n] w fun e w' => e = .returned (.bool false) ∧ w' = w := by
  by_cases h1 : 1 ≤ n
  · have h2 : ¬ n ≤ 1000000 := fun h2 => h ⟨h1, h2⟩
    clear h
    go_enter Tryd.func22, Tryd.ntmps22
    go_wp2
    go_ret
    exact ⟨rfl, rfl⟩
  · clear h
    go_enter Tryd.func22, Tryd.ntmps22
    go_wp2
    go_ret
    exact ⟨rfl, rfl⟩

set_option maxHeartbeats 800000 in
theorem printQty_ok (u : Nat) (h1 : 1 ≤ u) (h2 : u ≤ 1000000) (w : World) (ht : Tab w) :
    Calls Tryd.prog 13 #[.int .i64 u] w fun e w' => e = .returned (.tuple #[.string (str (Lib.decDigits u)), .int .i64 0]) ∧ Below w.heap.size w w' := by
  have HT := hide ht
  clear ht
  have HI : Hid (∀ w : World, Tab w → Calls Tryd.prog 23 #[.int .i64 u] w fun e w' => e = .returned (.string (str (Lib.decDigits u))) ∧ Below w.heap.size w w') := fun w ht =>
    (Tryd.strconv_Itoa (u : Int) (by omega) (by omega) w ht).mono fun e w' ⟨he, k, os, hw⟩ => ⟨by rw [he, Lib.itoa_nonneg]; rfl, by rw [hw]; exact below_grow w k os⟩
  go_enter Tryd.func13, Tryd.ntmps13
  go_wp2_with (first | (go_at_call 22; refine (isQty_yes _ (by omega) (by omega) _).mono ?_; rintro e w1 ⟨rfl, rfl⟩) | (go_at_call 23; refine (HI.out _ HT.out).mono ?_; rintro e w1 ⟨rfl, hb1⟩))
  go_ret2
  exact ⟨rfl, hb1⟩
theorem printQty_bad (n : Int) (h : ¬ (1 ≤ n ∧ n ≤ 1000000)) (w : World) :
    Calls Tryd.prog 13 #[.int .i64 n] w fun e w' => e = .returned (.tuple #[.string ⟨#[]⟩, .int .i64 6]) ∧ w' = w := by
  have H := hide (isQty_no n h)
  clear h
  go_enter Tryd.func13, Tryd.ntmps13
  go_wp2_with (go_at_call 22; refine (H.out _).mono ?_; rintro e w1 ⟨rfl, rfl⟩)
  go_ret2
  exact ⟨rfl, rfl⟩

theorem allDig_mem (s : ByteArray) (h : allDig s = true) : ∀ b ∈ s.data.toList, 48 ≤ b.toNat ∧ b.toNat ≤ 57 := by
  unfold allDig at h
  rw [List.all_eq_true] at h
  intro b hb
  have := (dig_iff b).1 (h b hb)
  omega
theorem empty_yes (s : ByteArray) (h : s.size = 0) : s.toList.isEmpty = true := by
  rw [ByteArray.toList_eq, List.isEmpty_iff, ← List.length_eq_zero_iff]; simpa using h
theorem empty_no (s : ByteArray) (h : ¬ s.size = 0) : s.toList.isEmpty = false := by
  rw [ByteArray.toList_eq, List.isEmpty_eq_false_iff, ← List.length_pos_iff]; have : s.data.size = s.size := rfl; simp; omega
theorem below_bytes (w : World) (t : ByteArray) : Below w.heap.size w (Lib.bytesWorld w 5 t) := Lib.bytesWorld_below w 5 t

set_option maxHeartbeats 1600000 in
/-- what ParseQty answers where it refuses -/
theorem parse_bad (s : ByteArray) (hs : s.size ≤ maxLen) (w : World)
    (h : s.size = 0 ∨ 7 < s.size ∨ allDig s = false ∨ (∃ h0 : 0 < s.size, s[0].toNat = 48 ∧ 1 < s.size)) :
    Calls Tryd.prog 14 #[.string s] w fun e w' => (∃ f : Int, (f != 0) = true ∧ e = .returned (.tuple #[.int .i64 0, .int .i64 f])) ∧ w' = w := by
  have HS := hide hs
  unfold maxLen at hs
  by_cases h0 : s.size = 0
  · have he := empty_yes s h0
    clear h
    go_enter Tryd.func14, Tryd.ntmps14
    go_wp2
    go_ret2
    exact ⟨⟨20, rfl, rfl⟩, rfl⟩
  have he := empty_no s h0
  by_cases h7 : 7 < s.size
  · clear h
    go_enter Tryd.func14, Tryd.ntmps14
    go_wp2
    go_ret2
    exact ⟨⟨21, rfl, rfl⟩, rfl⟩
  cases hd : allDig s with
  | false =>
    have HD := hide hd
    clear h hd
    go_enter Tryd.func14, Tryd.ntmps14
    go_wp2_with (go_at_call 24; refine (allDigits_any s _ HS.out).mono ?_; rintro e w1 ⟨rfl, rfl⟩; rw [HD.out])
    go_ret2
    exact ⟨⟨22, rfl, rfl⟩, rfl⟩
  | true =>
    have HD := hide hd
    obtain ⟨hz, h48, h1⟩ : ∃ h0 : 0 < s.size, s[0].toNat = 48 ∧ 1 < s.size := by
      rcases h with h | h | h | h
      · exact absurd h h0
      · exact absurd h h7
      · rw [hd] at h; cases h
      · exact h
    clear h hd
    go_enter Tryd.func14, Tryd.ntmps14
    go_wp2_with (go_at_call 24; refine (allDigits_any s _ HS.out).mono ?_; rintro e w1 ⟨rfl, rfl⟩; rw [HD.out])
    go_ret2
    exact ⟨⟨22, rfl, rfl⟩, rfl⟩

theorem ret_of {a b : Value} (h : a = b) : Ending.returned a = .returned b := by rw [h]
def pqR (n : Nat) : Value := if 1 ≤ n ∧ n ≤ 1000000 then .tuple #[.int .i64 n, .int .i64 0] else .tuple #[.int .i64 0, .int .i64 6]
set_option maxHeartbeats 1600000 in
/-- .. and where the text is digits -/
theorem parse_num (s : ByteArray) (n : Nat) (w : World) (h0 : 0 < s.size) (h7 : s.size ≤ 7) (hd : allDig s = true) (hz : ¬ (s[0].toNat = 48 ∧ 1 < s.size)) (hn : Lib.decFrom 0 s.data.toList = some n) :
    Calls Tryd.prog 14 #[.string s] w fun e w' => e = .returned (pqR n) ∧ Below w.heap.size w w' := by
  have HS : Hid (s.size ≤ maxLen) := by show _ ≤ _; unfold maxLen; omega
  have he := empty_no s (by omega)
  have HD := hide hd
  have hne : s.data.toList ≠ [] := by intro e; have : s.data.toList.length = 0 := by rw [e]; rfl
                                      have e2 : s.data.toList.length = s.size := by simp
                                      omega
  have HA : Hid (∀ w : World, Calls Tryd.prog 25 #[.string s] w fun e w' => e = .returned (.tuple #[.int .i64 n, .nilIface]) ∧ Below w.heap.size w w') := fun w =>
    (Tryd.strconv_Atoi s n (by omega) (atoi_digits _ n hne (allDig_mem s hd) hn) w).mono fun e w' ⟨he, t, hw⟩ => ⟨he, by rw [hw]; exact below_bytes w t⟩
  clear hd hn hne
  by_cases hq : 1 ≤ n ∧ n ≤ 1000000
  · have HQ := hide (isQty_yes (n : Int) (by omega) (by omega))
    have HP : Hid (pqR n = .tuple #[.int .i64 n, .int .i64 0]) := by show _ = _; unfold pqR; rw [if_pos hq]
    by_cases h48 : s[0].toNat = 48
    · have h1 : ¬ 1 < s.size := fun h1 => hz ⟨h48, h1⟩
      clear hz
      go_enter Tryd.func14, Tryd.ntmps14
      go_wp2_with (first | (go_at_call 24; refine (allDigits_any s _ HS.out).mono ?_; rintro e w1 ⟨rfl, rfl⟩; rw [HD.out]) | (go_at_call 25; refine (HA.out _).mono ?_; rintro e w1 ⟨rfl, hb1⟩) | (go_at_call 22; refine (HQ.out _).mono ?_; rintro e w1 ⟨rfl, rfl⟩))
      go_ret2
      exact ⟨ret_of (HP.out).symm, hb1⟩
    · clear hz
      go_enter Tryd.func14, Tryd.ntmps14
      go_wp2_with (first | (go_at_call 24; refine (allDigits_any s _ HS.out).mono ?_; rintro e w1 ⟨rfl, rfl⟩; rw [HD.out]) | (go_at_call 25; refine (HA.out _).mono ?_; rintro e w1 ⟨rfl, hb1⟩) | (go_at_call 22; refine (HQ.out _).mono ?_; rintro e w1 ⟨rfl, rfl⟩))
      go_ret2
      exact ⟨ret_of (HP.out).symm, hb1⟩
  · have HQ := hide (isQty_no (n : Int) (by omega))
    have HP : Hid (pqR n = .tuple #[.int .i64 0, .int .i64 6]) := by show _ = _; unfold pqR; rw [if_neg hq]
    clear hq
    by_cases h48 : s[0].toNat = 48
    · have h1 : ¬ 1 < s.size := fun h1 => hz ⟨h48, h1⟩
      clear hz
      go_enter Tryd.func14, Tryd.ntmps14
      go_wp2_with (first | (go_at_call 24; refine (allDigits_any s _ HS.out).mono ?_; rintro e w1 ⟨rfl, rfl⟩; rw [HD.out]) | (go_at_call 25; refine (HA.out _).mono ?_; rintro e w1 ⟨rfl, hb1⟩) | (go_at_call 22; refine (HQ.out _).mono ?_; rintro e w1 ⟨rfl, rfl⟩))
      go_ret2
      exact ⟨ret_of (HP.out).symm, hb1⟩
    · clear hz
      go_enter Tryd.func14, Tryd.ntmps14
      go_wp2_with (first | (go_at_call 24; refine (allDigits_any s _ HS.out).mono ?_; rintro e w1 ⟨rfl, rfl⟩; rw [HD.out]) | (go_at_call 25; refine (HA.out _).mono ?_; rintro e w1 ⟨rfl, hb1⟩) | (go_at_call 22; refine (HQ.out _).mono ?_; rintro e w1 ⟨rfl, rfl⟩))
      go_ret2
      exact ⟨ret_of (HP.out).symm, hb1⟩
end Go.Proofs.YtiopdoeoonepmafDoor
