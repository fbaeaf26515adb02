/- The small callees of Compare: their contracts. -/
import Derived.Test.YtllogonbickmcaaDoorRows
import Derived.Test.YtllogonbickmcaaDoorCOrd
import Derived.WalkKit
import Derived.WalkSpells
import Derived.Deep.QuietTactic
import Derived.BigQuiet
import Derived.Lib.Strings
import Derived.Lib.Bytealg
import Derived.Lib.Walk
namespace Go.Proofs.YtllogonbickmcaaDoor
open Go.RowKit

theorem hide {p : Prop} (h : p) : Hid p := h
theorem ret_bool {a b : Bool} (h : a = b) : Ending.returned (.bool a) = .returned (.bool b) := by rw [h]
theorem ret_int {k : IntKind} {a b : Int} (h : a = b) : Ending.returned (.int k a) = .returned (.int k b) := by rw [h]
theorem ret_str {a b : ByteArray} (h : a = b) : Ending.returned (.string a) = .returned (.string b) := by rw [h]
def dig (c : UInt8) : Bool := decide (48 ≤ (c.toNat : Int)) && decide ((c.toNat : Int) ≤ 57)
theorem dig_iff (c : UInt8) : dig c = true ↔ 48 ≤ (c.toNat : Int) ∧ (c.toNat : Int) ≤ 57 := by simp [dig]

theorem isDigit_any (c : UInt8) (w : World) : Calls Tryd.prog 30 #[.int .u8 (c.toNat : Int)] w fun e w' => e = .returned (.bool (dig c)) ∧ w' = w := by
  by_cases h : 48 ≤ (c.toNat : Int)
  · have HM : Hid (decide ((c.toNat : Int) ≤ 57) = dig c) := by show _ = _; unfold dig; rw [decide_eq_true h, Bool.true_and]
    go_enter Tryd.func30, Tryd.ntmps30
    go_wp2
    go_ret
    exact ⟨ret_bool HM.out, rfl⟩
  · have HM : Hid (false = dig c) := by show _ = _; unfold dig; rw [decide_eq_false h, Bool.false_and]
    go_enter Tryd.func30, Tryd.ntmps30
    go_wp2
    go_ret
    exact ⟨ret_bool HM.out, rfl⟩

theorem cmpInt_any (x y : Nat) (w : World) : Calls Tryd.prog 15 #[.int .i64 x, .int .i64 y] w fun e w' => e = .returned (.int .i64 (sgn x y)) ∧ w' = w := by
  by_cases h : x < y
  · have HM : Hid ((-1 : Int) = sgn x y) := by show _ = _; unfold sgn; rw [if_pos h]
    have h' : (x : Int) < y := by omega
    go_enter Tryd.func15, Tryd.ntmps15
    go_wp2
    go_ret
    exact ⟨ret_int HM.out, rfl⟩
  · have h' : ¬ (x : Int) < y := by omega
    by_cases h2 : y < x
    · have HM : Hid ((1 : Int) = sgn x y) := by show _ = _; unfold sgn; rw [if_neg h, if_pos h2]
      have h2' : (y : Int) < x := by omega
      go_enter Tryd.func15, Tryd.ntmps15
      go_wp2
      go_ret
      exact ⟨ret_int HM.out, rfl⟩
    · have HM : Hid ((0 : Int) = sgn x y) := by show _ = _; unfold sgn; rw [if_neg h, if_neg h2]
      have h2' : ¬ (y : Int) < x := by omega
      go_enter Tryd.func15, Tryd.ntmps15
      go_wp2
      go_ret
      exact ⟨ret_int HM.out, rfl⟩
theorem cmpByte_any (x y : UInt8) (w : World) : Calls Tryd.prog 32 #[.int .u8 (x.toNat : Int), .int .u8 (y.toNat : Int)] w fun e w' => e = .returned (.int .i64 (byteC x y)) ∧ w' = w := by
  obtain ⟨a, ha⟩ : ∃ a, x.toNat = a := ⟨_, rfl⟩
  obtain ⟨b, hb⟩ : ∃ b, y.toNat = b := ⟨_, rfl⟩
  unfold byteC
  rw [ha, hb]
  by_cases h : a < b
  · have HM : Hid ((-1 : Int) = sgn a b) := by show _ = _; unfold sgn; rw [if_pos h]
    have h' : (a : Int) < b := by omega
    go_enter Tryd.func32, Tryd.ntmps32
    go_wp2
    go_ret
    exact ⟨ret_int HM.out, rfl⟩
  · have h' : ¬ (a : Int) < b := by omega
    by_cases h2 : b < a
    · have HM : Hid ((1 : Int) = sgn a b) := by show _ = _; unfold sgn; rw [if_neg h, if_pos h2]
      have h2' : (b : Int) < a := by omega
      go_enter Tryd.func32, Tryd.ntmps32
      go_wp2
      go_ret
      exact ⟨ret_int HM.out, rfl⟩
    · have HM : Hid ((0 : Int) = sgn a b) := by show _ = _; unfold sgn; rw [if_neg h, if_neg h2]
      have h2' : ¬ (b : Int) < a := by omega
      go_enter Tryd.func32, Tryd.ntmps32
      go_wp2
      go_ret
      exact ⟨ret_int HM.out, rfl⟩
theorem cmpBytes_eq : ∀ (a b : List UInt8), Lib.compareBytes a b = textC a b
  | [], [] => rfl
  | [], _ :: _ => rfl
  | _ :: _, [] => rfl
  | a :: r, b :: q => by
    have ih := cmpBytes_eq r q
    unfold Lib.compareBytes textC lexC byteC sgn
    by_cases h1 : a < b
    · have n1 : a.toNat < b.toNat := UInt8.lt_iff_toNat_lt.1 h1
      rw [if_pos h1, if_pos n1, if_neg (by decide)]
    · have n1 : ¬ a.toNat < b.toNat := fun h => h1 (UInt8.lt_iff_toNat_lt.2 h)
      by_cases h2 : b < a
      · have n2 : b.toNat < a.toNat := UInt8.lt_iff_toNat_lt.1 h2
        rw [if_neg h1, if_pos h2, if_neg n1, if_pos n2, if_neg (by decide)]
      · have n2 : ¬ b.toNat < a.toNat := fun h => h2 (UInt8.lt_iff_toNat_lt.2 h)
        rw [if_neg h1, if_neg h2, if_neg n1, if_neg n2, if_pos rfl]; exact ih
set_option maxRecDepth 100000 in
theorem cmpString_any (x y : ByteArray) (w : World) : Calls Tryd.prog 34 #[.string x, .string y] w fun e w' => e = .returned (.int .i64 (textC x.data.toList y.data.toList)) ∧ w' = w := by
  have hE := cmpBytes_eq x.data.toList y.data.toList
  have HE := hide hE
  clear hE
  go_enter Tryd.func34, Tryd.ntmps34
  go_wp2
  rw [run_callFunc_extern Tryd.func42 (by kernel_rfl) (by kernel_rfl) (by kernel_rfl) (e := Extern.BytealgCompare.compare) (by kernel_rfl), Lib.run_compareString, HE.out]
  simp only [Result.andThen]
  rw [Oper.upon_value]
  go_wp2
  go_ret
  exact ⟨rfl, rfl⟩
theorem cmpStr_any (x y : ByteArray) (w : World) : Calls Tryd.prog 16 #[.string x, .string y] w fun e w' => e = .returned (.int .i64 (textC x.data.toList y.data.toList)) ∧ w' = w := by
  go_enter Tryd.func16, Tryd.ntmps16
  go_wp2_with (go_at_call 34; refine (cmpString_any x y _).mono ?_; rintro e w' ⟨rfl, rfl⟩)
  go_ret
  exact ⟨rfl, rfl⟩

/-- a text's length, out of a slot -/
def lenOf : Value → Nat | .string t => t.size | _ => 0
theorem empty_yes (s : ByteArray) (h : s.size = 0) : s.toList.isEmpty = true := by
  rw [ByteArray.toList_eq, List.isEmpty_iff, ← List.length_eq_zero_iff]; simpa using h
theorem empty_no (s : ByteArray) (h : ¬ s.size = 0) : s.toList.isEmpty = false := by
  rw [ByteArray.toList_eq, List.isEmpty_eq_false_iff, ← List.length_pos_iff]; have : s.data.size = s.size := rfl; simp; omega
theorem len_at (s : ByteArray) : s.data.toList.length = s.size := by simp
theorem head_at (s : ByteArray) (h : 0 < s.size) : s.data.toList = s[0] :: (s.extract 1 s.size).data.toList := by
  rw [Lib.extract_data, List.take_of_length_le (by simp)]
  have h2 : 0 < s.data.toList.length := by rw [len_at]; exact h
  have e := List.drop_eq_getElem_cons h2
  rw [List.drop_zero] at e
  exact e

/-- the digits without the 0s in front -/
def strip (l : List UInt8) : List UInt8 := l.dropWhile (fun c => c == 48)
theorem strip_zero (l : List UInt8) : strip (48 :: l) = strip l := by unfold strip; rw [List.dropWhile_cons_of_pos (by decide)]
theorem strip_other (c : UInt8) (l : List UInt8) (h : ¬ c = 48) : strip (c :: l) = c :: l := by unfold strip; rw [List.dropWhile_cons_of_neg (by simpa using h)]
theorem eq_bool (b c : UInt8) : ((b.toNat : Int) == (c.toNat : Int)) = (b == c) := by
  rw [Bool.eq_iff_iff]; simp only [beq_iff_eq]
  constructor
  · intro h; exact UInt8.toNat.inj (by omega)
  · intro h; rw [h]

set_option maxRecDepth 100000 in
set_option maxHeartbeats 1600000 in
theorem trimByte_any (s : ByteArray) (w : World) (_hs : s.size ≤ maxLen) : Calls Tryd.prog 44 #[.string s, .int .u8 48] w fun e w' => ∃ t : ByteArray, e = .returned (.string t) ∧ t.data.toList = strip s.data.toList ∧ w' = w := by
  unfold maxLen at _hs
  go_enter Tryd.func44, Tryd.ntmps44
  go_wp2
  go_loop [0] (fun v => ∃ t : ByteArray, t.size ≤ s.size ∧ v = .string t ∧ Hid (strip t.data.toList = strip s.data.toList)) (fun v => lenOf v)
  case atStart => exact ⟨s, Nat.le_refl _, rfl, rfl⟩
  case round =>
    obtain ⟨t, ht, rfl, HS⟩ := hrel
    by_cases h0 : 0 < t.size
    · have HD := hide (head_at t h0)
      have h0' : (0 : Int) < t.size := by omega
      by_cases hc : t[0] = 48
      · have hc' : ((t[0].toNat : Int) == 48) = true := by rw [hc]; rfl
        have HN : Hid (strip (t.extract 1 t.size).data.toList = strip s.data.toList) := by
          show _ = _
          have := HS.out
          rw [HD.out, hc, strip_zero] at this
          exact this
        have h1 : (1 : Int) ≤ t.size := by omega
        clear hc
        go_wp2
        go_round
        case rel => exact ⟨t.extract 1 t.size, by simp; omega, rfl, HN⟩
        case measure => simp [lenOf]; omega
      · have hc' : ((t[0].toNat : Int) == 48) = false := by
          have : ¬ (t[0].toNat : Int) = 48 := fun h => hc (UInt8.toNat.inj (by show _ = 48; omega))
          simpa using this
        have HN : Hid (t.data.toList = strip s.data.toList) := by
          show _ = _
          have := HS.out
          rw [HD.out, strip_other _ _ hc] at this
          rw [HD.out]; exact this
        clear hc
        go_wp2
        go_ret
        exact ⟨t, rfl, HN.out, rfl⟩
    · have h0' : ¬ (0 : Int) < t.size := by omega
      have HN : Hid (t.data.toList = strip s.data.toList) := by
        show _ = _
        have e : t.data.toList = [] := List.eq_nil_of_length_eq_zero (by rw [len_at]; omega)
        have := HS.out
        rw [e] at this ⊢
        exact this
      go_wp2
      go_ret
      exact ⟨t, rfl, HN.out, rfl⟩
set_option maxRecDepth 100000 in
set_option maxHeartbeats 1600000 in
theorem trim_any (s : ByteArray) (w : World) (hs : s.size ≤ maxLen) : Calls Tryd.prog 40 #[.string s, .string ⟨#[48]⟩] w fun e w' => ∃ t : ByteArray, e = .returned (.string t) ∧ t.data.toList = strip s.data.toList ∧ w' = w := by
  have HS := hide hs
  clear hs
  have i0 : ∀ h, ((⟨#[48]⟩ : ByteArray)[0]'h).toNat = 48 := fun _ => rfl
  by_cases h : s.size = 0
  · have he := empty_yes s h
    have HN : Hid (s.data.toList = strip s.data.toList) := by
      show _ = _
      have e : s.data.toList = [] := List.eq_nil_of_length_eq_zero (by rw [len_at]; exact h)
      rw [e]; rfl
    go_enter Tryd.func40, Tryd.ntmps40
    go_wp2
    go_ret
    exact ⟨s, rfl, HN.out, rfl⟩
  · have he := empty_no s h
    clear h
    have hk : (⟨#[48]⟩ : ByteArray).toList.isEmpty = false := empty_no _ (by decide)
    go_enter Tryd.func40, Tryd.ntmps40
    go_wp2_with (go_at_call 44; refine (trimByte_any s _ HS.out).mono ?_; rintro e w' ⟨t, rfl, ht, rfl⟩)
    go_ret
    exact ⟨t, rfl, ht, rfl⟩

/-- two rows of digits, by the numbers that they write -/
def cmpN (p q : List UInt8) : Int := thenC (fun x y : List UInt8 => sgn x.length y.length) textC (strip p) (strip q)
set_option maxRecDepth 100000 in
set_option maxHeartbeats 1600000 in
theorem compareNumbers_any (p q : ByteArray) (w : World) (hp : p.size ≤ maxLen) (hq : q.size ≤ maxLen) : Calls Tryd.prog 31 #[.string p, .string q] w fun e w' => e = .returned (.int .i64 (cmpN p.data.toList q.data.toList)) ∧ w' = w := by
  have HP := hide hp
  have HQ := hide hq
  clear hp hq
  go_enter Tryd.func31, Tryd.ntmps31
  go_wp2_with fail
  refine (trim_any p _ HP.out).mono ?_
  rintro e w' ⟨a, rfl, ha, rfl⟩
  have HA := hide ha
  clear ha
  go_wp2_with fail
  refine (trim_any q _ HQ.out).mono ?_
  rintro e w' ⟨b, rfl, hb, rfl⟩
  have HB := hide hb
  clear hb
  have HC : Hid (cmpN p.data.toList q.data.toList = if sgn a.size b.size = 0 then textC a.data.toList b.data.toList else sgn a.size b.size) := by
    show _ = _
    unfold cmpN
    rw [← HA.out, ← HB.out]
    simp only [thenC, len_at]
  go_wp2_with fail
  refine (cmpInt_any a.size b.size _).mono ?_
  rintro e w' ⟨rfl, rfl⟩
  obtain ⟨k, hk⟩ : ∃ k, sgn a.size b.size = k := ⟨_, rfl⟩
  rw [hk] at HC ⊢
  clear hk
  by_cases h : k = 0
  · subst h
    rw [if_pos rfl] at HC
    go_wp2_with (go_at_call 16; refine (cmpStr_any a b _).mono ?_; rintro e w' ⟨rfl, rfl⟩)
    go_ret
    exact ⟨ret_int HC.out.symm, rfl⟩
  · rw [if_neg h] at HC
    have h' : (k == 0) = false := by simpa using h
    have h2 : (k != 0) = true := by rw [bne, h']; rfl
    clear h
    go_wp2
    go_ret
    exact ⟨ret_int HC.out.symm, rfl⟩

/-- two pieces -/
def cmpP (p q : List UInt8) : Int := if (dig (p.getD 0 0) && dig (q.getD 0 0)) = true then cmpN p q else byteC (p.getD 0 0) (q.getD 0 0)
theorem getD_zero (s : ByteArray) (h : 0 < s.size) : s.data.toList.getD 0 0 = s[0] := by rw [head_at s h]; rfl
set_option maxRecDepth 100000 in
set_option maxHeartbeats 1600000 in
theorem comparePieces_any (p q : ByteArray) (w : World) (hp : p.size ≤ maxLen) (hq : q.size ≤ maxLen) (h0 : 0 < p.size) (h1 : 0 < q.size) : Calls Tryd.prog 14 #[.string p, .string q] w fun e w' => e = .returned (.int .i64 (cmpP p.data.toList q.data.toList)) ∧ ∃ n, w' = w.drewN n := by
  have HP := hide hp
  have HQ := hide hq
  clear hp hq
  have h0' : (0 : Int) < p.size := by omega
  have h1' : (0 : Int) < q.size := by omega
  have HC : Hid (cmpP p.data.toList q.data.toList = if (dig p[0] && dig q[0]) = true then cmpN p.data.toList q.data.toList else byteC p[0] q[0]) := by
    show _ = _
    unfold cmpP
    rw [getD_zero p h0, getD_zero q h1]
  obtain ⟨x, Hx⟩ : ∃ x : Bool, Hid (dig p[0] = x) := ⟨dig p[0], rfl⟩
  obtain ⟨y, Hy⟩ : ∃ y : Bool, Hid (dig q[0] = y) := ⟨dig q[0], rfl⟩
  rw [Hx.out, Hy.out] at HC
  cases x with
  | true =>
    cases y with
    | true =>
      go_enter Tryd.func14, Tryd.ntmps14
      go_wp2_with fail
      refine (isDigit_any p[0] _).mono ?_
      rintro e w' ⟨rfl, rfl⟩
      rw [Hx.out]
      go_wp2_with fail
      refine (isDigit_any q[0] _).mono ?_
      rintro e w' ⟨rfl, rfl⟩
      rw [Hy.out]
      go_wp2_with (go_at_call 31; refine (compareNumbers_any p q _ HP.out HQ.out).mono ?_; rintro e w' ⟨rfl, rfl⟩)
      go_ret
      exact ⟨ret_int (by rw [HC.out]; rfl), 0, rfl⟩
    | false =>
      go_enter Tryd.func14, Tryd.ntmps14
      go_wp2_with fail
      refine (isDigit_any p[0] _).mono ?_
      rintro e w' ⟨rfl, rfl⟩
      rw [Hx.out]
      go_wp2_with fail
      refine (isDigit_any q[0] _).mono ?_
      rintro e w' ⟨rfl, rfl⟩
      rw [Hy.out]
      go_wp2
      go_quiet ((go_at_call 32; exact Calls.quiet_of_same (cmpByte_any _ _ _)))
      go_wp2
      go_ret
      exact ⟨ret_int (by rw [HC.out]; rfl), _, rfl⟩
  | false =>
    go_enter Tryd.func14, Tryd.ntmps14
    go_wp2_with fail
    refine (isDigit_any p[0] _).mono ?_
    rintro e w' ⟨rfl, rfl⟩
    rw [Hx.out]
    go_wp2
    go_quiet ((go_at_call 32; exact Calls.quiet_of_same (cmpByte_any _ _ _)))
    go_wp2
    go_ret
    exact ⟨ret_int (by rw [HC.out]; rfl), _, rfl⟩
end Go.Proofs.YtllogonbickmcaaDoor
