/- Plain: how a line is cut into words; numbers and SKUs read. -/
import Derived.Test.YtpnnlfhknnnfhaaGreatDoorJPl
import Derived.Lib.AtoiAll
import Derived.Lib.AtoiAllCases
import Derived.Lib.ItoaLen
import Derived.Lib.Bytealg
namespace Go.Proofs.YtpnnlfhknnnfhaaGreatDoor
open Go.RowKit T Y

/-- blanks, tabs, carriage returns -/
def gapB (c : UInt8) : Bool := ([32, 9, 13] : List UInt8).contains c
def skipG (l : List UInt8) : List UInt8 := l.dropWhile gapB
/-- how long the word is that a text begins with -/
def wlen (l : List UInt8) : Option Nat :=
  match l with
  | [] => none
  | c :: t => if c = 34 then (if Lib.indexByte t 34 < 0 then none else if (Lib.indexByte t 34).toNat + 2 = t.length + 1 ∨ gapB (l.getD ((Lib.indexByte t 34).toNat + 2) 0) = true then some ((Lib.indexByte t 34).toNat + 2) else none)
    else some (1 + (t.takeWhile (fun c => !gapB c)).length)
theorem wlen_cons {l : List UInt8} {n : Nat} (h : wlen l = some n) : ∃ c t, l = c :: t := by
  cases l with
  | nil => cases h
  | cons c t => exact ⟨c, t, rfl⟩
theorem wlen_pos {l : List UInt8} {n : Nat} (h : wlen l = some n) : 0 < n := by
  obtain ⟨c, t, rfl⟩ := wlen_cons h
  unfold wlen at h
  simp only at h
  repeat' split at h
  · cases h
  · have := Option.some.inj h; omega
  · cases h
  · have := Option.some.inj h; omega
/-- a text's words -/
def cutR (l : List UInt8) : Option (List (List UInt8)) :=
  match wlen (skipG l) with
  | none => if skipG l = [] then some [] else none
  | some n => if _hn : 0 < n ∧ skipG l ≠ [] then (cutR ((skipG l).drop n)).map ((skipG l).take n :: ·) else none
termination_by l.length
decreasing_by
  have h1 : (skipG l).length ≤ l.length := (List.dropWhile_sublist _).length_le
  have h2 : 0 < (skipG l).length := List.length_pos_iff.2 _hn.2
  rw [List.length_drop]
  omega
theorem cutR_nil {l : List UInt8} (h : skipG l = []) : cutR l = some [] := by rw [cutR, h]; rfl
theorem cutR_none {l r : List UInt8} (h : skipG l = r) (h0 : r ≠ []) (h1 : wlen r = none) : cutR l = none := by
  rw [cutR, h, h1]
  simp [h0]
theorem cutR_some {l r : List UInt8} {n : Nat} (h : skipG l = r) (h1 : wlen r = some n) : cutR l = (cutR (r.drop n)).map (r.take n :: ·) := by
  obtain ⟨c, t, rfl⟩ := wlen_cons h1
  rw [cutR, h, h1]
  simp [wlen_pos h1]
theorem skipG_skipG (l : List UInt8) : skipG (skipG l) = skipG l := by
  unfold skipG
  induction l with
  | nil => rfl
  | cons c t ih =>
    by_cases hc : gapB c = true
    · rw [List.dropWhile_cons_of_pos hc, ih]
    · rw [List.dropWhile_cons_of_neg hc, List.dropWhile_cons_of_neg hc]
theorem cutR_skip (l : List UInt8) : cutR (skipG l) = cutR l := by
  rw [cutR, cutR, skipG_skipG]
/-- a line's words; none of a line that begins with # -/
def cutP (l : List UInt8) : Option (List (List UInt8)) := if (skipG l).head? = some 35 then some [] else cutR l
/-- the number that a word writes -/
def numOf (w : List UInt8) : Option Int :=
  match Lib.atoiAll w with
  | .ok n => if num n = w then some n else none
  | _ => none
theorem dig_nat (k : Nat) (h : k < 10) : (UInt8.ofNat (48 + k)).toNat = 48 + k := by
  rw [UInt8.toNat_ofNat']
  omega
theorem parse_digits : ∀ (u : Nat), u < 18446744073709551616 → ∀ r, Lib.parseUint10 0 (Lib.decDigits u ++ r) = Lib.parseUint10 u r := by
  intro u
  induction u using Nat.strongRecOn with
  | _ u ih =>
    intro hu r
    by_cases h : u < 10
    · rw [Lib.decDigits, dif_pos h]
      simp only [List.cons_append, List.nil_append, Lib.parseUint10]
      rw [dig_nat u h, if_pos (by omega), if_neg (by omega), if_neg (by omega)]
      congr 1
      omega
    · rw [Lib.decDigits, dif_neg h, List.append_assoc, ih (u / 10) (by omega) (by omega)]
      simp only [List.cons_append, List.nil_append, Lib.parseUint10]
      rw [dig_nat (u % 10) (by omega), if_pos (by omega), if_neg (by omega), if_neg (by omega)]
      congr 1
      omega
theorem dec_ne (u : Nat) : Lib.decDigits u ≠ [] := by
  rw [Lib.decDigits]
  split
  · simp
  · simp
theorem dec_digits : ∀ (u : Nat) (c : UInt8), c ∈ Lib.decDigits u → 48 ≤ c.toNat ∧ c.toNat ≤ 57 := by
  intro u
  induction u using Nat.strongRecOn with
  | _ u ih =>
    intro c hc
    by_cases h : u < 10
    · rw [Lib.decDigits, dif_pos h] at hc
      simp only [List.mem_singleton] at hc
      rw [hc, dig_nat u h]
      omega
    · rw [Lib.decDigits, dif_neg h, List.mem_append] at hc
      rcases hc with hc | hc
      · exact ih (u / 10) (by omega) c hc
      · simp only [List.mem_singleton] at hc
        rw [hc, dig_nat (u % 10) (by omega)]
        omega
theorem mag_dec (u : Nat) (hu : u < 18446744073709551616) : Lib.parseMag (Lib.decDigits u) = .ok u := by
  unfold Lib.parseMag
  rw [if_neg (dec_ne u)]
  have := parse_digits u hu []
  rw [List.append_nil] at this
  rw [this]
  rfl
theorem atoi_num (n : Int) (h0 : -9223372036854775808 ≤ n) (h1 : n ≤ 9223372036854775807) : Lib.atoiAll (num n) = .ok n := by
  unfold num Lib.itoa
  by_cases hn : n < 0
  · rw [if_pos hn, Lib.atoiAll_minus, mag_dec _ (by omega)]
    show (if 9223372036854775808 < n.natAbs then Lib.NumEnd.range else Lib.NumEnd.ok (-(n.natAbs : Int))) = _
    rw [if_neg (by omega)]
    congr 1
    omega
  · rw [if_neg hn]
    obtain ⟨c, r, e⟩ : ∃ c r, Lib.decDigits n.toNat = c :: r := by
      cases h : Lib.decDigits n.toNat with
      | nil => exact absurd h (dec_ne _)
      | cons c r => exact ⟨c, r, rfl⟩
    have hc := dec_digits n.toNat c (by rw [e]; simp)
    rw [e, Lib.atoiAll_plain c r (by omega) (by omega), ← e, mag_dec _ (by omega)]
    show (if 9223372036854775808 ≤ n.toNat then Lib.NumEnd.range else Lib.NumEnd.ok (n.toNat : Int)) = _
    rw [if_neg (by omega)]
    congr 1
    omega
theorem numOf_num (n : Int) (h0 : -9223372036854775808 ≤ n) (h1 : n ≤ 9223372036854775807) : numOf (num n) = some n := by
  unfold numOf
  rw [atoi_num n h0 h1]
  simp
theorem numOf_eq {w : List UInt8} {n : Int} (h : numOf w = some n) : num n = w ∧ Lib.atoiAll w = .ok n := by
  unfold numOf at h
  split at h
  · rename_i m hm
    split at h
    · obtain rfl := Option.some.inj h
      exact ⟨by assumption, hm⟩
    · cases h
  · cases h
/-- a digit of base sixteen -/
def hxv (c : UInt8) : Int := Lib.indexByte hexL c
/-- the text that stands between quotes -/
def unq : List UInt8 → Option (List UInt8)
  | [] => some []
  | [c] => if selfB c = true then some [c] else none
  | [c, d] => if selfB c = true then (unq [d]).map (c :: ·) else none
  | [c, d, e] => if selfB c = true then (unq [d, e]).map (c :: ·) else none
  | c :: x :: a :: b :: r => if selfB c = true then (unq (x :: a :: b :: r)).map (c :: ·) else if c = 92 ∧ x = 120 ∧ 0 ≤ hxv a ∧ 0 ≤ hxv b then (unq r).map (UInt8.ofNat (16 * (hxv a).toNat + (hxv b).toNat) :: ·) else none
theorem unq_self {c : UInt8} (h : selfB c = true) (r : List UInt8) : unq (c :: r) = (unq r).map (c :: ·) := by
  match r with
  | [] => simp [unq, h]
  | [d] => simp [unq, h]
  | [d, e] => simp [unq, h]
  | d :: e :: f :: g => rw [unq, if_pos h]
theorem unq_esc {c x a b : UInt8} (h : selfB c = false) (r : List UInt8) : unq (c :: x :: a :: b :: r) = if c = 92 ∧ x = 120 ∧ 0 ≤ hxv a ∧ 0 ≤ hxv b then (unq r).map (UInt8.ofNat (16 * (hxv a).toNat + (hxv b).toNat) :: ·) else none := by
  rw [unq, if_neg (by rw [h]; simp)]
theorem unq_short {c : UInt8} (h : selfB c = false) (r : List UInt8) (hr : r.length < 3) : unq (c :: r) = none := by
  match r, hr with
  | [], _ => simp [unq, h]
  | [d], _ => simp [unq, h]
  | [d, e], _ => simp [unq, h]
theorem hxv_hx : ∀ n, n < 16 → hxv (hx n) = (n : Int) := by decide
theorem unq_qbs (l r : List UInt8) : unq (qbs l ++ r) = (unq r).map (l ++ ·) := by
  induction l with
  | nil => simp [qbs]
  | cons c l ih =>
    have e : qbs (c :: l) = qb c ++ qbs l := by simp [qbs]
    rw [e, List.append_assoc]
    cases h : selfB c with
    | true =>
      have : qb c = [c] := by unfold qb; rw [h]; rfl
      rw [this, List.singleton_append, unq_self h, ih, Option.map_map]
      rfl
    | false =>
      have : qb c = [92, 120, hx (c.toNat / 16), hx (c.toNat % 16)] := by unfold qb; rw [h]; rfl
      have hb := c.toNat_lt
      rw [this]
      simp only [List.cons_append, List.nil_append]
      rw [unq_esc (by decide), hxv_hx _ (by omega), hxv_hx _ (by omega), if_pos (by simp; omega), ih, Option.map_map]
      have e2 : UInt8.ofNat (16 * ((c.toNat / 16 : Nat) : Int).toNat + ((c.toNat % 16 : Nat) : Int).toNat) = c := by
        simp only [Int.toNat_natCast]
        rw [show 16 * (c.toNat / 16) + c.toNat % 16 = c.toNat by omega]
        simp
      rw [e2]
      rfl
theorem unq_all (l : List UInt8) : unq (qbs l) = some l := by
  have := unq_qbs l []
  rw [List.append_nil] at this
  rw [this]
  simp [unq]
/-- the text that a sku word stands for -/
def skuOf (w : List UInt8) : Option (List UInt8) :=
  if good w = true then some w
  else if 2 ≤ w.length ∧ w.getD 0 0 = 34 ∧ w.getD (w.length - 1) 0 = 34 then unq ((w.take (w.length - 1)).drop 1) else none
theorem good_bytes {l : List UInt8} (h : good l = true) : l ≠ [] ∧ ∀ c ∈ l, mk c = true ∨ lt c = true ∨ dig c = true := by
  unfold good ckE at h
  have h0 : l.length ≠ 0 := by intro e; rw [if_pos e] at h; simp at h
  rw [if_neg h0] at h
  have h1 : ¬ 24 < l.length := by intro e; rw [if_pos e] at h; simp at h
  rw [if_neg h1] at h
  have h2 : stands l l.length = true := by
    cases hq : stands l l.length with
    | true => rfl
    | false => rw [hq] at h; simp at h
  refine ⟨fun e => h0 (by rw [e]; rfl), fun c hc => ?_⟩
  obtain ⟨i, hi, e⟩ := List.getElem_of_mem hc
  unfold stands at h2
  have h3 := List.all_eq_true.1 h2 i (List.mem_range.2 hi)
  unfold stand at h3
  have e2 : l.getD i 0 = c := by rw [List.getD, List.getElem?_eq_getElem hi, e]; rfl
  rw [e2] at h3
  split at h3
  · exact Or.inl (by assumption)
  · rw [Bool.or_eq_true] at h3
    exact Or.inr h3
theorem good_byte {l : List UInt8} (h : good l = true) {c : UInt8} (hc : c ∈ l) : 45 ≤ c.toNat ∧ c.toNat ≤ 90 := by
  rcases (good_bytes h).2 c hc with h1 | h1 | h1
  · unfold mk at h1; rw [Bool.or_eq_true] at h1; simp only [beq_iff_eq] at h1; omega
  · unfold lt at h1; simp only [Bool.and_eq_true, decide_eq_true_eq] at h1; omega
  · unfold dig at h1; simp only [Bool.and_eq_true, decide_eq_true_eq] at h1; omega
theorem skuOf_skT (l : List UInt8) : skuOf (skT l) = some l := by
  unfold skT
  cases h : good l with
  | true => simp only [if_true]; unfold skuOf; rw [if_pos h]
  | false =>
    rw [if_neg (by simp)]
    unfold skuOf
    have hg : good ([34] ++ qbs l ++ [34]) ≠ true := by
      intro hg
      have := good_byte hg (c := 34) (by simp)
      have : (34 : UInt8).toNat = 34 := rfl
      omega
    rw [if_neg hg]
    have hlen : ([34] ++ qbs l ++ [34]).length = (qbs l).length + 2 := by simp
    have h1 : ([34] ++ qbs l ++ [34]).getD 0 0 = 34 := rfl
    have h2 : ([34] ++ qbs l ++ [34]).getD ((qbs l).length + 1) 0 = 34 := by
      rw [List.getD, List.getElem?_append_right (by simp)]
      simp
    rw [hlen, show (qbs l).length + 2 - 1 = (qbs l).length + 1 by omega, if_pos ⟨by omega, h1, h2⟩]
    have h3 : (([34] ++ qbs l ++ [34]).take ((qbs l).length + 1)).drop 1 = qbs l := by
      rw [List.take_append_of_le_length (by simp)]
      simp
    rw [h3, unq_all]
theorem bs_get (l : List UInt8) (k : Nat) (h : k < (bs l).size) : (bs l)[k] = l.getD k 0 := by
  have h2 : k < l.length := by rw [bs_size] at h; exact h
  show (bs l).data[k] = _
  simp [bs, List.getD, h2]
theorem bs_cut (l : List UInt8) (a b : Nat) : (bs l).extract a b = bs ((l.take b).drop a) := by
  apply ByteArray.ext
  apply Array.toList_inj.1
  rw [ByteArray.data_extract, Array.toList_extract, bs_list, bs_list]
  unfold List.extract
  rw [List.drop_take]
theorem bs_tail (c : UInt8) (t : List UInt8) : (bs (c :: t)).extract 1 (bs (c :: t)).size = bs t := by
  rw [bs_cut, bs_size, List.take_length]
  rfl
end Go.Proofs.YtpnnlfhknnnfhaaGreatDoor
