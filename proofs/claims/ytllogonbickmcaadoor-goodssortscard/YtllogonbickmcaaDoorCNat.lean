/- The natural order, in plain words: pieces, their keys; it is a total order. firstPiece and Compare: their contracts. -/
import Derived.Test.YtllogonbickmcaaDoorCBase
namespace Go.Proofs.YtllogonbickmcaaDoor
open Go.RowKit

/-- how many bytes the first piece has -/
def fpN (l : List UInt8) : Nat := max (l.takeWhile dig).length 1
theorem fpN_pos (l : List UInt8) : 1 ≤ fpN l := by unfold fpN; omega
theorem fpN_le (l : List UInt8) (h : 0 < l.length) : fpN l ≤ l.length := by
  have := (List.takeWhile_sublist dig (l := l)).length_le
  unfold fpN; omega
/-- the pieces, by so many steps -/
def pcs : Nat → List UInt8 → List (List UInt8)
  | 0, _ => []
  | _ + 1, [] => []
  | f + 1, c :: l => (c :: l).take (fpN (c :: l)) :: pcs f ((c :: l).drop (fpN (c :: l)))
theorem pcs_more (f g : Nat) (l : List UInt8) (hf : l.length < f) (hg : l.length < g) : pcs f l = pcs g l := by
  induction f generalizing g l with
  | zero => omega
  | succ f ih =>
    cases g with
    | zero => omega
    | succ g =>
      cases l with
      | nil => rfl
      | cons c l =>
        have hp := fpN_pos (c :: l)
        unfold pcs
        rw [ih g _ (by simp only [List.length_drop, List.length_cons] at *; omega) (by simp only [List.length_drop, List.length_cons] at *; omega)]
def pieces (l : List UInt8) : List (List UInt8) := pcs (l.length + 1) l
theorem pieces_nil : pieces [] = [] := rfl
theorem pieces_cons (l : List UInt8) (h : 0 < l.length) : pieces l = l.take (fpN l) :: pieces (l.drop (fpN l)) := by
  cases l with
  | nil => simp at h
  | cons c l =>
    have hp := fpN_pos (c :: l)
    show (c :: l).take (fpN (c :: l)) :: pcs (l.length + 1) ((c :: l).drop (fpN (c :: l))) = _
    unfold pieces
    rw [pcs_more (l.length + 1) _ _ (by simp only [List.length_drop, List.length_cons]; omega) (Nat.lt_succ_self _)]

/-- a piece's key: its class, then its number -/
def cls (p : List UInt8) : Nat := if dig (p.getD 0 0) = true then 48 else (p.getD 0 0).toNat
def stp (p : List UInt8) : List UInt8 := if dig (p.getD 0 0) = true then strip p else []
theorem cmpP_key (p q : List UInt8) : cmpP p q = thenC (fun p q => sgn (cls p) (cls q)) (thenC (fun p q => sgn (stp p).length (stp q).length) (fun p q => textC (stp p) (stp q))) p q := by
  unfold cmpP
  cases hp : dig (p.getD 0 0) with
  | true =>
    cases hq : dig (q.getD 0 0) with
    | true =>
      have e1 : cls p = 48 := by unfold cls; rw [if_pos hp]
      have e2 : cls q = 48 := by unfold cls; rw [if_pos hq]
      have e3 : stp p = strip p := by unfold stp; rw [if_pos hp]
      have e4 : stp q = strip q := by unfold stp; rw [if_pos hq]
      simp only [thenC, e1, e2, e3, e4, cmpN]
      rw [if_pos (show (true && true) = true from rfl), if_pos (show sgn 48 48 = 0 from by decide)]
    | false =>
      have e1 : cls p = 48 := by unfold cls; rw [if_pos hp]
      have e2 : cls q = (q.getD 0 0).toNat := by unfold cls; rw [if_neg (by rw [hq]; simp)]
      have b1 := (dig_iff _).1 hp
      have b2 : ¬ (48 ≤ ((q.getD 0 0).toNat : Int) ∧ ((q.getD 0 0).toNat : Int) ≤ 57) := fun h => by rw [(dig_iff _).2 h] at hq; cases hq
      have hs : sgn (p.getD 0 0).toNat (q.getD 0 0).toNat = sgn 48 (q.getD 0 0).toNat := by
        unfold sgn
        repeat' split
        all_goals omega
      have hne : ¬ sgn 48 (q.getD 0 0).toNat = 0 := fun h => by have := sgn_zero h; omega
      rw [if_neg (by simp)]
      simp only [thenC, e1, e2, byteC, hs]
      rw [if_neg hne]
  | false =>
    cases hq : dig (q.getD 0 0) with
    | true =>
      have e2 : cls q = 48 := by unfold cls; rw [if_pos hq]
      have e1 : cls p = (p.getD 0 0).toNat := by unfold cls; rw [if_neg (by rw [hp]; simp)]
      have b1 := (dig_iff _).1 hq
      have b2 : ¬ (48 ≤ ((p.getD 0 0).toNat : Int) ∧ ((p.getD 0 0).toNat : Int) ≤ 57) := fun h => by rw [(dig_iff _).2 h] at hp; cases hp
      have hs : sgn (p.getD 0 0).toNat (q.getD 0 0).toNat = sgn (p.getD 0 0).toNat 48 := by
        unfold sgn
        repeat' split
        all_goals omega
      have hne : ¬ sgn (p.getD 0 0).toNat 48 = 0 := fun h => by have := sgn_zero h; omega
      rw [if_neg (by simp)]
      simp only [thenC, e1, e2, byteC, hs]
      rw [if_neg hne]
    | false =>
      have e1 : cls p = (p.getD 0 0).toNat := by unfold cls; rw [if_neg (by rw [hp]; simp)]
      have e2 : cls q = (q.getD 0 0).toNat := by unfold cls; rw [if_neg (by rw [hq]; simp)]
      have e3 : stp p = [] := by unfold stp; rw [if_neg (by rw [hp]; simp)]
      have e4 : stp q = [] := by unfold stp; rw [if_neg (by rw [hq]; simp)]
      rw [if_neg (by simp)]
      simp only [thenC, e1, e2, e3, e4, byteC]
      split
      · rename_i h; rw [h]; decide
      · rfl
theorem cmpP_cmp : Cmp cmpP := by
  have h := ((sgn_cmp.on cls).andThen ((sgn_cmp.on (fun p => (stp p).length)).andThen (textC_cmp.on stp)))
  have e : cmpP = thenC (fun p q => sgn (cls p) (cls q)) (thenC (fun p q => sgn (stp p).length (stp q).length) (fun p q => textC (stp p) (stp q))) := by
    funext p q; exact cmpP_key p q
  rw [e]; exact h
/-- the natural order -/
def cmpF : List UInt8 → List UInt8 → Int := thenC (fun a b => lexC cmpP (pieces a) (pieces b)) textC
theorem cmpF_cmp : Cmp cmpF := ((lexC_cmp cmpP_cmp).on pieces).andThen textC_cmp
theorem cmpF_zero (a b : List UInt8) : cmpF a b = 0 ↔ a = b := by
  constructor
  · intro h
    unfold cmpF thenC at h
    split at h
    · exact textC_zero a b h
    · rename_i h2; exact absurd h h2
  · intro h; rw [h]; exact cmpF_cmp.refl b

theorem takeWhile_run (l : List UInt8) (k : Nat) (hk : k ≤ l.length) (h1 : (l.take k).all dig = true) (h2 : k = l.length ∨ dig (l.getD k 0) = false) : (l.takeWhile dig).length = k := by
  induction l generalizing k with
  | nil => simp at hk; simp [hk]
  | cons c l ih =>
    cases k with
    | zero =>
      rcases h2 with h2 | h2
      · simp at h2
      · have : dig c = false := h2
        rw [List.takeWhile_cons_of_neg (by rw [this]; simp)]; rfl
    | succ k =>
      simp only [List.take_succ_cons, List.all_cons, Bool.and_eq_true] at h1
      rw [List.takeWhile_cons_of_pos h1.1, List.length_cons]
      have := ih k (by simpa using hk) h1.2 (by
        rcases h2 with h2 | h2
        · left; simpa using h2
        · right; exact h2)
      omega
theorem take_snocB (s : ByteArray) (k : Nat) (h : k < s.size) : s.data.toList.take (k + 1) = s.data.toList.take k ++ [s[k]] := by
  rw [List.take_succ_eq_append_getElem (by simpa using h)]; rfl
theorem getD_at (s : ByteArray) (i : Nat) (h : i < s.size) : s.data.toList.getD i 0 = s[i] := by
  rw [List.getD, List.getElem?_eq_getElem (by simpa using h)]; rfl

set_option maxRecDepth 100000 in
set_option maxHeartbeats 1600000 in
theorem firstPiece_any (s : ByteArray) (w : World) (hs : s.size ≤ maxLen) (h0 : 0 < s.size) : Calls Tryd.prog 13 #[.string s] w fun e w' => e = .returned (.string (s.extract 0 (fpN s.data.toList))) ∧ w' = w := by
  unfold maxLen at hs
  go_enter Tryd.func13, Tryd.ntmps13
  go_wp2
  go_loop [3] (fun i => ∃ k : Nat, k ≤ s.size ∧ i = .int .i64 k ∧ Hid ((s.data.toList.take k).all dig = true)) (fun i => s.size - (intOf i).toNat)
  case atStart => exact ⟨0, Nat.zero_le _, rfl, rfl⟩
  case round =>
    obtain ⟨k, hk, rfl, HA⟩ := hrel
    have fin : (k = s.size ∨ dig (s.data.toList.getD k 0) = false) → fpN s.data.toList = max k 1 := fun h => by
      unfold fpN
      rw [takeWhile_run s.data.toList k (by rw [len_at]; exact hk) HA.out (by rw [len_at]; exact h)]
    have FIN := hide fin
    clear fin
    by_cases hlt : k < s.size
    · have HT := hide (take_snocB s k hlt)
      have HG := hide (getD_at s k hlt)
      obtain ⟨x, Hx⟩ : ∃ x : Bool, Hid (dig s[k] = x) := ⟨dig s[k], rfl⟩
      cases x with
      | true =>
        go_wp2_with (go_at_call 30; refine (isDigit_any s[k] _).mono ?_; rintro e w' ⟨rfl, rfl⟩; rw [Hx.out])
        go_round
        case rel => exact ⟨k + 1, by omega, by go_num, by show _ = _; rw [HT.out, List.all_append, HA.out]; simp [Hx.out]⟩
        case measure => simp [intOf]; omega
      | false =>
        have HE : Hid (fpN s.data.toList = max k 1) := FIN.out (Or.inr (by rw [HG.out]; exact Hx.out))
        by_cases hk0 : k = 0
        · subst hk0
          have h1 : (1 : Int) ≤ s.size := by omega
          go_wp2_with (go_at_call 30; refine (isDigit_any s[0] _).mono ?_; rintro e w' ⟨rfl, rfl⟩; rw [Hx.out])
          go_ret
          exact ⟨ret_str (by rw [HE.out]; rfl), rfl⟩
        · have hm : max (k : Int) 1 = k := by omega
          have hm2 : max k 1 = k := by omega
          rw [hm2] at HE
          clear hm2
          go_wp2_with (go_at_call 30; refine (isDigit_any s[k] _).mono ?_; rintro e w' ⟨rfl, rfl⟩; rw [Hx.out])
          go_ret
          exact ⟨ret_str (by rw [HE.out]), rfl⟩
    · have HE : Hid (fpN s.data.toList = k) := by
        show _ = _
        rw [FIN.out (Or.inl (by omega))]; omega
      have hk1 : 1 ≤ k := by omega
      have hm : max (k : Int) 1 = k := by omega
      go_wp2
      go_ret
      exact ⟨ret_str (by rw [HE.out]), rfl⟩
end Go.Proofs.YtllogonbickmcaaDoor
