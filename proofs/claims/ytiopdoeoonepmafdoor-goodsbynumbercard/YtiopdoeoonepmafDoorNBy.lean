/- The natural order of texts that are alike but for a number: plain facts. -/
import Derived.Test.YtiopdoeoonepmafDoorNCmp
import Derived.Test.YtiopdoeoonepmafDoorDec
namespace Go.Proofs.YtiopdoeoonepmafDoor.N
open Go.Lib

theorem dig_of {c : UInt8} (h : 48 ≤ c.toNat ∧ c.toNat ≤ 57) : dig c = true := (dig_iff c).2 (by omega)
theorem sgn_lt {x y : Nat} (h : x < y) : sgn x y = -1 := by unfold sgn; rw [if_pos h]
theorem sgn_gt {x y : Nat} (h : y < x) : sgn x y = 1 := by unfold sgn; rw [if_neg (by omega), if_pos h]
theorem sgn_eq {x y : Nat} (h : x = y) : sgn x y = 0 := by unfold sgn; rw [if_neg (by omega), if_neg (by omega)]

/-- the last byte of two rows of one length decides where the rows before it don't -/
theorem textC_snoc : ∀ (A B : List UInt8) (x y : UInt8), A.length = B.length → textC (A ++ [x]) (B ++ [y]) = if textC A B = 0 then byteC x y else textC A B
  | [], [], x, y, _ => by
    show (if byteC x y = 0 then lexC byteC [] [] else byteC x y) = _
    have e : lexC byteC [] [] = 0 := rfl
    have e2 : textC [] [] = 0 := rfl
    rw [e, e2, if_pos rfl]
    split
    · rename_i h; exact h.symm
    · rfl
  | a :: A, b :: B, x, y, h => by
    have ih := textC_snoc A B x y (by simpa using h)
    have e1 : textC (a :: A ++ [x]) (b :: B ++ [y]) = if byteC a b = 0 then textC (A ++ [x]) (B ++ [y]) else byteC a b := rfl
    have e2 : textC (a :: A) (b :: B) = if byteC a b = 0 then textC A B else byteC a b := rfl
    rw [e1, e2, ih]
    by_cases hb : byteC a b = 0
    · rw [if_pos hb, if_pos hb]
    · rw [if_neg hb, if_neg hb, if_neg hb]
  | [], _ :: _, _, _, h => by simp at h
  | _ :: _, [], _, _, h => by simp at h
/-- numerals stand in the order of the numbers -/
def lenText (p q : List UInt8) : Int := thenC (fun x y : List UInt8 => sgn x.length y.length) textC p q
theorem lenText_eq (p q : List UInt8) : lenText p q = if sgn p.length q.length = 0 then textC p q else sgn p.length q.length := rfl
theorem dec_order : ∀ (n m : Nat), lenText (decDigits n) (decDigits m) = sgn n m := by
  intro n
  induction n using Nat.strongRecOn with
  | ind n ih =>
    intro m
    have b8 : ∀ d, d < 10 → (UInt8.ofNat (48 + d)).toNat = 48 + d := fun d hd => by simp [UInt8.toNat_ofNat']; omega
    by_cases hn : n < 10 <;> by_cases hm : m < 10
    · rw [decDigits, dif_pos hn, decDigits, dif_pos hm]
      rw [lenText_eq, if_pos (by rfl)]
      show (if byteC _ _ = 0 then (0 : Int) else byteC _ _) = _
      have e : byteC (UInt8.ofNat (48 + n)) (UInt8.ofNat (48 + m)) = sgn n m := by
        unfold byteC; rw [b8 n hn, b8 m hm]; unfold sgn
        repeat' split
        all_goals omega
      rw [e]
      split
      · rename_i h; exact h.symm
      · rfl
    · have hl : (decDigits n).length < (decDigits m).length := by
        rw [decDigits_length, decDigits_length, nDigits_small hn, nDigits_big hm]; have := nDigits_pos (m / 10); omega
      rw [lenText_eq, sgn_lt hl, if_neg (by omega), sgn_lt (by omega)]
    · have hl : (decDigits m).length < (decDigits n).length := by
        rw [decDigits_length, decDigits_length, nDigits_small hm, nDigits_big hn]; have := nDigits_pos (n / 10); omega
      rw [lenText_eq, sgn_gt hl, if_neg (by omega), sgn_gt (by omega)]
    · have key := ih (n / 10) (by omega) (m / 10)
      rw [decDigits, dif_neg hn, decDigits.eq_1 m, dif_neg hm]
      have e : byteC (UInt8.ofNat (48 + n % 10)) (UInt8.ofNat (48 + m % 10)) = sgn (n % 10) (m % 10) := by
        unfold byteC; rw [b8 _ (by omega), b8 _ (by omega)]; unfold sgn
        repeat' split
        all_goals omega
      rw [lenText_eq] at key ⊢
      simp only [List.length_append, List.length_singleton]
      by_cases hl : (decDigits (n / 10)).length = (decDigits (m / 10)).length
      · rw [sgn_eq hl, if_pos rfl] at key
        rw [sgn_eq (by omega), if_pos rfl, textC_snoc _ _ _ _ hl, key, e]
        unfold sgn
        repeat' split
        all_goals omega
      · have e3 : sgn ((decDigits (n / 10)).length + 1) ((decDigits (m / 10)).length + 1) = sgn (decDigits (n / 10)).length (decDigits (m / 10)).length := by
          unfold sgn
          repeat' split
          all_goals omega
        have hne : ¬ sgn (decDigits (n / 10)).length (decDigits (m / 10)).length = 0 := fun h => hl (sgn_zero h)
        rw [if_neg hne] at key
        rw [e3, if_neg hne, key]
        rw [key] at hne
        unfold sgn at hne ⊢
        repeat' split
        all_goals first | omega | (split at hne <;> first | omega | (split at hne <;> omega))

def zn (k n : Nat) : List UInt8 := List.replicate k 48 ++ decDigits n
theorem zn_digits (k n : Nat) : ∀ b ∈ zn k n, dig b = true := by
  intro b hb
  rcases List.mem_append.1 hb with h | h
  · rw [List.eq_of_mem_replicate h]; decide
  · exact dig_of (dec_digit n b h)
theorem zn_ne (k n : Nat) : 0 < (zn k n).length := by
  have := List.length_pos_iff.2 (decDigits_ne n)
  unfold zn; rw [List.length_append]; omega
theorem strip_rep (k : Nat) (l : List UInt8) : strip (List.replicate k 48 ++ l) = strip l := by
  induction k with
  | zero => rfl
  | succ k ih => rw [List.replicate_succ, List.cons_append, strip_zero, ih]
theorem strip_dec (n : Nat) (h : 1 ≤ n) : strip (decDigits n) = decDigits n := by
  obtain ⟨b, r, e, hb⟩ := dec_head n h
  rw [e, strip_other b r (fun h => by subst h; exact absurd hb (by decide))]
theorem cmpN_zn (k l n m : Nat) : cmpN (zn k n) (zn l m) = sgn n m := by
  show lenText (strip (zn k n)) (strip (zn l m)) = _
  unfold zn
  rw [strip_rep, strip_rep]
  have h0 : strip (decDigits 0) = [] := by rw [decDigits, dif_pos (by decide)]; decide
  by_cases hn : n = 0 <;> by_cases hm : m = 0
  · subst hn hm; rw [h0, sgn_eq rfl]; rfl
  · subst hn; rw [h0, strip_dec m (by omega), sgn_lt (by omega)]
    have := List.length_pos_iff.2 (decDigits_ne m)
    rw [lenText_eq, sgn_lt (by simpa using this), if_neg (by omega)]
  · subst hm; rw [h0, strip_dec n (by omega), sgn_gt (by omega)]
    have := List.length_pos_iff.2 (decDigits_ne n)
    rw [lenText_eq, sgn_gt (by simpa using this), if_neg (by omega)]
  · rw [strip_dec n (by omega), strip_dec m (by omega)]; exact dec_order n m
theorem cmpP_zn (k l n m : Nat) : cmpP (zn k n) (zn l m) = sgn n m := by
  have h : ∀ k n, dig ((zn k n).getD 0 0) = true := fun k n => by
    have h0 := zn_ne k n
    refine zn_digits k n _ ?_
    rw [List.getD, List.getElem?_eq_getElem h0]; exact List.getElem_mem _
  unfold cmpP
  rw [h k n, h l m, if_pos (by rfl), cmpN_zn]

/-- ahead of the number: whole pieces -/
theorem takeWhile_front (H X : List UInt8) (h : ∃ c ∈ H, dig c = false) : (H ++ X).takeWhile dig = H.takeWhile dig := by
  induction H with
  | nil => obtain ⟨c, hc, _⟩ := h; cases hc
  | cons a H ih =>
    rw [List.cons_append]
    cases ha : dig a with
    | false => rw [List.takeWhile_cons_of_neg (by simp [ha]), List.takeWhile_cons_of_neg (by simp [ha])]
    | true =>
      rw [List.takeWhile_cons_of_pos ha, List.takeWhile_cons_of_pos ha, ih]
      obtain ⟨c, hc, hd⟩ := h
      rcases List.mem_cons.1 hc with rfl | hc
      · rw [ha] at hd; cases hd
      · exact ⟨c, hc, hd⟩
theorem fpN_front (H X : List UInt8) (h : ∃ c ∈ H, dig c = false) : fpN (H ++ X) = fpN H := by unfold fpN; rw [takeWhile_front H X h]
theorem pieces_front (X : List UInt8) : ∀ (n : Nat) (H : List UInt8), H.length ≤ n → (H = [] ∨ ∃ c, H.getLast? = some c ∧ dig c = false) → pieces (H ++ X) = pieces H ++ pieces X
  | 0, H, hl, _ => by
    have : H = [] := List.length_eq_zero_iff.1 (by omega)
    subst this; rfl
  | n + 1, H, hl, hH => by
    rcases hH with rfl | ⟨c, hc, hd⟩
    · rfl
    have hne : H ≠ [] := by rintro rfl; simp at hc
    have hpos := List.length_pos_iff.2 hne
    have hmem : c ∈ H := List.mem_of_getLast? hc
    have hf := fpN_front H X ⟨c, hmem, hd⟩
    have hle := fpN_le H hpos
    have h1 := fpN_pos H
    rw [pieces_cons (H ++ X) (by rw [List.length_append]; omega), pieces_cons H hpos, hf, List.take_append_of_le_length hle, List.drop_append_of_le_length hle, List.cons_append]
    congr 1
    refine pieces_front X n (H.drop (fpN H)) (by rw [List.length_drop]; omega) ?_
    by_cases hemp : H.drop (fpN H) = []
    · exact Or.inl hemp
    · refine Or.inr ⟨c, ?_, hd⟩
      rw [List.getLast?_drop, if_neg (by intro h; exact hemp (List.drop_eq_nil_of_le h)), hc]
theorem takeWhile_all (N T : List UInt8) (hN : ∀ b ∈ N, dig b = true) (hT : T = [] ∨ dig (T.getD 0 0) = false) : (N ++ T).takeWhile dig = N := by
  induction N with
  | nil =>
    rw [List.nil_append]
    cases T with
    | nil => rfl
    | cons t T =>
      rcases hT with h | h
      · cases h
      · rw [List.takeWhile_cons_of_neg]; simpa using h
  | cons a N ih =>
    rw [List.cons_append, List.takeWhile_cons_of_pos (hN a List.mem_cons_self), ih fun b hb => hN b (List.mem_cons_of_mem _ hb)]
theorem pieces_number (N T : List UInt8) (h0 : 0 < N.length) (hN : ∀ b ∈ N, dig b = true) (hT : T = [] ∨ dig (T.getD 0 0) = false) : pieces (N ++ T) = N :: pieces T := by
  have hf : fpN (N ++ T) = N.length := by unfold fpN; rw [takeWhile_all N T hN hT]; omega
  rw [pieces_cons (N ++ T) (by rw [List.length_append]; omega), hf, List.take_left' rfl, List.drop_left' rfl]
theorem lexC_front (P : List (List UInt8)) (A B : List (List UInt8)) : lexC cmpP (P ++ A) (P ++ B) = lexC cmpP A B := by
  induction P with
  | nil => rfl
  | cons p P ih =>
    show (if cmpP p p = 0 then lexC cmpP (P ++ A) (P ++ B) else cmpP p p) = _
    rw [if_pos (cmpP_cmp.refl p), ih]
theorem cmpF_eq (a b : List UInt8) : cmpF a b = if lexC cmpP (pieces a) (pieces b) = 0 then textC a b else lexC cmpP (pieces a) (pieces b) := rfl
/-- what Compare says of two texts that are alike but for a number -/
theorem by_number (H T : List UInt8) (k l n m : Nat) (hH : H = [] ∨ ∃ c, H.getLast? = some c ∧ dig c = false) (hT : T = [] ∨ dig (T.getD 0 0) = false) :
    (n < m → cmpF (H ++ zn k n ++ T) (H ++ zn l m ++ T) = -1) ∧ (m < n → cmpF (H ++ zn k n ++ T) (H ++ zn l m ++ T) = 1) ∧
    (n = m → (cmpF (H ++ zn k n ++ T) (H ++ zn l m ++ T) = 0 ↔ k = l)) := by
  have e : lexC cmpP (pieces (H ++ zn k n ++ T)) (pieces (H ++ zn l m ++ T)) = sgn n m := by
    rw [List.append_assoc, List.append_assoc, pieces_front _ _ H (Nat.le_refl _) hH, pieces_front _ _ H (Nat.le_refl _) hH, lexC_front,
      pieces_number _ T (zn_ne k n) (zn_digits k n) hT, pieces_number _ T (zn_ne l m) (zn_digits l m) hT]
    show (if cmpP (zn k n) (zn l m) = 0 then lexC cmpP (pieces T) (pieces T) else cmpP (zn k n) (zn l m)) = _
    rw [cmpP_zn, (lexC_cmp cmpP_cmp).refl]
    split
    · rename_i h; exact h.symm
    · rfl
  refine ⟨fun h => ?_, fun h => ?_, fun h => ?_⟩
  · rw [cmpF_eq, e, sgn_lt h, if_neg (by omega)]
  · rw [cmpF_eq, e, sgn_gt h, if_neg (by omega)]
  · subst h
    rw [cmpF_zero]
    refine ⟨fun h => ?_, fun h => by rw [h]⟩
    have := congrArg List.length h
    simp [zn] at this
    omega
end Go.Proofs.YtiopdoeoonepmafDoor.N
