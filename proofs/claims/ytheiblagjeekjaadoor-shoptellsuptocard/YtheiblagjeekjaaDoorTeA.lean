/- A page's answer; Tell. -/
import Derived.Test.YtheiblagjeekjaaDoorTeL
namespace Go.Proofs.YtheiblagjeekjaaDoor
open Go.RowKit
variable {w w' : World} {g : Nat}
attribute [local go_sem ↓] ldAn_eq stAn_eq

def tokL : List UInt8 := [32, 116, 111, 107, 101, 110, 32]
def msgL : List UInt8 := [32, 109, 101, 115, 115, 97, 103, 101, 32]
/-- a number that is told where it isn't 0 -/
def tkT (a : List UInt8) (n : Int) : List UInt8 := if n = 0 then [] else a ++ num n
/-- an answer as lines -/
def tellT (n : Int) (m : Ans) (Q : List Lne) : List UInt8 := num n ++ [32] ++ wordL m.st ++ tkT tokL m.tok ++ tkT msgL m.msg ++ [10] ++ lnsT Q
/-- a number of 64 bits -/
structure R64 (n : Int) : Prop where
  lo : -9223372036854775808 ≤ n
  hi : n ≤ 9223372036854775807
theorem R64.len {n : Int} (h : R64 n) : (num n).length ≤ 21 := num_len n h.lo h.hi
theorem R64.word {n : Int} (h : R64 n) : (wordL n).length ≤ 27 := wordL_len n h.lo h.hi
theorem AnBox.kp {B b : Nat} {m : Ans} (h : AnBox w g m) (hne : g ≠ b) (k : Kp B b w w') : AnBox w' g m :=
  k.others g _ h (fun e => hne (Option.some.inj e)) (fun c fz e => by
    have := (Obj.cells.inj e).2.1
    revert this
    decide)
set_option maxRecDepth 100000 in
set_option maxHeartbeats 3200000 in
theorem panswer_any (B b : Nat) (l : List UInt8) (n st tok msg : Int) (lno : Option Addr) (lnn lnc : Nat) (Q : List Lne) (w : World) (hn : R64 n) (hs : R64 st) (htk : R64 tok) (hms : R64 msg)
    (h : Pg B b l w) (ht : Tb B w) (hq : Lo B w lno lnn lnc Q) (hr : ∀ m, m ∈ Q → Rn m) (hl : l.length + 300 + wtL Q ≤ 1000000000000) (hB : B ≤ w.heap.size) (hb : b < w.heap.size) :
    Calls Tryd.prog 12 #[.pointer (some ⟨b, 0, none⟩), .int .i64 n, .agg #[.int .i64 st, .slice lno lnn lnc, .int .i64 tok, .int .i64 msg]] w fun e w' => e = .returned (.tuple #[]) ∧ Pg B b (l ++ tellT n ⟨st, lno, lnn, lnc, tok, msg⟩ Q) w' ∧ Kp B b w w' := by
  obtain ⟨w1, hw1⟩ : ∃ w1, w.alloc (.cells #[.int .i64 st, .slice lno lnn lnc, .int .i64 tok, .int .i64 msg] 28) = w1 := ⟨_, rfl⟩
  have hbx : AnBox w1 w.heap.size ⟨st, lno, lnn, lnc, tok, msg⟩ := by rw [← hw1]; exact AnBox_new w ⟨st, lno, lnn, lnc, tok, msg⟩
  have hbl : Below w.heap.size w w1 := by rw [← hw1]; exact below_new _ _
  have hsz1 : w1.heap.size = w.heap.size + 1 := by rw [← hw1]; simp
  have HX := hide hbx
  have HP1 := hide (h.on hbl)
  have HT1 := hide (ht.on (hbl.mono hB))
  have HQ1 := hide (hq.on (hbl.mono hB))
  have HB1 : Hid (B ≤ w1.heap.size) := Nat.le_trans hB hbl.size
  have HBb1 : Hid (b < w1.heap.size) := Nat.lt_of_lt_of_le hb hbl.size
  have HNe : Hid (w.heap.size ≠ b) := by show _ ≠ _; omega
  have HK1 : Hid (Kp B b w w1) := Kp.of hB hbl
  have HN := hide hn
  have HS := hide hs
  have HTk := hide htk
  have HMs := hide hms
  have HR := hide hr
  have HM := hide hl
  clear h ht hq hr hl hB hb hbx hbl hn hs htk hms hsz1
  by_cases htz : tok = 0
  · by_cases hmz : msg = 0
    · subst htz
      subst hmz
      have HE1 : Hid (tkT tokL 0 = []) := by show _ = _; unfold tkT; rw [if_pos rfl]
      have HE2 : Hid (tkT msgL 0 = []) := by show _ = _; unfold tkT; rw [if_pos rfl]
      go_enter Tryd.func12, Tryd.ntmps12
      go_wp2_with (first
        | (go_at_call 16; refine (pnum_any B b l [] n HN.out.lo HN.out.hi _ HP1.out HT1.out (by have := HM.out; simp; omega) HB1.out).mono ?_; rintro e w2 ⟨rfl, p2, k2⟩; have X2 := HX.out.kp HNe.out k2; have d2 := X2.c0; simp only at d2)
        | (go_at_call 5; refine (shopWord_any st HS.out.lo HS.out.hi _ (HT1.out.on k2.below).tab (HT1.out.on k2.below).wt).mono ?_; rintro e w3 ⟨rfl, b3⟩; have X3 := X2.below b3; have HB3 : B ≤ w3.heap.size := Nat.le_trans (Nat.le_trans HB1.out k2.size) b3.size)
        | (go_at_call 17; refine (ptext_any B b _ [32] (wordL st) _ (p2.on b3) (by have h1 := HM.out; have h2 := HN.out.len; have h3 := HS.out.word; simp; omega) HB3).mono ?_; rintro e w4 ⟨rfl, p4, k4⟩; have X4 := X3.kp HNe.out k4; have d4a := X4.c2; have d4b := X4.c3; have d4c := X4.c1; simp only at d4a d4b d4c; have HB4 : B ≤ w4.heap.size := Nat.le_trans HB3 k4.size; have HT4 := HT1.out.on (k2.trans ((Kp.of (Nat.le_trans HB1.out k2.size) b3).trans k4)).below)
        | (go_at_call 18; refine (pend_any B b _ _ p4 (by have h1 := HM.out; have h2 := HN.out.len; have h3 := HS.out.word; simp; omega) HB4).mono ?_; rintro e w7 ⟨rfl, p7, k7⟩; have X7 := X4.kp HNe.out k7; have d7c := X7.c1; simp only at d7c; have HB7 : B ≤ w7.heap.size := Nat.le_trans HB4 k7.size; have HT7 := HT4.on k7.below)
        | (go_at_call 19; refine (plines_any B b _ lno lnn lnc Q _ p7 HT7 (HQ1.out.on (k2.trans ((Kp.of (Nat.le_trans HB1.out k2.size) b3).trans (k4.trans k7))).below) HR.out (by have h1 := HM.out; have h2 := HN.out.len; have h3 := HS.out.word; simp; omega) HB7 (Nat.lt_of_lt_of_le HBb1.out (k2.trans ((Kp.of (Nat.le_trans HB1.out k2.size) b3).trans (k4.trans k7))).size)).mono ?_; rintro e w8 ⟨rfl, p8, k8⟩))
      go_end0
      refine ⟨rfl, ?_, HK1.out.trans (k2.trans ((Kp.of (Nat.le_trans HB1.out k2.size) b3).trans (k4.trans (k7.trans k8))))⟩
      unfold tellT
      simp only
      rw [HE1.out, HE2.out]
      simpa [List.append_assoc] using p8
    · subst htz
      have HE1 : Hid (tkT tokL 0 = []) := by show _ = _; unfold tkT; rw [if_pos rfl]
      have HE2 : Hid (tkT msgL msg = msgL ++ num msg) := by show _ = _; unfold tkT; rw [if_neg hmz]
      go_enter Tryd.func12, Tryd.ntmps12
      go_wp2_with (first
        | (go_at_call 16; refine (pnum_any B b _ msgL msg HMs.out.lo HMs.out.hi _ p4 HT4 (by have h1 := HM.out; have h2 := HN.out.len; have h3 := HS.out.word; simp [msgL]; omega) HB4).mono ?_; rintro e w6 ⟨rfl, p6, k6⟩; have X6 := X4.kp HNe.out k6; have d6c := X6.c1; simp only at d6c; have HB6 : B ≤ w6.heap.size := Nat.le_trans HB4 k6.size; have HT6 := HT4.on k6.below)
        | (go_at_call 16; refine (pnum_any B b l [] n HN.out.lo HN.out.hi _ HP1.out HT1.out (by have := HM.out; simp; omega) HB1.out).mono ?_; rintro e w2 ⟨rfl, p2, k2⟩; have X2 := HX.out.kp HNe.out k2; have d2 := X2.c0; simp only at d2)
        | (go_at_call 5; refine (shopWord_any st HS.out.lo HS.out.hi _ (HT1.out.on k2.below).tab (HT1.out.on k2.below).wt).mono ?_; rintro e w3 ⟨rfl, b3⟩; have X3 := X2.below b3; have HB3 : B ≤ w3.heap.size := Nat.le_trans (Nat.le_trans HB1.out k2.size) b3.size)
        | (go_at_call 17; refine (ptext_any B b _ [32] (wordL st) _ (p2.on b3) (by have h1 := HM.out; have h2 := HN.out.len; have h3 := HS.out.word; simp; omega) HB3).mono ?_; rintro e w4 ⟨rfl, p4, k4⟩; have X4 := X3.kp HNe.out k4; have d4a := X4.c2; have d4b := X4.c3; have d4c := X4.c1; simp only at d4a d4b d4c; have HB4 : B ≤ w4.heap.size := Nat.le_trans HB3 k4.size; have HT4 := HT1.out.on (k2.trans ((Kp.of (Nat.le_trans HB1.out k2.size) b3).trans k4)).below)
        | (go_at_call 18; refine (pend_any B b _ _ p6 (by have h1 := HM.out; have h2 := HN.out.len; have h3 := HS.out.word; have h5 := HMs.out.len; simp [msgL]; omega) HB6).mono ?_; rintro e w7 ⟨rfl, p7, k7⟩; have X7 := X6.kp HNe.out k7; have d7c := X7.c1; simp only at d7c; have HB7 : B ≤ w7.heap.size := Nat.le_trans HB6 k7.size; have HT7 := HT6.on k7.below)
        | (go_at_call 19; refine (plines_any B b _ lno lnn lnc Q _ p7 HT7 (HQ1.out.on (k2.trans ((Kp.of (Nat.le_trans HB1.out k2.size) b3).trans (k4.trans (k6.trans k7)))).below) HR.out (by have h1 := HM.out; have h2 := HN.out.len; have h3 := HS.out.word; have h5 := HMs.out.len; simp [msgL]; omega) HB7 (Nat.lt_of_lt_of_le HBb1.out (k2.trans ((Kp.of (Nat.le_trans HB1.out k2.size) b3).trans (k4.trans (k6.trans k7)))).size)).mono ?_; rintro e w8 ⟨rfl, p8, k8⟩))
      go_end0
      refine ⟨rfl, ?_, HK1.out.trans (k2.trans ((Kp.of (Nat.le_trans HB1.out k2.size) b3).trans (k4.trans (k6.trans (k7.trans k8)))))⟩
      unfold tellT
      simp only
      rw [HE1.out, HE2.out]
      simpa [List.append_assoc] using p8
  · by_cases hmz : msg = 0
    · subst hmz
      have HE1 : Hid (tkT tokL tok = tokL ++ num tok) := by show _ = _; unfold tkT; rw [if_neg htz]
      have HE2 : Hid (tkT msgL 0 = []) := by show _ = _; unfold tkT; rw [if_pos rfl]
      go_enter Tryd.func12, Tryd.ntmps12
      go_wp2_with (first
        | (go_at_call 16; refine (pnum_any B b _ tokL tok HTk.out.lo HTk.out.hi _ p4 HT4 (by have h1 := HM.out; have h2 := HN.out.len; have h3 := HS.out.word; simp [tokL]; omega) HB4).mono ?_; rintro e w5 ⟨rfl, p5, k5⟩; have X5 := X4.kp HNe.out k5; have d5b := X5.c3; have d5c := X5.c1; simp only at d5b d5c; have HB5 : B ≤ w5.heap.size := Nat.le_trans HB4 k5.size; have HT5 := HT4.on k5.below)
        | (go_at_call 16; refine (pnum_any B b l [] n HN.out.lo HN.out.hi _ HP1.out HT1.out (by have := HM.out; simp; omega) HB1.out).mono ?_; rintro e w2 ⟨rfl, p2, k2⟩; have X2 := HX.out.kp HNe.out k2; have d2 := X2.c0; simp only at d2)
        | (go_at_call 5; refine (shopWord_any st HS.out.lo HS.out.hi _ (HT1.out.on k2.below).tab (HT1.out.on k2.below).wt).mono ?_; rintro e w3 ⟨rfl, b3⟩; have X3 := X2.below b3; have HB3 : B ≤ w3.heap.size := Nat.le_trans (Nat.le_trans HB1.out k2.size) b3.size)
        | (go_at_call 17; refine (ptext_any B b _ [32] (wordL st) _ (p2.on b3) (by have h1 := HM.out; have h2 := HN.out.len; have h3 := HS.out.word; simp; omega) HB3).mono ?_; rintro e w4 ⟨rfl, p4, k4⟩; have X4 := X3.kp HNe.out k4; have d4a := X4.c2; have d4b := X4.c3; have d4c := X4.c1; simp only at d4a d4b d4c; have HB4 : B ≤ w4.heap.size := Nat.le_trans HB3 k4.size; have HT4 := HT1.out.on (k2.trans ((Kp.of (Nat.le_trans HB1.out k2.size) b3).trans k4)).below)
        | (go_at_call 18; refine (pend_any B b _ _ p5 (by have h1 := HM.out; have h2 := HN.out.len; have h3 := HS.out.word; have h4 := HTk.out.len; simp [tokL]; omega) HB5).mono ?_; rintro e w7 ⟨rfl, p7, k7⟩; have X7 := X5.kp HNe.out k7; have d7c := X7.c1; simp only at d7c; have HB7 : B ≤ w7.heap.size := Nat.le_trans HB5 k7.size; have HT7 := HT5.on k7.below)
        | (go_at_call 19; refine (plines_any B b _ lno lnn lnc Q _ p7 HT7 (HQ1.out.on (k2.trans ((Kp.of (Nat.le_trans HB1.out k2.size) b3).trans (k4.trans (k5.trans k7)))).below) HR.out (by have h1 := HM.out; have h2 := HN.out.len; have h3 := HS.out.word; have h4 := HTk.out.len; simp [tokL]; omega) HB7 (Nat.lt_of_lt_of_le HBb1.out (k2.trans ((Kp.of (Nat.le_trans HB1.out k2.size) b3).trans (k4.trans (k5.trans k7)))).size)).mono ?_; rintro e w8 ⟨rfl, p8, k8⟩))
      go_end0
      refine ⟨rfl, ?_, HK1.out.trans (k2.trans ((Kp.of (Nat.le_trans HB1.out k2.size) b3).trans (k4.trans (k5.trans (k7.trans k8)))))⟩
      unfold tellT
      simp only
      rw [HE1.out, HE2.out]
      simpa [List.append_assoc] using p8
    · skip
      have HE1 : Hid (tkT tokL tok = tokL ++ num tok) := by show _ = _; unfold tkT; rw [if_neg htz]
      have HE2 : Hid (tkT msgL msg = msgL ++ num msg) := by show _ = _; unfold tkT; rw [if_neg hmz]
      go_enter Tryd.func12, Tryd.ntmps12
      go_wp2_with (first
        | (go_at_call 16; refine (pnum_any B b _ msgL msg HMs.out.lo HMs.out.hi _ p5 HT5 (by have h1 := HM.out; have h2 := HN.out.len; have h3 := HS.out.word; have h4 := HTk.out.len; simp [tokL, msgL]; omega) HB5).mono ?_; rintro e w6 ⟨rfl, p6, k6⟩; have X6 := X5.kp HNe.out k6; have d6c := X6.c1; simp only at d6c; have HB6 : B ≤ w6.heap.size := Nat.le_trans HB5 k6.size; have HT6 := HT5.on k6.below)
        | (go_at_call 16; refine (pnum_any B b _ tokL tok HTk.out.lo HTk.out.hi _ p4 HT4 (by have h1 := HM.out; have h2 := HN.out.len; have h3 := HS.out.word; simp [tokL]; omega) HB4).mono ?_; rintro e w5 ⟨rfl, p5, k5⟩; have X5 := X4.kp HNe.out k5; have d5b := X5.c3; have d5c := X5.c1; simp only at d5b d5c; have HB5 : B ≤ w5.heap.size := Nat.le_trans HB4 k5.size; have HT5 := HT4.on k5.below)
        | (go_at_call 16; refine (pnum_any B b l [] n HN.out.lo HN.out.hi _ HP1.out HT1.out (by have := HM.out; simp; omega) HB1.out).mono ?_; rintro e w2 ⟨rfl, p2, k2⟩; have X2 := HX.out.kp HNe.out k2; have d2 := X2.c0; simp only at d2)
        | (go_at_call 5; refine (shopWord_any st HS.out.lo HS.out.hi _ (HT1.out.on k2.below).tab (HT1.out.on k2.below).wt).mono ?_; rintro e w3 ⟨rfl, b3⟩; have X3 := X2.below b3; have HB3 : B ≤ w3.heap.size := Nat.le_trans (Nat.le_trans HB1.out k2.size) b3.size)
        | (go_at_call 17; refine (ptext_any B b _ [32] (wordL st) _ (p2.on b3) (by have h1 := HM.out; have h2 := HN.out.len; have h3 := HS.out.word; simp; omega) HB3).mono ?_; rintro e w4 ⟨rfl, p4, k4⟩; have X4 := X3.kp HNe.out k4; have d4a := X4.c2; have d4b := X4.c3; have d4c := X4.c1; simp only at d4a d4b d4c; have HB4 : B ≤ w4.heap.size := Nat.le_trans HB3 k4.size; have HT4 := HT1.out.on (k2.trans ((Kp.of (Nat.le_trans HB1.out k2.size) b3).trans k4)).below)
        | (go_at_call 18; refine (pend_any B b _ _ p6 (by have h1 := HM.out; have h2 := HN.out.len; have h3 := HS.out.word; have h4 := HTk.out.len; have h5 := HMs.out.len; simp [tokL, msgL]; omega) HB6).mono ?_; rintro e w7 ⟨rfl, p7, k7⟩; have X7 := X6.kp HNe.out k7; have d7c := X7.c1; simp only at d7c; have HB7 : B ≤ w7.heap.size := Nat.le_trans HB6 k7.size; have HT7 := HT6.on k7.below)
        | (go_at_call 19; refine (plines_any B b _ lno lnn lnc Q _ p7 HT7 (HQ1.out.on (k2.trans ((Kp.of (Nat.le_trans HB1.out k2.size) b3).trans (k4.trans (k5.trans (k6.trans k7))))).below) HR.out (by have h1 := HM.out; have h2 := HN.out.len; have h3 := HS.out.word; have h4 := HTk.out.len; have h5 := HMs.out.len; simp [tokL, msgL]; omega) HB7 (Nat.lt_of_lt_of_le HBb1.out (k2.trans ((Kp.of (Nat.le_trans HB1.out k2.size) b3).trans (k4.trans (k5.trans (k6.trans k7))))).size)).mono ?_; rintro e w8 ⟨rfl, p8, k8⟩))
      go_end0
      refine ⟨rfl, ?_, HK1.out.trans (k2.trans ((Kp.of (Nat.le_trans HB1.out k2.size) b3).trans (k4.trans (k5.trans (k6.trans (k7.trans k8))))))⟩
      unfold tellT
      simp only
      rw [HE1.out, HE2.out]
      simpa [List.append_assoc] using p8
theorem tab_lt {w : World} (h : Tab w) : 1 < w.heap.size := by
  have h1 := h.is
  unfold Lib.TabIs World.var? at h1
  rw [gTab] at h1
  simp only [Option.bind_some] at h1
  cases hx : w.heap[1]? with
  | none => rw [hx] at h1; cases h1
  | some o => exact (Array.getElem?_eq_some_iff.1 hx).1
theorem lo_of {so : Option Addr} {n c : Nat} {Q : List Lne} (h : LnSrc w so n c Q) : Lo w.heap.size w so n c Q :=
  ⟨h, fun ad ha hn => by
    have := World.block_lt_of_cell? _ _ (h.cell ad ha 0 hn).c0
    rwa [block_of_add] at this⟩
set_option maxRecDepth 100000 in
set_option maxHeartbeats 1600000 in
theorem tell_any (n st tok msg : Int) (lno : Option Addr) (lnn lnc : Nat) (Q : List Lne) (w : World) (hn : R64 n) (hs : R64 st) (htk : R64 tok) (hms : R64 msg) (hT : Tab w) (hW : Wt w) (hq : LnSrc w lno lnn lnc Q) (hr : ∀ m, m ∈ Q → Rn m) (hl : wtL Q ≤ 100000000000) :
    Calls Tryd.prog 7 #[.int .i64 n, .agg #[.int .i64 st, .slice lno lnn lnc, .int .i64 tok, .int .i64 msg]] w fun e w' => e = .returned (.string (bs (tellT n ⟨st, lno, lnn, lnc, tok, msg⟩ Q))) ∧ Below w.heap.size w w' := by
  obtain ⟨w1, hw1⟩ : ∃ w1, w.alloc (.cells #[.int .i64 st, .slice lno lnn lnc, .int .i64 tok, .int .i64 msg] 28) = w1 := ⟨_, rfl⟩
  have hbx : AnBox w1 w.heap.size ⟨st, lno, lnn, lnc, tok, msg⟩ := by rw [← hw1]; exact AnBox_new w ⟨st, lno, lnn, lnc, tok, msg⟩
  have hbl : Below w.heap.size w w1 := by rw [← hw1]; exact below_new _ _
  have hsz1 : w1.heap.size = w.heap.size + 1 := by rw [← hw1]; simp
  obtain ⟨w2, hw2⟩ : ∃ w2, w1.alloc (.cells #[.pointer none, .slice none 0 0] 40) = w2 := ⟨_, rfl⟩
  have hbl2 : Below w1.heap.size w1 w2 := by rw [← hw2]; exact below_new _ _
  have hsz2 : w2.heap.size = w.heap.size + 2 := by rw [← hw2]; simp; omega
  have hp : w2.heap[w1.heap.size]? = some (.cells #[.pointer none, .slice none 0 0] 40 (0, 0)) := by rw [← hw2, heap_alloc_new]
  have hb2 : Below w.heap.size w w2 := hbl.trans (hbl2.mono hbl.size)
  have hld : (ldAn (.pointer (some ⟨w.heap.size, 0, none⟩))).run Tryd.prog w2 = .ok (.agg #[.int .i64 st, .slice lno lnn lnc, .int .i64 tok, .int .i64 msg]) w2 := run_ldAn (hbx.below hbl2)
  have hpg : Pg w.heap.size w1.heap.size [] w2 := ⟨.inl ⟨by omega, .slice none 0 0, hp, ⟨rfl, .inl ⟨rfl, rfl⟩⟩, by simp [Value.ownBlock]⟩⟩
  have hc0 := panswer_any w.heap.size w1.heap.size [] n st tok msg lno lnn lnc Q w2 hn hs htk hms hpg (Tb.on ⟨hT, hW, tab_lt hT⟩ hb2) ((lo_of hq).on hb2) hr (by simp; omega) (by omega) (by omega)
  have HC := hide hc0
  have HB := hide hb2
  have hne : tellT n ⟨st, lno, lnn, lnc, tok, msg⟩ Q ≠ [] := by unfold tellT; simp
  have HE := hide hne
  clear hc0 hpg hb2 hp hbl2 hbl hbx hne hT hW hq hr hn hs htk hms hsz2 hsz1 hl
  go_enter Tryd.func7, Tryd.ntmps7
  go_wp2_with (first | (go_at_call 12; refine HC.out.mono ?_; rintro e w3 ⟨rfl, p3, k3⟩; rw [List.nil_append] at p3) | (go_at_call 13; refine (string_any _ _ _ _ p3 HE.out).mono ?_; rintro e w4 ⟨rfl, b4⟩))
  go_ret
  exact ⟨rfl, HB.out.trans (k3.below.trans b4)⟩
end Go.Proofs.YtheiblagjeekjaaDoor
