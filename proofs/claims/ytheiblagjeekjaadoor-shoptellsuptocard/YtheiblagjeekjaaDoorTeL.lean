/- A page's lines. -/
import Derived.Test.YtheiblagjeekjaaDoorTeT
namespace Go.Proofs.YtheiblagjeekjaaDoor
open Go.RowKit
variable {w w' : World} {g : Nat}
attribute [local go_sem ↓] ldLn_eq stLn_eq

def inL : List UInt8 := [32, 105, 110, 32]
/-- what a line's parts tell -/
def ptT (p : Int) : List UInt8 := if p = 1 then [] else inL ++ num p
/-- a shopping line -/
def lnT (m : Lne) : List UInt8 := [32, 32] ++ m.sku.data.toList ++ [32] ++ num m.qty ++ ptT m.parts ++ [10]
def lnsT (Q : List Lne) : List UInt8 := (Q.map lnT).flatten
/-- how long they may be -/
def wtL (Q : List Lne) : Nat := (Q.map fun m => m.sku.size + 64).sum
/-- numbers of 64 bits -/
structure Rn (m : Lne) : Prop where
  q0 : -9223372036854775808 ≤ m.qty
  q1 : m.qty ≤ 9223372036854775807
  p0 : -9223372036854775808 ≤ m.parts
  p1 : m.parts ≤ 9223372036854775807
theorem wtL_cons (m : Lne) (Q : List Lne) : wtL (m :: Q) = m.sku.size + 64 + wtL Q := rfl
theorem wtL_app (P Q : List Lne) : wtL (P ++ Q) = wtL P + wtL Q := by
  induction P with
  | nil => simp [wtL]
  | cons m P ih => rw [List.cons_append, wtL_cons, wtL_cons, ih]; omega
theorem wtL_len (Q : List Lne) : 64 * Q.length ≤ wtL Q := by
  induction Q with
  | nil => simp [wtL]
  | cons m Q ih => rw [wtL_cons, List.length_cons]; omega
theorem ptT_len {p : Int} (h0 : -9223372036854775808 ≤ p) (h1 : p ≤ 9223372036854775807) : (ptT p).length ≤ 25 := by
  unfold ptT
  split
  · simp
  · have := num_len p h0 h1; simp [inL]; omega
theorem lnT_len {m : Lne} (h : Rn m) : (lnT m).length ≤ m.sku.size + 64 := by
  have h1 := num_len m.qty h.q0 h.q1
  have h2 := ptT_len h.p0 h.p1
  have h3 : m.sku.data.toList.length = m.sku.size := by simp
  unfold lnT
  simp only [List.length_append, h3, List.length_cons, List.length_nil]
  omega
theorem lnsT_app (P Q : List Lne) : lnsT (P ++ Q) = lnsT P ++ lnsT Q := by simp [lnsT]
theorem lnsT_one (m : Lne) : lnsT [m] = lnT m := by simp [lnsT]
theorem lnsT_len : ∀ {Q : List Lne}, (∀ m, m ∈ Q → Rn m) → (lnsT Q).length ≤ wtL Q
  | [], _ => by simp [lnsT]
  | m :: Q, h => by
    have h1 := lnT_len (h m (List.mem_cons_self ..))
    have h2 := lnsT_len (fun x hx => h x (List.mem_cons_of_mem _ hx))
    rw [wtL_cons]
    show (lnT m ++ lnsT Q).length ≤ _
    rw [List.length_append]
    omega
theorem take_at (Q : List Lne) (k : Nat) (h : k < Q.length) : Q.take (k + 1) = Q.take k ++ [Q.getD k ln0] := by
  rw [List.take_succ_eq_append_getElem h]; simp [List.getD, h]
theorem wtL_take {Q : List Lne} {k : Nat} (h : k < Q.length) : wtL (Q.take k) + (Q.getD k ln0).sku.size + 64 ≤ wtL Q := by
  have e : wtL Q = wtL (Q.take (k + 1)) + wtL (Q.drop (k + 1)) := by rw [← wtL_app, List.take_append_drop]
  rw [e, take_at Q k h, wtL_app]
  show _ ≤ _ + ((Q.getD k ln0).sku.size + 64 + 0) + _
  omega
/-- lines that lie below a block -/
structure Lo (B : Nat) (w : World) (so : Option Addr) (n c : Nat) (Q : List Lne) : Prop where
  src : LnSrc w so n c Q
  low : ∀ ad, so = some ad → 0 < n → ad.block < B
theorem LnAt.low {B : Nat} {a : Addr} {m : Lne} (S : LnAt w a m) (h0 : a.block < B) (hb : Below B w w') : LnAt w' a m :=
  ⟨by rw [hb.cell h0]; exact S.c0, by rw [hb.cell (by rw [block_of_add]; exact h0)]; exact S.c1, by rw [hb.cell (by rw [block_of_add]; exact h0)]; exact S.c2⟩
theorem Lo.on {B : Nat} {so : Option Addr} {n c : Nat} {Q : List Lne} (h : Lo B w so n c Q) (hb : Below B w w') : Lo B w' so n c Q :=
  ⟨⟨h.src.len, h.src.nil, fun ad ha t ht => (h.src.cell ad ha t ht).low (by rw [block_of_add]; exact h.low ad ha (by omega)) hb⟩, h.low⟩
theorem LnBox.kp {B b : Nat} {m : Lne} (h : LnBox w g m) (hne : g ≠ b) (k : Kp B b w w') : LnBox w' g m :=
  k.others g _ h (fun e => hne (Option.some.inj e)) (fun c fz e => by
    have := (Obj.cells.inj e).2.1
    revert this
    decide)

set_option maxRecDepth 100000 in
set_option maxHeartbeats 1600000 in
theorem plines_any (B b : Nat) (l : List UInt8) (so : Option Addr) (n c : Nat) (Q : List Lne) (w : World) (h : Pg B b l w) (ht : Tb B w) (hq : Lo B w so n c Q) (hr : ∀ m, m ∈ Q → Rn m) (hl : l.length + wtL Q ≤ 1000000000000) (hB : B ≤ w.heap.size) (hb : b < w.heap.size) :
    Calls Tryd.prog 19 #[.pointer (some ⟨b, 0, none⟩), .slice so n c] w fun e w' => e = .returned (.tuple #[]) ∧ Pg B b (l ++ lnsT Q) w' ∧ Kp B b w w' := by
  have HP := hide h
  have HT := hide ht
  have HQ := hide hq
  have HR := hide hr
  have HB := hide hB
  have HBb := hide hb
  have hlen := hq.src.len
  have hw := wtL_len Q
  clear h ht hq hr hB hb
  go_enter Tryd.func19, Tryd.ntmps19
  go_wp2
  go_loopw [8] (fun v wr => ∃ k : Nat, k ≤ n ∧ v = .int .i64 (k : Int) ∧ Hid (Pg B b (l ++ lnsT (Q.take k)) wr) ∧ Hid (Kp B b w wr)) (fun v _ => n - (intOf v).toNat)
  case atStart => exact ⟨0, by omega, rfl, by simpa [lnsT] using HP, Kp.refl _ _ _⟩
  case round =>
    obtain ⟨k, hk, rfl, HG, HK⟩ := hrel
    by_cases hlt : k < n
    · have hkq : k < Q.length := by omega
      obtain ⟨ad, rfl, x⟩ := (HQ.out.on HK.out.below).src.at k hlt
      obtain ⟨y, hy⟩ : ∃ y, Q.getD k ln0 = y := ⟨_, rfl⟩
      have hym : Rn y := HR.out y (by rw [← hy]; simp [List.getD, hkq])
      have hwt := wtL_take hkq
      rw [hy] at x hwt
      have HE : Hid (lnsT (Q.take (k + 1)) = lnsT (Q.take k) ++ lnT y) := by show _ = _; rw [take_at Q k hkq, lnsT_app, hy, lnsT_one]
      have hln : (lnsT (Q.take k)).length ≤ wtL (Q.take k) := lnsT_len (fun m hm => HR.out m (List.mem_of_mem_take hm))
      obtain ⟨sku, qty, parts⟩ := y
      have x0 : (ldLn (.pointer (some (ad.add (k * 3))))).run Tryd.prog wr = .ok (.agg #[.string sku, .int .i64 qty, .int .i64 parts]) wr := run_laLn x
      obtain ⟨w3, hst, hbx, hbl, hsz⟩ := madeLn wr ⟨sku, qty, parts⟩ wr.heap.size rfl
      have hst' : (stLn (.pointer (some ⟨wr.heap.size, 0, none⟩)) (.agg #[.string sku, .int .i64 qty, .int .i64 parts])).run Tryd.prog (wr.alloc (.cells #[.string ⟨#[]⟩, .int .i64 0, .int .i64 0] 31)) = .ok () w3 := hst
      obtain ⟨l0, hl0⟩ : ∃ l0, l ++ lnsT (Q.take k) = l0 := ⟨_, rfl⟩
      rw [hl0] at HG
      have hl1 : l0.length + sku.size + 64 ≤ 1000000000000 := by
        rw [← hl0, List.length_append]
        have e : (⟨sku, qty, parts⟩ : Lne).sku = sku := rfl
        rw [e] at hwt
        omega
      have HL0 := hide hl0
      have HG3 := hide (HG.out.on hbl)
      have HBr : Hid (B ≤ wr.heap.size) := Nat.le_trans HB.out HK.out.size
      have HK3 : Hid (Kp B b wr w3) := Kp.of HBr.out hbl
      have HNe : Hid (wr.heap.size ≠ b) := by have h1 := HBb.out; have h2 := HK.out.size; show _ ≠ _; omega
      have HX := hide hbx
      have HRn := hide hym
      have hss : sku.data.toList.length = sku.size := by simp
      have c0 := hbx.c0
      simp only at c0
      have HM := hide hl1
      clear hl1 hwt hln hst hbx hl0 hym hy x
      have HS3 : Hid (B ≤ w3.heap.size) := Nat.le_trans HBr.out HK3.out.size
      have HC0 := ptext_any B b l0 [32, 32] sku.data.toList w3 HG3.out (by have := HM.out; simp; omega) HS3.out
      rw [bs_of] at HC0
      have HC := hide HC0
      clear HC0
      by_cases hp1 : parts = 1
      · subst hp1
        have HPt : Hid (ptT 1 = []) := rfl
        go_wp2_with (first
          | (go_at_call 17; refine HC.out.mono ?_; rintro e w4 ⟨rfl, p4, k4⟩; have X4 := HX.out.kp HNe.out k4; have d4 := X4.c1; simp only at d4)
          | (go_at_call 16; refine (pnum_any B b _ [32] qty HRn.out.q0 HRn.out.q1 _ p4 ((HT.out.on HK.out.below).on (HK3.out.trans k4).below) (by have := HM.out; simp; omega) (Nat.le_trans HS3.out k4.size)).mono ?_; rintro e w5 ⟨rfl, p5, k5⟩; have X5 := X4.kp HNe.out k5; have d5 := X5.c2; simp only at d5)
          | (go_at_call 18; refine (pend_any B b _ _ p5 (by have h1 := HM.out; have h2 := num_len qty HRn.out.q0 HRn.out.q1; simp; omega) (Nat.le_trans HS3.out (k4.trans k5).size)).mono ?_; rintro e w7 ⟨rfl, p7, k7⟩))
        go_roundw
        case rel =>
          refine ⟨k + 1, by omega, by go_num, ?_, HK.out.trans (HK3.out.trans (k4.trans (k5.trans k7)))⟩
          show Pg _ _ _ _
          rw [HE.out, ← List.append_assoc, HL0.out]
          unfold lnT
          rw [HPt.out]
          simpa [List.append_assoc] using p7
        case measure => simp [intOf]; omega
      · have HPt : Hid (ptT parts = inL ++ num parts) := by show _ = _; unfold ptT; rw [if_neg hp1]
        go_wp2_with (first
          | (go_at_call 17; refine HC.out.mono ?_; rintro e w4 ⟨rfl, p4, k4⟩; have X4 := HX.out.kp HNe.out k4; have d4 := X4.c1; simp only at d4)
          | (go_at_call 16; refine (pnum_any B b _ inL parts HRn.out.p0 HRn.out.p1 _ p5 ((HT.out.on HK.out.below).on (HK3.out.trans (k4.trans k5)).below) (by have h1 := HM.out; have h2 := num_len qty HRn.out.q0 HRn.out.q1; simp [inL]; omega) (Nat.le_trans HS3.out (k4.trans k5).size)).mono ?_; rintro e w6 ⟨rfl, p6, k6⟩)
          | (go_at_call 16; refine (pnum_any B b _ [32] qty HRn.out.q0 HRn.out.q1 _ p4 ((HT.out.on HK.out.below).on (HK3.out.trans k4).below) (by have := HM.out; simp; omega) (Nat.le_trans HS3.out k4.size)).mono ?_; rintro e w5 ⟨rfl, p5, k5⟩; have X5 := X4.kp HNe.out k5; have d5 := X5.c2; simp only at d5)
          | (go_at_call 18; refine (pend_any B b _ _ p6 (by have h1 := HM.out; have h2 := num_len qty HRn.out.q0 HRn.out.q1; have h3 := num_len parts HRn.out.p0 HRn.out.p1; simp [inL]; omega) (Nat.le_trans HS3.out (k4.trans (k5.trans k6)).size)).mono ?_; rintro e w7 ⟨rfl, p7, k7⟩))
        go_roundw
        case rel =>
          refine ⟨k + 1, by omega, by go_num, ?_, HK.out.trans (HK3.out.trans (k4.trans (k5.trans (k6.trans k7))))⟩
          show Pg _ _ _ _
          rw [HE.out, ← List.append_assoc, HL0.out]
          unfold lnT
          rw [HPt.out]
          simpa [List.append_assoc] using p7
        case measure => simp [intOf]; omega
    · obtain rfl : k = n := by omega
      have HF : Hid (Q.take k = Q) := List.take_of_length_le (by omega)
      go_wp2
      go_end0
      exact ⟨rfl, by have := HG.out; rw [HF.out] at this; exact this, HK.out⟩
end Go.Proofs.YtheiblagjeekjaaDoor
