/- LEnt -/
import Derived.Test.YtehcehhfdhiomaaGreatTv16
namespace Go.Proofs.YtehcehhfdhiomaaGreat.K
open Go.RowKit

structure En where
 rep : Int
 num : Int
 sku : ByteArray
 qty : Int
def enC (e : En) : List Value := [.int .i64 e.rep, .int .i64 e.num, .string e.sku, .int .i64 e.qty]
abbrev enV (e : En) : Value := .agg #[.int .i64 e.rep, .int .i64 e.num, .string e.sku, .int .i64 e.qty]
def isR (r : Int) : Bool := decide (0 ≤ r) && decide (r < 16)
def ceE (e : En) : Int := if isR e.rep = false then 3 else if e.num < 1 ∨ 1000000000 < e.num then 2 else if good e.sku.data.toList = false then 5 else if e.qty < 1 ∨ 1000000 < e.qty then 6 else 0

theorem isRep_any (r : Int) (w : World) : Calls Tryz.prog 71 #[.int .i64 r] w fun e w' => e = .returned (.bool (isR r)) ∧ w' = w := by
 go_enter Tryz.func71, Tryz.ntmps71
 by_cases h0 : 0 ≤ r
 ·have HR : Hid (isR r = decide (r < 16)) := by show _ = _; unfold isR; rw [decide_eq_true h0, Bool.true_and]
  go_wp2
  go_ret
  exact ⟨ret_bool HR.out.symm, rfl⟩
 ·have HR : Hid (isR r = false) := by show _ = _; unfold isR; rw [decide_eq_false h0, Bool.false_and]
  go_wp2
  go_ret
  exact ⟨ret_bool HR.out.symm, rfl⟩

set_option maxHeartbeats 1600000 in
theorem checkEntry_any (e : En) (w : World) (hs : e.sku.size ≤ maxLen) : Calls Tryz.prog 43 #[enV e] w fun x w' => x = .returned (.int .i64 (ceE e)) ∧ Below w.heap.size w w' := by
 obtain ⟨r, m, s, q⟩ := e
 have HB : Hid (Below w.heap.size w (w.alloc (.cells #[.int .i64 r, .int .i64 m, .string s, .int .i64 q] 48))) := (Below.refl _ _).alloc (Nat.le_refl _) _
 have HS : Hid (s.size ≤ maxLen) := hs
 clear hs
 obtain ⟨x, Hx⟩ : ∃ x, Hid (isR r = x) := ⟨_, rfl⟩
 obtain ⟨g, Hg⟩ : ∃ g, Hid (good s.data.toList = g) := ⟨_, rfl⟩
 cases x with
 | false =>
  have HF : Hid (ceE ⟨r, m, s, q⟩ = 3) := by show _ = _; unfold ceE; rw [if_pos Hx.out]
  go_enter Tryz.func43, Tryz.ntmps43
  go_wp2_with (go_at_call 71; refine (isRep_any r _).mono ?_; rintro e w' ⟨rfl, rfl⟩; rw [Hx.out])
  go_ret
  exact ⟨ret_int HF.out.symm, HB.out⟩
 | true =>
  have hx1 : 0 ≤ r ∧ r < 16 := by have := Hx.out; unfold isR at this; simpa using this
  have hx2 : ¬ isR r = false := by rw [Hx.out]; simp
  by_cases h1 : m < 1
  ·have HF : Hid (ceE ⟨r, m, s, q⟩ = 2) := by show _ = _; unfold ceE; rw [if_neg hx2, if_pos (Or.inl h1)]
   clear hx2
   go_enter Tryz.func43, Tryz.ntmps43
   go_wp2_with (go_at_call 71; refine (isRep_any r _).mono ?_; rintro e w' ⟨rfl, rfl⟩; rw [Hx.out])
   go_ret
   exact ⟨ret_int HF.out.symm, HB.out⟩
  by_cases h2 : 1000000000 < m
  ·have HF : Hid (ceE ⟨r, m, s, q⟩ = 2) := by show _ = _; unfold ceE; rw [if_neg hx2, if_pos (Or.inr h2)]
   clear hx2
   go_enter Tryz.func43, Tryz.ntmps43
   go_wp2_with (go_at_call 71; refine (isRep_any r _).mono ?_; rintro e w' ⟨rfl, rfl⟩; rw [Hx.out])
   go_ret
   exact ⟨ret_int HF.out.symm, HB.out⟩
  have hm2 : ¬ (m < 1 ∨ 1000000000 < m) := by omega
  cases g with
  | false =>
   have HF : Hid (ceE ⟨r, m, s, q⟩ = 5) := by show _ = _; unfold ceE; rw [if_neg hx2, if_neg hm2, if_pos Hg.out]
   clear hx2 hm2
   go_enter Tryz.func43, Tryz.ntmps43
   go_wp2_with (first | (go_at_call 71; refine (isRep_any r _).mono ?_; rintro e w' ⟨rfl, rfl⟩; rw [Hx.out]) | (go_at_call 72; refine (good_any s _ HS.out).mono ?_; rintro e w' ⟨rfl, rfl⟩; rw [Hg.out]))
   go_ret
   exact ⟨ret_int HF.out.symm, HB.out⟩
  | true =>
   have hg2 : ¬ good s.data.toList = false := by rw [Hg.out]; simp
   by_cases h3 : q < 1
   ·have HF : Hid (ceE ⟨r, m, s, q⟩ = 6) := by show _ = _; unfold ceE; rw [if_neg hx2, if_neg hm2, if_neg hg2, if_pos (Or.inl h3)]
    clear hx2 hm2 hg2
    go_enter Tryz.func43, Tryz.ntmps43
    go_wp2_with (first | (go_at_call 71; refine (isRep_any r _).mono ?_; rintro e w' ⟨rfl, rfl⟩; rw [Hx.out]) | (go_at_call 72; refine (good_any s _ HS.out).mono ?_; rintro e w' ⟨rfl, rfl⟩; rw [Hg.out]))
    go_ret
    exact ⟨ret_int HF.out.symm, HB.out⟩
   by_cases h4 : 1000000 < q
   ·have HF : Hid (ceE ⟨r, m, s, q⟩ = 6) := by show _ = _; unfold ceE; rw [if_neg hx2, if_neg hm2, if_neg hg2, if_pos (Or.inr h4)]
    clear hx2 hm2 hg2
    go_enter Tryz.func43, Tryz.ntmps43
    go_wp2_with (first | (go_at_call 71; refine (isRep_any r _).mono ?_; rintro e w' ⟨rfl, rfl⟩; rw [Hx.out]) | (go_at_call 72; refine (good_any s _ HS.out).mono ?_; rintro e w' ⟨rfl, rfl⟩; rw [Hg.out]))
    go_ret
    exact ⟨ret_int HF.out.symm, HB.out⟩
   have hq2 : ¬ (q < 1 ∨ 1000000 < q) := by omega
   have HF : Hid (ceE ⟨r, m, s, q⟩ = 0) := by show _ = _; unfold ceE; rw [if_neg hx2, if_neg hm2, if_neg hg2, if_neg hq2]
   clear hx2 hm2 hg2 hq2
   go_enter Tryz.func43, Tryz.ntmps43
   go_wp2_with (first | (go_at_call 71; refine (isRep_any r _).mono ?_; rintro e w' ⟨rfl, rfl⟩; rw [Hx.out]) | (go_at_call 72; refine (good_any s _ HS.out).mono ?_; rintro e w' ⟨rfl, rfl⟩; rw [Hg.out]))
   go_ret
   exact ⟨ret_int HF.out.symm, HB.out⟩
set_option maxHeartbeats 1600000 in
theorem refCheckEntry_any (e : En) (w : World) (hs : e.sku.size ≤ maxLen) : Calls Tryz.prog 40 #[enV e] w fun x w' => x = .returned (.int .i64 (ceE e)) ∧ Below w.heap.size w w' := by
 obtain ⟨r, m, s, q⟩ := e
 have HB : Hid (Below w.heap.size w (w.alloc (.cells #[.int .i64 r, .int .i64 m, .string s, .int .i64 q] 48))) := (Below.refl _ _).alloc (Nat.le_refl _) _
 have HS : Hid (s.size ≤ maxLen) := hs
 clear hs
 obtain ⟨x, Hx⟩ : ∃ x, Hid (isR r = x) := ⟨_, rfl⟩
 obtain ⟨g, Hg⟩ : ∃ g, Hid (good s.data.toList = g) := ⟨_, rfl⟩
 cases x with
 | false =>
  have HF : Hid (ceE ⟨r, m, s, q⟩ = 3) := by show _ = _; unfold ceE; rw [if_pos Hx.out]
  by_cases h0 : r < 0
  ·go_enter Tryz.func40, Tryz.ntmps40
   go_wp2
   go_ret
   exact ⟨ret_int HF.out.symm, HB.out⟩
  ·have h1 : 16 ≤ r := by have := Hx.out; unfold isR at this; simp at this; omega
   go_enter Tryz.func40, Tryz.ntmps40
   go_wp2
   go_ret
   exact ⟨ret_int HF.out.symm, HB.out⟩
 | true =>
  have hx1 : 0 ≤ r ∧ r < 16 := by have := Hx.out; unfold isR at this; simpa using this
  have hx2 : ¬ isR r = false := by rw [Hx.out]; simp
  by_cases h1 : m < 1
  ·have HF : Hid (ceE ⟨r, m, s, q⟩ = 2) := by show _ = _; unfold ceE; rw [if_neg hx2, if_pos (Or.inl h1)]
   clear hx2
   go_enter Tryz.func40, Tryz.ntmps40
   go_wp2
   go_ret
   exact ⟨ret_int HF.out.symm, HB.out⟩
  by_cases h2 : 1000000000 < m
  ·have HF : Hid (ceE ⟨r, m, s, q⟩ = 2) := by show _ = _; unfold ceE; rw [if_neg hx2, if_pos (Or.inr h2)]
   clear hx2
   go_enter Tryz.func40, Tryz.ntmps40
   go_wp2
   go_ret
   exact ⟨ret_int HF.out.symm, HB.out⟩
  have hm2 : ¬ (m < 1 ∨ 1000000000 < m) := by omega
  cases g with
  | false =>
   have HF : Hid (ceE ⟨r, m, s, q⟩ = 5) := by show _ = _; unfold ceE; rw [if_neg hx2, if_neg hm2, if_pos Hg.out]
   clear hx2 hm2
   go_enter Tryz.func40, Tryz.ntmps40
   go_wp2_with (go_at_call 70; refine (refGood_any s _ HS.out).mono ?_; rintro e w' ⟨rfl, rfl⟩; rw [Hg.out])
   go_ret
   exact ⟨ret_int HF.out.symm, HB.out⟩
  | true =>
   have hg2 : ¬ good s.data.toList = false := by rw [Hg.out]; simp
   by_cases h3 : q < 1
   ·have HF : Hid (ceE ⟨r, m, s, q⟩ = 6) := by show _ = _; unfold ceE; rw [if_neg hx2, if_neg hm2, if_neg hg2, if_pos (Or.inl h3)]
    clear hx2 hm2 hg2
    go_enter Tryz.func40, Tryz.ntmps40
    go_wp2_with (go_at_call 70; refine (refGood_any s _ HS.out).mono ?_; rintro e w' ⟨rfl, rfl⟩; rw [Hg.out])
    go_ret
    exact ⟨ret_int HF.out.symm, HB.out⟩
   by_cases h4 : 1000000 < q
   ·have HF : Hid (ceE ⟨r, m, s, q⟩ = 6) := by show _ = _; unfold ceE; rw [if_neg hx2, if_neg hm2, if_neg hg2, if_pos (Or.inr h4)]
    clear hx2 hm2 hg2
    go_enter Tryz.func40, Tryz.ntmps40
    go_wp2_with (go_at_call 70; refine (refGood_any s _ HS.out).mono ?_; rintro e w' ⟨rfl, rfl⟩; rw [Hg.out])
    go_ret
    exact ⟨ret_int HF.out.symm, HB.out⟩
   have hq2 : ¬ (q < 1 ∨ 1000000 < q) := by omega
   have HF : Hid (ceE ⟨r, m, s, q⟩ = 0) := by show _ = _; unfold ceE; rw [if_neg hx2, if_neg hm2, if_neg hg2, if_neg hq2]
   clear hx2 hm2 hg2 hq2
   go_enter Tryz.func40, Tryz.ntmps40
   go_wp2_with (go_at_call 70; refine (refGood_any s _ HS.out).mono ?_; rintro e w' ⟨rfl, rfl⟩; rw [Hg.out])
   go_ret
   exact ⟨ret_int HF.out.symm, HB.out⟩
end Go.Proofs.YtehcehhfdhiomaaGreat.K
