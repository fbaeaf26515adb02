/- PCq -/
import Derived.Test.YtphohmoibnoeaaaGreatPb26
import Derived.Test.YtphohmoibnoeaaaGreatPb03
namespace Go.Proofs.YtphohmoibnoeaaaGreat
open Go.RowKit

theorem cmp_below (x y : Int) (w : World) : Calls Tryz.prog 96 #[.int .i64 x, .int .i64 y] w fun e w' => e = .returned (.int .i64 (cmpI x y)) ∧ Below w.heap.size w w' := (cmp_any x y w).mono fun _ _ h => ⟨h.1, by rw [h.2]; exact Below.refl _ _⟩
def orL : List Int → Int
 | [] => 0
 | a :: t => if a = 0 then orL t else a
theorem drop_getD {α : Type} (L : List α) (k : Nat) (d : α) (h : k < L.length) : L.drop k = L.getD k d :: L.drop (k + 1) := by
 rw [List.drop_eq_getElem_cons h]; simp [List.getD, h]
set_option maxHeartbeats 800000 in
theorem or_any (ao : Option Addr) (n c : Nat) (Z : List Int) (w : World) (hS : V.Src w ao n c Z) (gn : n ≤ 17592186044415) :
  Calls Tryz.prog 95 #[.slice ao n c] w fun e w' => e = .returned (.int .i64 (orL Z)) ∧ Below w.heap.size w w' := by
 have HS := hide hS
 have HL : Hid (Z.length = n) := hS.1
 clear hS
 go_enter Tryz.func95, Tryz.ntmps95
 go_wp2_with fail
 go_loopw [8] (fun i wr => ∃ k : Nat, k ≤ n ∧ i = .int .i64 k ∧ Hid (orL Z = orL (Z.drop k)) ∧ wr = w) (fun i _ => n - (intOf i).toNat)
 case atStart => exact ⟨0, Nat.zero_le _, rfl, rfl, rfl⟩
 case round =>
  obtain ⟨k, hk, rfl, HO, rfl⟩ := hrel
  by_cases hlt : k < n
  ·obtain ⟨ad, rfl, ca⟩ := HS.out.at k hlt
   have HD := hide (drop_getD Z k 0 (by rw [HL.out]; exact hlt))
   obtain ⟨z, Hz⟩ : ∃ z, Hid (Z.getD k 0 = z) := ⟨_, rfl⟩
   rw [Hz.out] at ca HD
   by_cases h0 : z = 0
   ·have h0' : (z != 0) = false := by simpa using h0
    have HN : Hid (orL Z = orL (Z.drop (k + 1))) := by show _ = _; rw [HO.out, HD.out, orL, if_pos h0]
    clear h0
    go_wp2_with fail
    go_roundw
    case rel => exact ⟨k + 1, by omega, by go_num, HN, by trivial⟩
    case measure => simp [intOf]; omega
   ·have h0' : (z != 0) = true := by simpa using h0
    have HN : Hid (orL Z = z) := by show _ = _; rw [HO.out, HD.out, orL, if_neg h0]
    clear h0
    go_wp2_with fail
    go_ret
    exact ⟨ret_int HN.out.symm, Below.refl _ _⟩
  ·obtain rfl : k = n := by omega
   have HN : Hid (orL Z = 0) := by show _ = _; rw [HO.out, List.drop_of_length_le (by rw [HL.out]; exact Nat.le_refl _)]; rfl
   go_wp2_with fail
   go_ret
   exact ⟨ret_int HN.out.symm, Below.refl _ _⟩
section
variable {α : Type} {c : α → α → Int} {A B : List α} {k : Nat}
theorem lex_more (hc : Tot c) (h : A.take k = B.take k) (ha : k < A.length) (hb : B.length = k) : lex c A B = 1 := by
 rw [lex_drop hc A B k h (by omega) (by omega), List.drop_of_length_le (l := B) (by omega), List.drop_eq_getElem_cons ha]
 rfl
theorem lex_less (hc : Tot c) (h : A.take k = B.take k) (ha : A.length = k) (hb : k < B.length) : lex c A B = -1 := by
 rw [lex_drop hc A B k h (by omega) (by omega), List.drop_of_length_le (l := A) (by omega), List.drop_eq_getElem_cons hb]
 rfl
theorem lex_same (hc : Tot c) (h : A.take k = B.take k) (ha : A.length = k) (hb : B.length = k) : lex c A B = 0 := by
 rw [lex_drop hc A B k h (by omega) (by omega), List.drop_of_length_le (l := A) (by omega), List.drop_of_length_le (l := B) (by omega)]
 rfl
theorem lex_diff (hc : Tot c) (d : α) (h : A.take k = B.take k) (ha : k < A.length) (hb : k < B.length) (hn : ¬ c (A.getD k d) (B.getD k d) = 0) : lex c A B = c (A.getD k d) (B.getD k d) := by
 rw [lex_drop hc A B k h (by omega) (by omega), drop_getD A k d ha, drop_getD B k d hb, lex, if_neg hn]
theorem take_on (hc : Tot c) (d : α) (h : A.take k = B.take k) (ha : k < A.length) (hb : k < B.length) (hn : c (A.getD k d) (B.getD k d) = 0) : A.take (k + 1) = B.take (k + 1) := by
 have e := (hc.eq _ _).1 hn
 rw [List.take_succ_eq_append_getElem ha, List.take_succ_eq_append_getElem hb, h]
 simp only [List.getD, List.getElem?_eq_getElem ha, List.getElem?_eq_getElem hb, Option.getD_some] at e
 rw [e]
end
set_option maxRecDepth 100000 in
set_option maxHeartbeats 1600000 in
theorem slCompare_any (ao bo : Option Addr) (n cn m cm : Nat) (A B : List Int) (w : World) (hA : V.Src w ao n cn A) (hB : V.Src w bo m cm B) (gn : n ≤ 17592186044415) (_ : m ≤ 17592186044415) :
  Calls Tryz.prog 119 #[.slice ao n cn, .slice bo m cm] w fun e w' => e = .returned (.int .i64 (lex cmpI A B)) ∧ Below w.heap.size w w' := by
 have HA := hide hA
 have HB := hide hB
 have HLA : Hid (A.length = n) := hA.1
 have HLB : Hid (B.length = m) := hB.1
 clear hA hB
 go_enter Tryz.func119, Tryz.ntmps119
 go_wp2_with fail
 go_loopw [11] (fun i wr => ∃ k : Nat, k ≤ n ∧ i = .int .i64 k ∧ Hid (A.take k = B.take k ∧ k ≤ m) ∧ wr = w) (fun i _ => n - (intOf i).toNat)
 case atStart => exact ⟨0, Nat.zero_le _, rfl, ⟨rfl, Nat.zero_le _⟩, rfl⟩
 case round =>
  obtain ⟨k, hk, rfl, HO, rfl⟩ := hrel
  have hkm := HO.out.2
  by_cases hlt : k < n
  ·obtain ⟨ad, rfl, ca⟩ := HA.out.at k hlt
   by_cases hm : k < m
   ·obtain ⟨bd, rfl, cb⟩ := HB.out.at k hm
    have HAL : Hid (k < A.length) := by rw [HLA.out]; exact hlt
    have HBL : Hid (k < B.length) := by rw [HLB.out]; exact hm
    have hm' : ¬ (m : Int) ≤ (k : Int) := by omega
    by_cases h0 : cmpI (A.getD k 0) (B.getD k 0) = 0
    ·have HN := hide (take_on cmpI_tot 0 HO.out.1 HAL.out HBL.out h0)
     obtain ⟨z, hz⟩ : ∃ z, cmpI (A.getD k 0) (B.getD k 0) = z := ⟨_, rfl⟩
     have HZ := hide hz
     rw [hz] at h0
     subst h0
     clear hz
     obtain ⟨x, hx⟩ : ∃ x, A.getD k 0 = x := ⟨_, rfl⟩
     obtain ⟨y, hy⟩ : ∃ y, B.getD k 0 = y := ⟨_, rfl⟩
     rw [hx] at ca HZ
     rw [hy] at cb HZ
     clear hx hy
     go_wp2_with (go_at_call 96; refine (cmp_any x y _).mono ?_; rintro e w' ⟨rfl, rfl⟩; rw [HZ.out])
     go_roundw
     case rel => exact ⟨k + 1, by omega, by go_num, ⟨HN.out, by omega⟩, by trivial⟩
     case measure => simp [intOf]; omega
    ·have HN := hide (lex_diff cmpI_tot 0 HO.out.1 HAL.out HBL.out h0)
     obtain ⟨z, hz⟩ : ∃ z, cmpI (A.getD k 0) (B.getD k 0) = z := ⟨_, rfl⟩
     have HZ := hide hz
     rw [hz] at h0 HN
     have h0' : (z != 0) = true := by simpa using h0
     clear hz h0
     obtain ⟨x, hx⟩ : ∃ x, A.getD k 0 = x := ⟨_, rfl⟩
     obtain ⟨y, hy⟩ : ∃ y, B.getD k 0 = y := ⟨_, rfl⟩
     rw [hx] at ca HZ
     rw [hy] at cb HZ
     clear hx hy
     go_wp2_with (go_at_call 96; refine (cmp_any x y _).mono ?_; rintro e w' ⟨rfl, rfl⟩; rw [HZ.out])
     go_ret
     exact ⟨ret_int HN.out.symm, Below.refl _ _⟩
   ·have hm' : (m : Int) ≤ (k : Int) := by omega
    have HN := hide (lex_more cmpI_tot HO.out.1 (by rw [HLA.out]; exact hlt) (by rw [HLB.out]; omega))
    go_wp2_with fail
    go_ret
    exact ⟨ret_int HN.out.symm, Below.refl _ _⟩
  ·obtain rfl : k = n := by omega
   by_cases hm : k < m
   ·have hm' : (k : Int) < (m : Int) := by omega
    have HN := hide (lex_less cmpI_tot HO.out.1 HLA.out (by rw [HLB.out]; exact hm))
    go_wp2_with fail
    go_ret
    exact ⟨ret_int HN.out.symm, Below.refl _ _⟩
   ·have hm' : ¬ (k : Int) < (m : Int) := by omega
    have HN := hide (lex_same cmpI_tot HO.out.1 HLA.out (by rw [HLB.out]; omega))
    go_wp2_with fail
    go_ret
    exact ⟨ret_int HN.out.symm, Below.refl _ _⟩
end Go.Proofs.YtphohmoibnoeaaaGreat
