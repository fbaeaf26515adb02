/- slices.Index, slices.Contains, numberFault, checkDigit: their contracts. -/
import Derived.Test.YtnlklhjmhienkaaGreatDoorADig
namespace Go.Proofs.YtnlklhjmhienkaaGreatDoor.A
open Go.RowKit

theorem empty_yes (s : ByteArray) (h : s.size = 0) : s.toList.isEmpty = true := by
  rw [ByteArray.toList_eq, List.isEmpty_iff, ← List.length_eq_zero_iff]; simpa using h
theorem empty_no (s : ByteArray) (h : ¬ s.size = 0) : s.toList.isEmpty = false := by
  rw [ByteArray.toList_eq, List.isEmpty_eq_false_iff, ← List.length_pos_iff]; have : s.data.size = s.size := rfl; simp; omega
def has (Z : List Int) (v : Int) : Bool := Z.contains v
theorem has_yes {Z : List Int} {v : Int} (h : v ∈ Z) : has Z v = true := by unfold has; rw [List.contains_iff_mem]; exact h
theorem has_snoc (Z : List Int) (v z : Int) (h : has Z v = false) (hz : ¬ v = z) : has (Z ++ [z]) v = false := by
  unfold has at h ⊢
  rw [List.contains_append, h]; simpa using hz
set_option maxHeartbeats 800000 in
theorem index_any (b n cap : Nat) (Z : List Int) (v : Int) (w : World) (hZ : Z.length = n) (hn : n ≤ 1000)
    (hc : ∀ t, t < n → w.cell? ⟨b, t, none⟩ = some (.int .i64 (Z.getD t 0))) :
    Calls Tryz.prog 90 #[.slice (some ⟨b, 0, none⟩) n cap, .int .i64 v] w fun e w' => ∃ r : Int, e = .returned (.int .i64 r) ∧ (0 ≤ r ↔ has Z v = true) ∧ w' = w := by
  go_enter Tryz.func90, Tryz.ntmps90
  go_wp2
  go_loop [8] (fun i => ∃ k : Nat, k ≤ n ∧ i = .int .i64 k ∧ has (Z.take k) v = false) (fun i => n - (intOf i).toNat)
  case atStart => exact ⟨0, Nat.zero_le _, rfl, rfl⟩
  case round =>
    obtain ⟨k, hk, rfl, hno⟩ := hrel
    have HN := hide hno
    clear hno
    by_cases hlt : k < n
    · obtain ⟨z, hz⟩ : ∃ z, z = Z.getD k 0 := ⟨_, rfl⟩
      have hcell : w.cell? ⟨b, k, none⟩ = some (.int .i64 z) := by rw [hz]; exact hc k hlt
      have ht : Z.take (k + 1) = Z.take k ++ [z] := by rw [List.take_succ_eq_append_getElem (by omega), hz]; simp [List.getD, hZ ▸ hlt]
      have hm : z ∈ Z := by rw [hz]; simp only [List.getD, List.getElem?_eq_getElem (hZ ▸ hlt), Option.getD_some]; exact List.getElem_mem _
      have HT := hide ht
      have HM := hide hm
      clear hz hc ht hm
      by_cases he : v = z
      · subst he
        go_wp2
        go_ret
        exact ⟨_, rfl, ⟨fun _ => has_yes HM.out, fun _ => by omega⟩, rfl⟩
      · have he' : (v == z) = false := by simpa using he
        have HE := hide he
        clear he
        go_wp2
        go_round
        case rel => exact ⟨k + 1, by omega, by go_num, by rw [HT.out]; exact has_snoc _ _ _ HN.out HE.out⟩
        case measure => simp [intOf]; omega
    · go_wp2
      go_ret
      refine ⟨_, rfl, ⟨fun h => absurd h (by decide), fun h => ?_⟩, rfl⟩
      have e : Z.take k = Z := List.take_of_length_le (by omega)
      have h2 := HN.out
      rw [e, h] at h2
      cases h2

theorem contains_any (b n cap : Nat) (Z : List Int) (v : Int) (w : World) (hZ : Z.length = n) (hn : n ≤ 1000)
    (hc : ∀ t, t < n → w.cell? ⟨b, t, none⟩ = some (.int .i64 (Z.getD t 0))) :
    Calls Tryz.prog 76 #[.slice (some ⟨b, 0, none⟩) n cap, .int .i64 v] w fun e w' => e = .returned (.bool (has Z v)) ∧ w' = w := by
  go_enter Tryz.func76, Tryz.ntmps76
  go_wp2_with (go_at_call 90; refine (index_any b n cap Z v _ hZ hn hc).mono ?_; rintro e w' ⟨r, rfl, hr, rfl⟩; clear hc)
  go_ret
  exact ⟨ret_bool (by first | rfl | simp), rfl⟩

/-- numberFault's answer -/
def nf (s : ByteArray) (Z : List Int) : Int := if s.size = 0 then 20 else if Z.getD 3 0 < s.size then 21 else if has Z (s.size : Int) = true then (if allDig s = true then 0 else 22) else 2

set_option maxHeartbeats 1600000 in
theorem numberFault_any (s : ByteArray) (x0 x1 x2 x3 : Int) (w : World) (hs : s.size ≤ maxLen) :
    Calls Tryz.prog 56 #[.string s, .agg #[.int .i64 x0, .int .i64 x1, .int .i64 x2, .int .i64 x3]] w fun e w' => e = .returned (.int .i64 (nf s [x0, x1, x2, x3])) ∧ Below w.heap.size w w' := by
  have HB : Hid (Below w.heap.size w (w.alloc (.cells #[.int .i64 x0, .int .i64 x1, .int .i64 x2, .int .i64 x3] 65))) := (Below.refl _ _).alloc (Nat.le_refl _) _
  have HS := hide hs
  unfold maxLen at hs
  by_cases h0 : s.size = 0
  · have HN : Hid (nf s [x0, x1, x2, x3] = 20) := by show _ = _; unfold nf; rw [if_pos h0]
    have he := empty_yes s h0
    go_enter Tryz.func56, Tryz.ntmps56
    go_wp2
    go_ret
    exact ⟨ret_int HN.out.symm, HB.out⟩
  have he := empty_no s h0
  by_cases h3 : x3 < (s.size : Int)
  · have HN : Hid (nf s [x0, x1, x2, x3] = 21) := by show _ = _; unfold nf; rw [if_neg h0, if_pos (show [x0, x1, x2, x3].getD 3 0 < (s.size : Int) from h3)]
    go_enter Tryz.func56, Tryz.ntmps56
    go_wp2
    go_ret
    exact ⟨ret_int HN.out.symm, HB.out⟩
  have hcells : ∀ t, t < 4 → (w.alloc (.cells #[.int .i64 x0, .int .i64 x1, .int .i64 x2, .int .i64 x3] 65)).cell? ⟨w.heap.size, t, none⟩ = some (.int .i64 ([x0, x1, x2, x3].getD t 0)) := by
    intro t ht
    match t, ht with
    | 0, _ => simp
    | 1, _ => simp
    | 2, _ => simp
    | 3, _ => simp
  have HC := hide hcells
  clear hcells
  cases hb : has [x0, x1, x2, x3] (s.size : Int) with
  | false =>
    have HN : Hid (nf s [x0, x1, x2, x3] = 2) := by show _ = _; unfold nf; rw [if_neg h0, if_neg (show ¬ [x0, x1, x2, x3].getD 3 0 < (s.size : Int) from h3), hb]; rfl
    have HH := hide hb
    clear hb
    go_enter Tryz.func56, Tryz.ntmps56
    go_wp2_with (go_at_call 76; refine (contains_any w.heap.size 4 4 [x0, x1, x2, x3] _ _ rfl (by omega) HC.out).mono ?_; rintro e w' ⟨rfl, rfl⟩; rw [HH.out])
    go_ret
    exact ⟨ret_int HN.out.symm, HB.out⟩
  | true =>
    have HH := hide hb
    clear hb
    cases ha : allDig s with
    | true =>
      have HN : Hid (nf s [x0, x1, x2, x3] = 0) := by show _ = _; unfold nf; rw [if_neg h0, if_neg (show ¬ [x0, x1, x2, x3].getD 3 0 < (s.size : Int) from h3), HH.out, ha]; rfl
      have HA := hide ha
      clear ha
      go_enter Tryz.func56, Tryz.ntmps56
      go_wp2_with (first | (go_at_call 76; refine (contains_any w.heap.size 4 4 [x0, x1, x2, x3] _ _ rfl (by omega) HC.out).mono ?_; rintro e w' ⟨rfl, rfl⟩; rw [HH.out]) | (go_at_call 66; refine (allDigits_any s _ HS.out).mono ?_; rintro e w' ⟨rfl, rfl⟩; rw [HA.out]))
      go_ret
      exact ⟨ret_int HN.out.symm, HB.out⟩
    | false =>
      have HN : Hid (nf s [x0, x1, x2, x3] = 22) := by show _ = _; unfold nf; rw [if_neg h0, if_neg (show ¬ [x0, x1, x2, x3].getD 3 0 < (s.size : Int) from h3), HH.out, ha]; rfl
      have HA := hide ha
      clear ha
      go_enter Tryz.func56, Tryz.ntmps56
      go_wp2_with (first | (go_at_call 76; refine (contains_any w.heap.size 4 4 [x0, x1, x2, x3] _ _ rfl (by omega) HC.out).mono ?_; rintro e w' ⟨rfl, rfl⟩; rw [HH.out]) | (go_at_call 66; refine (allDigits_any s _ HS.out).mono ?_; rintro e w' ⟨rfl, rfl⟩; rw [HA.out]))
      go_ret
      exact ⟨ret_int HN.out.symm, HB.out⟩
end Go.Proofs.YtnlklhjmhienkaaGreatDoor.A
