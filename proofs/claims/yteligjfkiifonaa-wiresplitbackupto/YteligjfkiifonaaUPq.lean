/- Frames there and back. -/
import Derived.Test.YteligjfkiifonaaUPn
import Derived.Test.YteligjfkiifonaaUWf
namespace Go.Proofs.Yteligjfkiifonaa
open Go.RowKit

theorem rdN_numB (v : Nat) (R : List Int) (hv : v ≤ 9223372036854775807) : rdN (numB v ++ R) 0 = ((v : Int), ((numB v).length : Int), 0) := by
  have h := scan_numB (numB v ++ R) 0 R 9 0 v rfl (numB_nine hv) (fun _ => rfl)
  simp only [val, Int.pow_zero, Int.mul_one, Int.zero_add, Nat.zero_add] at h
  exact h
theorem rdN_short (v t : Nat) (ht : t < (numB v).length) (hv : v ≤ 9223372036854775807) : rdN ((numB v).take t) 0 = (0, 0, 50) :=
  scan_short ((numB v).take t) 0 t 9 0 v rfl ht (by have := numB_nine hv; omega)
theorem rdN_back (Z : List Int) (hZ : ∀ t, 0 ≤ Z.getD t 0 ∧ Z.getD t 0 ≤ 255) {x y : Int} (h : rdN Z 0 = (x, y, 0)) : ∃ v : Nat, x = v ∧ y = ((numB v).length : Int) ∧ Z = numB v ++ Z.drop (numB v).length := by
  obtain ⟨v, h1, h2, h3, -⟩ := scan_back Z hZ 0 9 0 x y h
  refine ⟨v, ?_, by rw [h2]; simp, ?_⟩
  · rw [h1]; simp [val]
  · simpa using h3
theorem nmV_numB (v : Nat) (R : List Int) (hv : v ≤ 9223372036854775807) : nmV (numB v ++ R) = v := by unfold nmV; rw [rdN_numB v R hv]; simp
theorem nmK_numB (v : Nat) (R : List Int) (hv : v ≤ 9223372036854775807) : nmK (numB v ++ R) = (numB v).length := by unfold nmK; rw [rdN_numB v R hv]; simp
theorem nmE_numB (v : Nat) (R : List Int) (most : Int) (hv : v ≤ 9223372036854775807) : nmE (numB v ++ R) most = if most < (v : Int) then 51 else 0 := by
  unfold nmE
  rw [rdN_numB v R hv]
  simp
/-- one frame -/
def frm (Y : List Int) : List Int := numB Y.length ++ Y
theorem frm_pos (Y : List Int) : 0 < (frm Y).length := by
  unfold frm
  by_cases hs : Y.length < 128
  · rw [numB_lt hs]; simp
  · rw [numB_ge hs]; simp
theorem joinB_cons (Y : List Int) (L : List (List Int)) : joinB (Y :: L) = frm Y ++ joinB L := rfl
theorem splA_frm (Y R : List Int) (hY : Y.length ≤ 9223372036854775807) : splA (frm Y ++ R) = (Y :: (splA R).1, (splA R).2) := by
  have e : frm Y ++ R = numB Y.length ++ (Y ++ R) := by unfold frm; rw [List.append_assoc]
  have hp := frm_pos Y
  have h0 : (frm Y ++ R).length ≠ 0 := by rw [List.length_append]; omega
  have hE : pcE (frm Y ++ R) mx = 0 := by
    rw [e]
    unfold pcE
    rw [nmE_numB _ _ _ hY, if_neg (show ¬ mx < ((Y.length : Nat) : Int) by unfold mx; omega), if_neg (by simp), nmK_numB _ _ hY, nmV_numB _ _ hY, if_neg (by simp only [List.length_append]; omega)]
  rw [splA_ok h0 hE]
  have h1 : nmK (frm Y ++ R) = (numB Y.length).length := by rw [e]; exact nmK_numB _ _ hY
  have h2 : nmV (frm Y ++ R) = Y.length := by rw [e]; exact nmV_numB _ _ hY
  rw [h1, h2]
  have h3 : ((frm Y ++ R).drop (numB Y.length).length).take Y.length = Y := by rw [e, List.drop_left, List.take_left]
  have h4 : (frm Y ++ R).drop ((numB Y.length).length + Y.length) = R := by
    have : (numB Y.length).length + Y.length = (frm Y).length := by unfold frm; rw [List.length_append]
    rw [this, List.drop_left]
  rw [h3, h4]
/-- Split of Join is the list -/
theorem splA_join : ∀ (L : List (List Int)), (∀ Y ∈ L, Y.length ≤ 9223372036854775807) → splA (joinB L) = (L, 0)
  | [], _ => splA_nil rfl
  | Y :: L, h => by
    rw [joinB_cons, splA_frm Y _ (h Y (List.mem_cons_self ..)), splA_join L (fun X hX => h X (List.mem_cons_of_mem _ hX))]
/-- a strict beginning of a frame is too short -/
theorem splA_cut (Y : List Int) (hY : Y.length ≤ 9223372036854775807) (n : Nat) (h0 : 0 < n) (hn : n < (frm Y).length) : splA ((frm Y).take n) = ([], 50) := by
  have hl : ((frm Y).take n).length = n := by rw [List.length_take]; omega
  have hE : pcE ((frm Y).take n) mx = 50 := by
    unfold frm at hn ⊢
    by_cases hk : n < (numB Y.length).length
    · have e : (numB Y.length ++ Y).take n = (numB Y.length).take n := by rw [List.take_append_of_le_length (by omega)]
      rw [e]
      have hr := rdN_short Y.length n hk hY
      have h1 : nmE ((numB Y.length).take n) mx = 50 := by unfold nmE; rw [hr]; simp
      unfold pcE
      rw [h1]; simp
    · obtain ⟨d, rfl⟩ : ∃ d, n = (numB Y.length).length + d := ⟨n - (numB Y.length).length, by omega⟩
      have e : (numB Y.length ++ Y).take ((numB Y.length).length + d) = numB Y.length ++ Y.take d := by rw [List.take_length_add_append]
      rw [List.length_append] at hn
      rw [e]
      unfold pcE
      rw [nmE_numB _ _ _ hY, if_neg (show ¬ mx < ((Y.length : Nat) : Int) by unfold mx; omega), if_neg (by simp), nmK_numB _ _ hY, nmV_numB _ _ hY, if_pos (by simp only [List.length_append, List.length_take]; omega)]
  rw [splA_bad (by rw [hl]; omega) (by rw [hE]; decide), hE]
/-- where a frame ends -/
def ends (L : List (List Int)) (n : Nat) : Nat → Int
  | 0 => -1
  | k + 1 => if (joinB (L.take k)).length = n then (k : Int) else ends L n k
theorem ends_cons (Y : List Int) (L : List (List Int)) (n : Nat) (hn : (frm Y).length ≤ n) : ∀ k, ends (Y :: L) n (k + 1) = (if ends L (n - (frm Y).length) k < 0 then -1 else ends L (n - (frm Y).length) k + 1)
  | 0 => by
    have hp := frm_pos Y
    show (if (joinB []).length = n then ((0 : Nat) : Int) else -1) = if ((-1 : Int) < 0) then -1 else _
    rw [if_neg (by simp [joinB]; omega)]
    rfl
  | k + 1 => by
    have hp := frm_pos Y
    have ih := ends_cons Y L n hn k
    show (if (joinB ((Y :: L).take (k + 1))).length = n then ((k + 1 : Nat) : Int) else ends (Y :: L) n (k + 1)) = _
    rw [List.take_succ_cons, joinB_cons, List.length_append]
    show _ = if ends L (n - (frm Y).length) (k + 1) < 0 then -1 else ends L (n - (frm Y).length) (k + 1) + 1
    unfold ends
    by_cases h : (joinB (L.take k)).length = n - (frm Y).length
    · rw [if_pos (by omega), if_pos h, if_neg (by omega)]
      rfl
    · rw [if_neg (by omega), if_neg h, ← ih]
      rfl
theorem ends_low (Y : List Int) (L : List (List Int)) (n : Nat) (h0 : 0 < n) (hn : n < (frm Y).length) : ∀ k, ends (Y :: L) n k = -1
  | 0 => rfl
  | k + 1 => by
    unfold ends
    rw [if_neg ?_, ends_low Y L n h0 hn k]
    cases k with
    | zero => simp [joinB]; omega
    | succ k => rw [List.take_succ_cons, joinB_cons, List.length_append]; omega
theorem ends_lt (L : List (List Int)) (n : Nat) : ∀ k, ends L n k < (k : Int)
  | 0 => by show (-1 : Int) < 0; decide
  | k + 1 => by
    have ih := ends_lt L n k
    unfold ends
    split <;> omega
theorem ends_ge (L : List (List Int)) (n : Nat) : ∀ k, -1 ≤ ends L n k
  | 0 => by show (-1 : Int) ≤ -1; decide
  | k + 1 => by
    have ih := ends_ge L n k
    unfold ends
    split <;> omega
theorem ends_zero : ∀ (L : List (List Int)) (k : Nat), k ≤ L.length → ends L 0 (k + 1) = 0
  | L, 0, _ => by unfold ends; rw [if_pos (by simp [joinB])]; rfl
  | L, k + 1, hk => by
    have ih := ends_zero L k (by omega)
    unfold ends
    split
    · rename_i h
      cases L with
      | nil => simp at hk
      | cons Y L =>
        rw [List.take_succ_cons, joinB_cons, List.length_append] at h
        have := frm_pos Y
        omega
    · exact ih
/-- a beginning of a Join is taken just where a frame ends -/
theorem splA_take : ∀ (L : List (List Int)) (n : Nat), (∀ Y ∈ L, Y.length ≤ 9223372036854775807) → n ≤ (joinB L).length →
    (0 ≤ ends L n (L.length + 1) → (splA ((joinB L).take n)).2 = 0 ∧ ((splA ((joinB L).take n)).1.length : Int) = ends L n (L.length + 1)) ∧ (ends L n (L.length + 1) < 0 → (splA ((joinB L).take n)).2 = 50)
  | [], n, _, hn => by
    obtain rfl : n = 0 := by simpa [joinB] using hn
    have e : ends [] 0 (([] : List (List Int)).length + 1) = 0 := ends_zero [] 0 (Nat.le_refl _)
    rw [e, List.take_zero, splA_nil rfl]
    exact ⟨fun _ => ⟨rfl, rfl⟩, fun h => absurd h (by decide)⟩
  | Y :: L, n, hL, hn => by
    have hY := hL Y (List.mem_cons_self ..)
    rw [joinB_cons, List.length_append] at hn
    by_cases h0 : n = 0
    · subst h0
      rw [ends_zero (Y :: L) (Y :: L).length (Nat.le_refl _), List.take_zero, splA_nil rfl]
      exact ⟨fun _ => ⟨rfl, rfl⟩, fun h => absurd h (by decide)⟩
    by_cases h1 : n < (frm Y).length
    · rw [ends_low Y L n (by omega) h1, joinB_cons, List.take_append_of_le_length (by omega), splA_cut Y hY n (by omega) h1]
      exact ⟨fun h => absurd h (by decide), fun _ => rfl⟩
    · obtain ⟨i1, i2⟩ := splA_take L (n - (frm Y).length) (fun X hX => hL X (List.mem_cons_of_mem _ hX)) (by omega)
      have et : (joinB (Y :: L)).take n = frm Y ++ (joinB L).take (n - (frm Y).length) := by
        rw [joinB_cons, List.take_append, List.take_of_length_le (by omega)]
      have ee := ends_cons Y L n (by omega) (L.length + 1)
      rw [et, splA_frm Y _ hY]
      have e2 : ends (Y :: L) n ((Y :: L).length + 1) = _ := ee
      rw [e2]
      have hg := ends_ge L (n - (frm Y).length) (L.length + 1)
      by_cases hlt : ends L (n - (frm Y).length) (L.length + 1) < 0
      · rw [if_pos hlt]
        exact ⟨fun h => absurd h (by decide), fun _ => i2 hlt⟩
      · rw [if_neg hlt]
        obtain ⟨j1, j2⟩ := i1 (by omega)
        refine ⟨fun _ => ⟨j1, ?_⟩, fun h => by omega⟩
        show (((splA ((joinB L).take (n - (frm Y).length))).1.length + 1 : Nat) : Int) = _
        rw [← j2]
        rfl
/-- what Split takes is the Join of its frames -/
theorem join_spl : ∀ (f : Nat) (Z : List Int), Z.length < f → (∀ t, 0 ≤ Z.getD t 0 ∧ Z.getD t 0 ≤ 255) → (spl f Z).2 = 0 → joinB (spl f Z).1 = Z
  | 0, Z, h, _, _ => absurd h (Nat.not_lt_zero _)
  | f + 1, Z, hf, hZ, h => by
    unfold spl at h ⊢
    split at h
    · rename_i h0
      rw [if_pos h0]
      exact (List.eq_nil_of_length_eq_zero h0).symm
    · rename_i h0
      rw [if_neg h0]
      split at h
      · rename_i hp
        exact absurd h hp
      · rename_i hp
        rw [if_neg hp]
        have hp0 : pcE Z mx = 0 := by simpa using hp
        have hk := nmK_pos hp0
        obtain ⟨hn, hl⟩ := pcE_ok hp0
        obtain ⟨hr, -, hkl, -⟩ := nm_ok hn
        obtain ⟨v, e1, e2, e3⟩ := rdN_back Z hZ hr
        have ev : nmV Z = v := by omega
        have ek : nmK Z = (numB v).length := by omega
        have hd : ∀ t, 0 ≤ (Z.drop (nmK Z + nmV Z)).getD t 0 ∧ (Z.drop (nmK Z + nmV Z)).getD t 0 ≤ 255 := fun t => by rw [drop_getD]; exact hZ _
        have ih := join_spl f (Z.drop (nmK Z + nmV Z)) (by rw [List.length_drop]; omega) hd h
        rw [joinB_cons, ih]
        have hyl : ((Z.drop (nmK Z)).take (nmV Z)).length = v := by rw [List.length_take, List.length_drop]; omega
        unfold frm
        rw [hyl, ek, ev, List.append_assoc, ← List.drop_drop, List.take_append_drop]
        exact e3.symm
theorem join_splA (Z : List Int) (hZ : ∀ t, 0 ≤ Z.getD t 0 ∧ Z.getD t 0 ≤ 255) (h : (splA Z).2 = 0) : joinB (splA Z).1 = Z := join_spl _ Z (by omega) hZ h
end Go.Proofs.Yteligjfkiifonaa
