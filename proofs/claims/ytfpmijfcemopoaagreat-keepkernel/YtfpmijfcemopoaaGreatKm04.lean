/- barrowref07.Both. -/
import Derived.Test.YtfpmijfcemopoaaGreatTk
import Derived.Test.YtfpmijfcemopoaaGreatKm01
import Derived.Deep.CutRange
namespace Go.Proofs.YtfpmijfcemopoaaGreat.K
open Go.RowKit
attribute [local go_sem ↓] ld28_eq st28_eq ld26_eq run_eqD
attribute [local go_sem] cells_EV EC_size
structure BoI (A B : List En) (i j : Nat) (acc : List En) : Prop where
 asc : Asc acc
 mem : ∀ x, x ∈ acc ↔ x ∈ A.take i ∨ x ∈ B.take j
 la : ∀ x ∈ acc, ∀ t, i ≤ t → t < A.length → ahead x (A.getD t en0) = true
 lb : ∀ x ∈ acc, ∀ t, j ≤ t → t < B.length → ahead x (B.getD t en0) = true
 len : acc.length ≤ i + j
theorem BoI.start (A B : List En) : BoI A B 0 0 [] := ⟨List.Pairwise.nil, fun x => by simp, fun x h => (by cases h), fun x h => (by cases h), Nat.zero_le _⟩
theorem asc_snoc {acc : List En} {e : En} (h : Asc acc) (he : ∀ x ∈ acc, ahead x e = true) : Asc (acc ++ [e]) := by
 refine List.pairwise_append.2 ⟨h, List.pairwise_singleton _ _, fun x hx y hy => ?_⟩
 obtain rfl := List.mem_singleton.1 hy
 exact he x hx
theorem BoI.pushA {A B : List En} {i j : Nat} {acc : List En} (h : BoI A B i j acc) (hA : Asc A) (_ : Asc B) (hi : i < A.length) (hb : ∀ t, j ≤ t → t < B.length → ahead (A.getD i en0) (B.getD t en0) = true) : BoI A B (i + 1) j (acc ++ [A.getD i en0]) := by
 refine ⟨asc_snoc h.asc (fun x hx => h.la x hx i (Nat.le_refl _) hi), fun x => ?_, fun x hx t h1 h2 => ?_, fun x hx t h1 h2 => ?_, by have := h.len; rw [List.length_append]; simp only [List.length_cons, List.length_nil]; omega⟩
 ·rw [List.mem_append, h.mem x, take_snoc A i hi, List.mem_append, List.mem_singleton]
  constructor
  ·rintro ((h1 | h1) | h1)
   ·exact .inl (.inl h1)
   ·exact .inr h1
   ·exact .inl (.inr h1)
  ·rintro ((h1 | h1) | h1)
   ·exact .inl (.inl h1)
   ·exact .inr h1
   ·exact .inl (.inr h1)
 ·rcases List.mem_append.1 hx with hx | hx
  ·exact h.la x hx t (by omega) h2
  ·obtain rfl := List.mem_singleton.1 hx
   exact asc_at hA (by omega) h2
 ·rcases List.mem_append.1 hx with hx | hx
  ·exact h.lb x hx t h1 h2
  ·obtain rfl := List.mem_singleton.1 hx
   exact hb t h1 h2
theorem BoI.pushB {A B : List En} {i j : Nat} {acc : List En} (h : BoI A B i j acc) (_ : Asc A) (hB : Asc B) (hj : j < B.length) (ha : ∀ t, i ≤ t → t < A.length → ahead (B.getD j en0) (A.getD t en0) = true) : BoI A B i (j + 1) (acc ++ [B.getD j en0]) := by
 refine ⟨asc_snoc h.asc (fun x hx => h.lb x hx j (Nat.le_refl _) hj), fun x => ?_, fun x hx t h1 h2 => ?_, fun x hx t h1 h2 => ?_, by have := h.len; rw [List.length_append]; simp only [List.length_cons, List.length_nil]; omega⟩
 ·rw [List.mem_append, h.mem x, take_snoc B j hj, List.mem_append, List.mem_singleton, or_assoc]
 ·rcases List.mem_append.1 hx with hx | hx
  ·exact h.la x hx t h1 h2
  ·obtain rfl := List.mem_singleton.1 hx
   exact ha t h1 h2
 ·rcases List.mem_append.1 hx with hx | hx
  ·exact h.lb x hx t (by omega) h2
  ·obtain rfl := List.mem_singleton.1 hx
   exact asc_at hB (by omega) h2
theorem BoI.pushAB {A B : List En} {i j : Nat} {acc : List En} (h : BoI A B i j acc) (hA : Asc A) (hB : Asc B) (hi : i < A.length) (hj : j < B.length) (he : A.getD i en0 = B.getD j en0) : BoI A B (i + 1) (j + 1) (acc ++ [B.getD j en0]) := by
 refine ⟨asc_snoc h.asc (fun x hx => h.lb x hx j (Nat.le_refl _) hj), fun x => ?_, fun x hx t h1 h2 => ?_, fun x hx t h1 h2 => ?_, by have := h.len; rw [List.length_append]; simp only [List.length_cons, List.length_nil]; omega⟩
 ·rw [List.mem_append, h.mem x, take_snoc B j hj, take_snoc A i hi, List.mem_append, List.mem_append, List.mem_singleton, List.mem_singleton, he]
  constructor
  ·rintro ((h1 | h1) | h1)
   ·exact .inl (.inl h1)
   ·exact .inr (.inl h1)
   ·exact .inr (.inr h1)
  ·rintro ((h1 | h1) | (h1 | h1))
   ·exact .inl (.inl h1)
   ·exact .inr h1
   ·exact .inl (.inr h1)
   ·exact .inr h1
 ·rcases List.mem_append.1 hx with hx | hx
  ·exact h.la x hx t (by omega) h2
  ·obtain rfl := List.mem_singleton.1 hx
   rw [← he]
   exact asc_at hA (by omega) h2
 ·rcases List.mem_append.1 hx with hx | hx
  ·exact h.lb x hx t (by omega) h2
  ·obtain rfl := List.mem_singleton.1 hx
   exact asc_at hB (by omega) h2
def BoA (w w' : World) (x : Ending) (A B : List En) : Prop := ∃ a l c Z, x = .returned (.slice a l c) ∧ ESrc w' a l c Z ∧ Below w.heap.size w w' ∧ Asc Z ∧ ∀ e, e ∈ Z ↔ e ∈ A ∨ e ∈ B
set_option maxRecDepth 100000 in
set_option maxHeartbeats 6400000 in
theorem both_any (ao bo : Option Addr) (n cap m cap' : Nat) (A B : List En) (w : World) (hS : ESrc w ao n cap A) (hR : ESrc w bo m cap' B) (hA : Asc A) (hB : Asc B) (hC : ¬ Clash (A ++ B)) (hnm : n + m ≤ 3518437208883) :
  Calls Tryz.prog 75 #[.slice ao n cap, .slice bo m cap'] w fun x w' => BoA w w' x A B := by
 have HS := hide hS
 have HR := hide hR
 have HL : Hid (A.length = n ∧ B.length = m) := ⟨hS.1, hR.1⟩
 have HA : Hid (Asc A ∧ Asc B ∧ ¬ Clash (A ++ B)) := ⟨hA, hB, hC⟩
 have HK : Hid (∀ e ∈ A ++ B, e.sku.size ≤ maxLen) := fun e he => (List.mem_append.1 he).elim (hS.2.2.2.1 e) (hR.2.2.2.1 e)
 clear hS hR hA hB hC
 go_enter Tryz.func75, Tryz.ntmps75
 go_wp2_with fail
 go_loopw [5, 6, 7] (fun v i j wr => ∃ (k t : Nat) (ap : Option Addr) (l c : Nat), k ≤ n ∧ t ≤ m ∧ v = .slice ap l c ∧ i = .int .i64 (k : Int) ∧ j = .int .i64 (t : Int) ∧ Hid (∃ acc, acc.length = l ∧ OwnE w.heap.size w.heap.size w wr ap c acc ∧ BoI A B k t acc)) (fun _ i j _ => (n - (intOf i).toNat) + (m - (intOf j).toNat))
 case atStart => exact ⟨0, 0, none, 0, 0, Nat.zero_le _, Nat.zero_le _, rfl, rfl, rfl, ⟨[], rfl, OwnE.nil (Below.refl _ _) (Nat.le_refl _) (Nat.le_refl _), BoI.start A B⟩⟩
 case round =>
  obtain ⟨i, j, ap, l, c, hi, hj, rfl, rfl, rfl, HI⟩ := hrel
  rename World => wr
  obtain ⟨acc, hl, O, hBo⟩ := HI.out
  have HO := hide O
  have HBo := hide hBo
  have Hl := hide hl
  have hll : l ≤ i + j := by have := hBo.len; omega
  clear HI hl hBo
  by_cases hjm : j < m
  ·have hjmi : (j : Int) < (m : Int) := by omega
   have hje : ((j : Int) == (m : Int)) = false := by simp; omega
   obtain ⟨bd, hbo, B0⟩ := (HR.out.below O.below).at j hjm
   subst hbo
   obtain ⟨f, Hf⟩ : ∃ f, Hid (B.getD j en0 = f) := ⟨_, rfl⟩
   rw [Hf.out] at B0
   have HB0 := hide B0
   have Hjm := hide hjm
   by_cases hin : i < n
   ·have hini : (i : Int) < (n : Int) := by omega
    obtain ⟨ad, hao, A0⟩ := (HS.out.below O.below).at i hin
    subst hao
    obtain ⟨e, He⟩ : ∃ e, Hid (A.getD i en0 = e) := ⟨_, rfl⟩
    rw [He.out] at A0
    have HA0 := hide A0
    have Hin := hide hin
    have HSt : Hid (∀ W, Below wr.heap.size wr W → (ld26 (.pointer (some (ad.add (i * 4))))).run Tryz.prog W = .ok (.agg (DC e)) W ∧ (ld26 (.pointer (some (bd.add (j * 4))))).run Tryz.prog W = .ok (.agg (DC f)) W) := fun W hW => ⟨run_ld26 (HA0.out.on hW), run_ld26 (HB0.out.on hW)⟩
    clear A0 B0 O
    go_upto_region 4 with fail
    refine wp_region_held_drew (S := fun W => (ld26 (.pointer (some (ad.add (i * 4))))).run Tryz.prog W = .ok (.agg (DC e)) W ∧ (ld26 (.pointer (some (bd.add (j * 4))))).run Tryz.prog W = .ok (.agg (DC f)) W) (by kernel_rfl) (HSt.out _ (below_drew1 wr)) (fun hHeld => ?_)
    refine wTk 0 ⟨some 18, .move (.tmp 7), 3, "ref.go:230", #[], none⟩ rfl ?_
    refine wTk 1 ⟨some 19, .move (.tmp 1), 23, "ref.go:230", #[], none⟩ rfl ?_
    refine wTk 2 ⟨some 20, .call ⟨.builtin .len, #[.tmp 19], #[23]⟩, 3, "ref.go:230", #[⟨1, .data⟩], none⟩ rfl ?_
    refine wTk 3 ⟨some 21, .binOp .eql 3 (.tmp 18) (.tmp 20) 3, 4, "ref.go:230", #[⟨0, .data⟩, ⟨2, .data⟩], none⟩ rfl ?_
    refine wTk 4 ⟨some 22, .move (.tmp 21), 4, "ref.go:230", #[⟨3, .data⟩], none⟩ rfl ?_
    refine wTk 5 ⟨some 23, .move (.tmp 6), 3, "ref.go:230", #[⟨4, .guard⟩], some (4, false)⟩ rfl ?_
    refine wTk 6 ⟨some 24, .move (.tmp 0), 23, "ref.go:230", #[⟨4, .guard⟩], some (4, false)⟩ rfl ?_
    refine wTk 7 ⟨some 25, .call ⟨.builtin .len, #[.tmp 24], #[23]⟩, 3, "ref.go:230", #[⟨6, .data⟩, ⟨4, .guard⟩], some (4, false)⟩ rfl ?_
    refine wTk 8 ⟨some 26, .binOp .lss 3 (.tmp 23) (.tmp 25) 3, 4, "ref.go:230", #[⟨5, .data⟩, ⟨7, .data⟩, ⟨4, .guard⟩], some (4, false)⟩ rfl ?_
    refine wTk 9 ⟨some 27, .move (.tmp 26), 4, "ref.go:230", #[⟨8, .data⟩, ⟨4, .chain⟩, ⟨4, .guard⟩], some (4, false)⟩ rfl ?_
    refine wTk 10 ⟨some 28, .move (.tmp 0), 23, "ref.go:230", #[⟨9, .guard⟩], some (9, true)⟩ rfl ?_
    refine wTk 11 ⟨some 29, .move (.tmp 6), 3, "ref.go:230", #[⟨9, .guard⟩], some (9, true)⟩ rfl ?_
    refine wTk 12 ⟨some 30, .indexAddr 23 (.tmp 28) (.tmp 29), 0, "ref.go:230", #[⟨10, .data⟩, ⟨11, .data⟩, ⟨9, .guard⟩], some (9, true)⟩ rfl ?_
    refine wTk 13 ⟨some 31, .fieldAddr 49 (.tmp 30) 0, 0, "ref.go:230", #[⟨12, .data⟩, ⟨9, .guard⟩], some (9, true)⟩ rfl ?_
    refine wTk 14 ⟨some 32, .load 47 (.tmp 31), 47, "ref.go:230", #[⟨13, .data⟩, ⟨9, .guard⟩], some (9, true)⟩ rfl ?_
    refine wTk 15 ⟨some 33, .move (.tmp 1), 23, "ref.go:230", #[⟨9, .guard⟩], some (9, true)⟩ rfl ?_
    refine wTk 16 ⟨some 34, .move (.tmp 7), 3, "ref.go:230", #[⟨9, .guard⟩], some (9, true)⟩ rfl ?_
    refine wTk 17 ⟨some 35, .indexAddr 23 (.tmp 33) (.tmp 34), 0, "ref.go:230", #[⟨15, .data⟩, ⟨16, .data⟩, ⟨9, .guard⟩], some (9, true)⟩ rfl ?_
    refine wTk 18 ⟨some 36, .fieldAddr 49 (.tmp 35) 0, 0, "ref.go:230", #[⟨17, .data⟩, ⟨9, .guard⟩], some (9, true)⟩ rfl ?_
    refine wTk 19 ⟨some 37, .load 47 (.tmp 36), 47, "ref.go:230", #[⟨18, .data⟩, ⟨9, .guard⟩], some (9, true)⟩ rfl ?_
    refine wpAnyH_ready (rs := [20]) (by kernel_rfl) (by simp) (.cons rfl (fun K hK => ?_) .nil)
    go_simp
    go_wp2_with fail
    refine (refAhead_any e f _).mono ?_
    rintro x w3 ⟨rfl, b3⟩
    have HB3 : Hid (Below wr.heap.size wr w3) := (below_drew1 wr).trans b3
    refine hK.out _ _ (HSt.out _ HB3.out) (fun hHeld => ?_)
    clear hK K
    clear b3
    refine wTk 21 ⟨some 39, .pick (.tmp 27) (.tmp 38) (.const (.bool false)), 4, "ref.go:230", #[⟨9, .data⟩, ⟨20, .data⟩, ⟨4, .guard⟩], some (4, false)⟩ rfl ?_
    refine wTk 22 ⟨some 40, .pick (.tmp 22) (.const (.bool true)) (.tmp 39), 4, "ref.go:230", #[⟨4, .data⟩, ⟨21, .data⟩], none⟩ rfl ?_
    refine wpAnyH_done (by kernel_rfl) ?_ _
    clear hHeld
    cases ha : ahead e f with
    | true =>
     have HN : Hid (BoI A B (i + 1) j (acc ++ [e])) := by
      have h := HBo.out.pushA HA.out.1 HA.out.2.1 (by rw [HL.out.1]; exact Hin.out) (fun t h1 h2 => by
       rw [He.out]
       by_cases e1 : t = j
       ·rw [e1, Hf.out]; exact ha
       ·have h3 := asc_at HA.out.2.1 (show j < t by omega) h2
        rw [Hf.out] at h3
        exact ahead_trans ha h3)
      rw [He.out] at h
      exact h
     clear ha
     have HO6 := hide (HO.out.later HB3.out)
     have l6 := run_ld28 (HA0.out.on HB3.out)
     go_wp2_with (at_builtin; refine HO6.out.append e _ rfl (by have := Hl.out; have := Hin.out; omega) rfl (.tmp 41) (.tmp 46) rfl l Hl.out rfl rfl ?_; intro g7 c7 w7 O7 hk7; have HO7 := hide O7; clear O7 hk7)
     clear l6
     go_roundw
     case rel => exact ⟨i + 1, j, some ⟨g7, 0, none⟩, l + 1, c7, Hin.out, hj, rfl, by simp, rfl, ⟨_, by rw [List.length_append, Hl.out]; rfl, HO7.out, HN.out⟩⟩
     case measure => simp [intOf]; have := Hin.out; omega
    | false =>
     have HSu : Hid (∀ W, Below w3.heap.size w3 W → (ld26 (.pointer (some (ad.add (i * 4))))).run Tryz.prog W = .ok (.agg (DC e)) W ∧ (ld26 (.pointer (some (bd.add (j * 4))))).run Tryz.prog W = .ok (.agg (DC f)) W) := fun W hW => HSt.out W (HB3.out.trans (hW.mono HB3.out.size))
     go_upto_region 7 with fail
     refine wp_region_held_drew (S := fun W => (ld26 (.pointer (some (ad.add (i * 4))))).run Tryz.prog W = .ok (.agg (DC e)) W ∧ (ld26 (.pointer (some (bd.add (j * 4))))).run Tryz.prog W = .ok (.agg (DC f)) W) (by kernel_rfl) (HSu.out _ (below_drew1 w3)) (fun hHeld => ?_)
     refine wTk 0 ⟨some 50, .move (.tmp 6), 3, "ref.go:235", #[], none⟩ rfl ?_
     refine wTk 1 ⟨some 51, .move (.tmp 0), 23, "ref.go:235", #[], none⟩ rfl ?_
     refine wTk 2 ⟨some 52, .call ⟨.builtin .len, #[.tmp 51], #[23]⟩, 3, "ref.go:235", #[⟨1, .data⟩], none⟩ rfl ?_
     refine wTk 3 ⟨some 53, .binOp .lss 3 (.tmp 50) (.tmp 52) 3, 4, "ref.go:235", #[⟨0, .data⟩, ⟨2, .data⟩], none⟩ rfl ?_
     refine wTk 4 ⟨some 54, .move (.tmp 53), 4, "ref.go:235", #[⟨3, .data⟩], none⟩ rfl ?_
     refine wTk 5 ⟨some 55, .move (.tmp 0), 23, "ref.go:235", #[⟨4, .guard⟩], some (4, true)⟩ rfl ?_
     refine wTk 6 ⟨some 56, .move (.tmp 6), 3, "ref.go:235", #[⟨4, .guard⟩], some (4, true)⟩ rfl ?_
     refine wTk 7 ⟨some 57, .indexAddr 23 (.tmp 55) (.tmp 56), 0, "ref.go:235", #[⟨5, .data⟩, ⟨6, .data⟩, ⟨4, .guard⟩], some (4, true)⟩ rfl ?_
     refine wTk 8 ⟨some 58, .fieldAddr 49 (.tmp 57) 0, 0, "ref.go:235", #[⟨7, .data⟩, ⟨4, .guard⟩], some (4, true)⟩ rfl ?_
     refine wTk 9 ⟨some 59, .load 47 (.tmp 58), 47, "ref.go:235", #[⟨8, .data⟩, ⟨4, .guard⟩], some (4, true)⟩ rfl ?_
     refine wTk 10 ⟨some 60, .move (.tmp 1), 23, "ref.go:235", #[⟨4, .guard⟩], some (4, true)⟩ rfl ?_
     refine wTk 11 ⟨some 61, .move (.tmp 7), 3, "ref.go:235", #[⟨4, .guard⟩], some (4, true)⟩ rfl ?_
     refine wTk 12 ⟨some 62, .indexAddr 23 (.tmp 60) (.tmp 61), 0, "ref.go:235", #[⟨10, .data⟩, ⟨11, .data⟩, ⟨4, .guard⟩], some (4, true)⟩ rfl ?_
     refine wTk 13 ⟨some 63, .fieldAddr 49 (.tmp 62) 0, 0, "ref.go:235", #[⟨12, .data⟩, ⟨4, .guard⟩], some (4, true)⟩ rfl ?_
     refine wTk 14 ⟨some 64, .load 47 (.tmp 63), 47, "ref.go:235", #[⟨13, .data⟩, ⟨4, .guard⟩], some (4, true)⟩ rfl ?_
     refine wTk 15 ⟨some 65, .binOp .eql 47 (.tmp 59) (.tmp 64) 47, 4, "ref.go:235", #[⟨9, .data⟩, ⟨14, .data⟩, ⟨4, .guard⟩], some (4, true)⟩ rfl ?_
     refine wTk 16 ⟨some 66, .pick (.tmp 54) (.tmp 65) (.const (.bool false)), 4, "ref.go:235", #[⟨4, .data⟩, ⟨15, .data⟩], none⟩ rfl ?_
     refine wpAnyH_done (by kernel_rfl) ?_ _
     clear hHeld
     have HB4 : Hid (Below wr.heap.size wr w3.drew) := HB3.out.trans ((below_drew1 w3).mono HB3.out.size)
     cases hs : sameDot e f with
     | true =>
      have HN : Hid (BoI A B (i + 1) (j + 1) (acc ++ [f])) := by
       have hi' : i < A.length := by rw [HL.out.1]; exact Hin.out
       have hj' : j < B.length := by rw [HL.out.2]; exact Hjm.out
       have ea : A.getD i en0 = A[i] := by simp [List.getD, List.getElem?_eq_getElem hi']
       have eb : B.getD j en0 = B[j] := by simp [List.getD, List.getElem?_eq_getElem hj']
       have hef : e = f := Classical.byContradiction fun hn => HA.out.2.2 ⟨e, List.mem_append_left _ (by rw [← He.out, ea]; exact List.getElem_mem hi'), f, List.mem_append_right _ (by rw [← Hf.out, eb]; exact List.getElem_mem hj'), hs, hn⟩
       have h := HBo.out.pushAB HA.out.1 HA.out.2.1 hi' hj' (by rw [He.out, Hf.out, hef])
       rw [Hf.out] at h
       exact h
      clear hs ha
      have HO6 := hide (HO.out.later HB4.out)
      have l6 := run_ld28 (HB0.out.on HB4.out)
      go_wp2_with (at_builtin; refine HO6.out.append f _ rfl (by have := Hl.out; have := Hjm.out; omega) rfl (.tmp 69) (.tmp 74) rfl l Hl.out rfl rfl ?_; intro g7 c7 w7 O7 hk7; have HO7 := hide O7; clear O7 hk7)
      clear l6
      go_roundw
      case rel => exact ⟨i + 1, j + 1, some ⟨g7, 0, none⟩, l + 1, c7, Hin.out, Hjm.out, rfl, by simp, by simp, ⟨_, by rw [List.length_append, Hl.out]; rfl, HO7.out, HN.out⟩⟩
      case measure => simp [intOf]; have := Hjm.out; have := Hin.out; omega
     | false =>
      have HN : Hid (BoI A B i (j + 1) (acc ++ [f])) := by
       have h := HBo.out.pushB HA.out.1 HA.out.2.1 (by rw [HL.out.2]; exact Hjm.out) (fun t h1 h2 => by
        rw [Hf.out]
        have h0 := not_ahead_same ha hs
        by_cases e1 : t = i
        ·rw [e1, He.out]; exact h0
        ·have h3 := asc_at HA.out.1 (show i < t by omega) h2
         rw [He.out] at h3
         exact ahead_trans h0 h3)
       rw [Hf.out] at h
       exact h
      clear hs ha
      have HO6 := hide (HO.out.later HB4.out)
      have l6 := run_ld28 (HB0.out.on HB4.out)
      go_wp2_with (at_builtin; refine HO6.out.append f _ rfl (by have := Hl.out; have := Hjm.out; omega) rfl (.tmp 69) (.tmp 74) rfl l Hl.out rfl rfl ?_; intro g7 c7 w7 O7 hk7; have HO7 := hide O7; clear O7 hk7)
      clear l6
      go_roundw
      case rel => exact ⟨i, j + 1, some ⟨g7, 0, none⟩, l + 1, c7, hi, Hjm.out, rfl, rfl, by simp, ⟨_, by rw [List.length_append, Hl.out]; rfl, HO7.out, HN.out⟩⟩
      case measure => simp [intOf]; have := Hjm.out; omega
   ·have hini : ¬ (i : Int) < (n : Int) := by omega
    have Hin := hide hin
    clear B0 O
    go_upto_region 4 with fail
    refine wp_region_held_drew (S := fun _ => True) (by kernel_rfl) (trivial) (fun hHeld => ?_)
    refine wTk 0 ⟨some 18, .move (.tmp 7), 3, "ref.go:230", #[], none⟩ rfl ?_
    refine wTk 1 ⟨some 19, .move (.tmp 1), 23, "ref.go:230", #[], none⟩ rfl ?_
    refine wTk 2 ⟨some 20, .call ⟨.builtin .len, #[.tmp 19], #[23]⟩, 3, "ref.go:230", #[⟨1, .data⟩], none⟩ rfl ?_
    refine wTk 3 ⟨some 21, .binOp .eql 3 (.tmp 18) (.tmp 20) 3, 4, "ref.go:230", #[⟨0, .data⟩, ⟨2, .data⟩], none⟩ rfl ?_
    refine wTk 4 ⟨some 22, .move (.tmp 21), 4, "ref.go:230", #[⟨3, .data⟩], none⟩ rfl ?_
    refine wTk 5 ⟨some 23, .move (.tmp 6), 3, "ref.go:230", #[⟨4, .guard⟩], some (4, false)⟩ rfl ?_
    refine wTk 6 ⟨some 24, .move (.tmp 0), 23, "ref.go:230", #[⟨4, .guard⟩], some (4, false)⟩ rfl ?_
    refine wTk 7 ⟨some 25, .call ⟨.builtin .len, #[.tmp 24], #[23]⟩, 3, "ref.go:230", #[⟨6, .data⟩, ⟨4, .guard⟩], some (4, false)⟩ rfl ?_
    refine wTk 8 ⟨some 26, .binOp .lss 3 (.tmp 23) (.tmp 25) 3, 4, "ref.go:230", #[⟨5, .data⟩, ⟨7, .data⟩, ⟨4, .guard⟩], some (4, false)⟩ rfl ?_
    refine wTk 9 ⟨some 27, .move (.tmp 26), 4, "ref.go:230", #[⟨8, .data⟩, ⟨4, .chain⟩, ⟨4, .guard⟩], some (4, false)⟩ rfl ?_
    refine wSk 10 ⟨some 28, .move (.tmp 0), 23, "ref.go:230", #[⟨9, .guard⟩], some (9, true)⟩ rfl ?_
    refine wSk 11 ⟨some 29, .move (.tmp 6), 3, "ref.go:230", #[⟨9, .guard⟩], some (9, true)⟩ rfl ?_
    refine wSk 12 ⟨some 30, .indexAddr 23 (.tmp 28) (.tmp 29), 0, "ref.go:230", #[⟨10, .data⟩, ⟨11, .data⟩, ⟨9, .guard⟩], some (9, true)⟩ rfl ?_
    refine wSk 13 ⟨some 31, .fieldAddr 49 (.tmp 30) 0, 0, "ref.go:230", #[⟨12, .data⟩, ⟨9, .guard⟩], some (9, true)⟩ rfl ?_
    refine wSk 14 ⟨some 32, .load 47 (.tmp 31), 47, "ref.go:230", #[⟨13, .data⟩, ⟨9, .guard⟩], some (9, true)⟩ rfl ?_
    refine wSk 15 ⟨some 33, .move (.tmp 1), 23, "ref.go:230", #[⟨9, .guard⟩], some (9, true)⟩ rfl ?_
    refine wSk 16 ⟨some 34, .move (.tmp 7), 3, "ref.go:230", #[⟨9, .guard⟩], some (9, true)⟩ rfl ?_
    refine wSk 17 ⟨some 35, .indexAddr 23 (.tmp 33) (.tmp 34), 0, "ref.go:230", #[⟨15, .data⟩, ⟨16, .data⟩, ⟨9, .guard⟩], some (9, true)⟩ rfl ?_
    refine wSk 18 ⟨some 36, .fieldAddr 49 (.tmp 35) 0, 0, "ref.go:230", #[⟨17, .data⟩, ⟨9, .guard⟩], some (9, true)⟩ rfl ?_
    refine wSk 19 ⟨some 37, .load 47 (.tmp 36), 47, "ref.go:230", #[⟨18, .data⟩, ⟨9, .guard⟩], some (9, true)⟩ rfl ?_
    refine wSk 20 ⟨some 38, .call ⟨.value (.func 35), #[.tmp 32, .tmp 37], #[47, 47]⟩, 4, "ref.go:230", #[⟨14, .data⟩, ⟨19, .data⟩, ⟨9, .chain⟩, ⟨9, .guard⟩], some (9, true)⟩ rfl ?_
    refine wTk 21 ⟨some 39, .pick (.tmp 27) (.tmp 38) (.const (.bool false)), 4, "ref.go:230", #[⟨9, .data⟩, ⟨20, .data⟩, ⟨4, .guard⟩], some (4, false)⟩ rfl ?_
    refine wTk 22 ⟨some 40, .pick (.tmp 22) (.const (.bool true)) (.tmp 39), 4, "ref.go:230", #[⟨4, .data⟩, ⟨21, .data⟩], none⟩ rfl ?_
    refine wpAnyH_done (by kernel_rfl) ?_ _
    clear hHeld
    go_upto_region 7 with fail
    refine wp_region_held_drew (S := fun _ => True) (by kernel_rfl) (trivial) (fun hHeld => ?_)
    refine wTk 0 ⟨some 50, .move (.tmp 6), 3, "ref.go:235", #[], none⟩ rfl ?_
    refine wTk 1 ⟨some 51, .move (.tmp 0), 23, "ref.go:235", #[], none⟩ rfl ?_
    refine wTk 2 ⟨some 52, .call ⟨.builtin .len, #[.tmp 51], #[23]⟩, 3, "ref.go:235", #[⟨1, .data⟩], none⟩ rfl ?_
    refine wTk 3 ⟨some 53, .binOp .lss 3 (.tmp 50) (.tmp 52) 3, 4, "ref.go:235", #[⟨0, .data⟩, ⟨2, .data⟩], none⟩ rfl ?_
    refine wTk 4 ⟨some 54, .move (.tmp 53), 4, "ref.go:235", #[⟨3, .data⟩], none⟩ rfl ?_
    refine wSk 5 ⟨some 55, .move (.tmp 0), 23, "ref.go:235", #[⟨4, .guard⟩], some (4, true)⟩ rfl ?_
    refine wSk 6 ⟨some 56, .move (.tmp 6), 3, "ref.go:235", #[⟨4, .guard⟩], some (4, true)⟩ rfl ?_
    refine wSk 7 ⟨some 57, .indexAddr 23 (.tmp 55) (.tmp 56), 0, "ref.go:235", #[⟨5, .data⟩, ⟨6, .data⟩, ⟨4, .guard⟩], some (4, true)⟩ rfl ?_
    refine wSk 8 ⟨some 58, .fieldAddr 49 (.tmp 57) 0, 0, "ref.go:235", #[⟨7, .data⟩, ⟨4, .guard⟩], some (4, true)⟩ rfl ?_
    refine wSk 9 ⟨some 59, .load 47 (.tmp 58), 47, "ref.go:235", #[⟨8, .data⟩, ⟨4, .guard⟩], some (4, true)⟩ rfl ?_
    refine wSk 10 ⟨some 60, .move (.tmp 1), 23, "ref.go:235", #[⟨4, .guard⟩], some (4, true)⟩ rfl ?_
    refine wSk 11 ⟨some 61, .move (.tmp 7), 3, "ref.go:235", #[⟨4, .guard⟩], some (4, true)⟩ rfl ?_
    refine wSk 12 ⟨some 62, .indexAddr 23 (.tmp 60) (.tmp 61), 0, "ref.go:235", #[⟨10, .data⟩, ⟨11, .data⟩, ⟨4, .guard⟩], some (4, true)⟩ rfl ?_
    refine wSk 13 ⟨some 63, .fieldAddr 49 (.tmp 62) 0, 0, "ref.go:235", #[⟨12, .data⟩, ⟨4, .guard⟩], some (4, true)⟩ rfl ?_
    refine wSk 14 ⟨some 64, .load 47 (.tmp 63), 47, "ref.go:235", #[⟨13, .data⟩, ⟨4, .guard⟩], some (4, true)⟩ rfl ?_
    refine wSk 15 ⟨some 65, .binOp .eql 47 (.tmp 59) (.tmp 64) 47, 4, "ref.go:235", #[⟨9, .data⟩, ⟨14, .data⟩, ⟨4, .guard⟩], some (4, true)⟩ rfl ?_
    refine wTk 16 ⟨some 66, .pick (.tmp 54) (.tmp 65) (.const (.bool false)), 4, "ref.go:235", #[⟨4, .data⟩, ⟨15, .data⟩], none⟩ rfl ?_
    refine wpAnyH_done (by kernel_rfl) ?_ _
    clear hHeld
    have HB4 : Hid (Below wr.heap.size wr wr.drew.drew) := (below_drew1 wr).trans ((below_drew1 wr.drew).mono (below_drew1 wr).size)
    have HN : Hid (BoI A B i (j + 1) (acc ++ [f])) := by
     have h := HBo.out.pushB HA.out.1 HA.out.2.1 (by rw [HL.out.2]; exact Hjm.out) (fun t h1 h2 => absurd h2 (by have := HL.out; have := Hin.out; omega))
     rw [Hf.out] at h
     exact h
    have HO6 := hide (HO.out.later HB4.out)
    have l6 := run_ld28 (HB0.out.on HB4.out)
    go_wp2_with (at_builtin; refine HO6.out.append f _ rfl (by have := Hl.out; have := Hjm.out; omega) rfl (.tmp 69) (.tmp 74) rfl l Hl.out rfl rfl ?_; intro g7 c7 w7 O7 hk7; have HO7 := hide O7; clear O7 hk7)
    clear l6
    go_roundw
    case rel => exact ⟨i, j + 1, some ⟨g7, 0, none⟩, l + 1, c7, hi, Hjm.out, rfl, rfl, by simp, ⟨_, by rw [List.length_append, Hl.out]; rfl, HO7.out, HN.out⟩⟩
    case measure => simp [intOf]; have := Hjm.out; omega
  ·have hjmi : ¬ (j : Int) < (m : Int) := by omega
   have hje : ((j : Int) == (m : Int)) = true := by simp; omega
   by_cases hin : i < n
   ·have hini : (i : Int) < (n : Int) := by omega
    obtain ⟨ad, hao, A0⟩ := (HS.out.below O.below).at i hin
    subst hao
    obtain ⟨e, He⟩ : ∃ e, Hid (A.getD i en0 = e) := ⟨_, rfl⟩
    rw [He.out] at A0
    have HA0 := hide A0
    have Hin := hide hin
    have Hjm := hide hjm
    clear A0 O
    go_upto_region 4 with fail
    refine wp_region_held_drew (S := fun _ => True) (by kernel_rfl) (trivial) (fun hHeld => ?_)
    refine wTk 0 ⟨some 18, .move (.tmp 7), 3, "ref.go:230", #[], none⟩ rfl ?_
    refine wTk 1 ⟨some 19, .move (.tmp 1), 23, "ref.go:230", #[], none⟩ rfl ?_
    refine wTk 2 ⟨some 20, .call ⟨.builtin .len, #[.tmp 19], #[23]⟩, 3, "ref.go:230", #[⟨1, .data⟩], none⟩ rfl ?_
    refine wTk 3 ⟨some 21, .binOp .eql 3 (.tmp 18) (.tmp 20) 3, 4, "ref.go:230", #[⟨0, .data⟩, ⟨2, .data⟩], none⟩ rfl ?_
    refine wTk 4 ⟨some 22, .move (.tmp 21), 4, "ref.go:230", #[⟨3, .data⟩], none⟩ rfl ?_
    refine wSk 5 ⟨some 23, .move (.tmp 6), 3, "ref.go:230", #[⟨4, .guard⟩], some (4, false)⟩ rfl ?_
    refine wSk 6 ⟨some 24, .move (.tmp 0), 23, "ref.go:230", #[⟨4, .guard⟩], some (4, false)⟩ rfl ?_
    refine wSk 7 ⟨some 25, .call ⟨.builtin .len, #[.tmp 24], #[23]⟩, 3, "ref.go:230", #[⟨6, .data⟩, ⟨4, .guard⟩], some (4, false)⟩ rfl ?_
    refine wSk 8 ⟨some 26, .binOp .lss 3 (.tmp 23) (.tmp 25) 3, 4, "ref.go:230", #[⟨5, .data⟩, ⟨7, .data⟩, ⟨4, .guard⟩], some (4, false)⟩ rfl ?_
    refine wSk 9 ⟨some 27, .move (.tmp 26), 4, "ref.go:230", #[⟨8, .data⟩, ⟨4, .chain⟩, ⟨4, .guard⟩], some (4, false)⟩ rfl ?_
    refine wSk 10 ⟨some 28, .move (.tmp 0), 23, "ref.go:230", #[⟨9, .guard⟩], some (9, true)⟩ rfl ?_
    refine wSk 11 ⟨some 29, .move (.tmp 6), 3, "ref.go:230", #[⟨9, .guard⟩], some (9, true)⟩ rfl ?_
    refine wSk 12 ⟨some 30, .indexAddr 23 (.tmp 28) (.tmp 29), 0, "ref.go:230", #[⟨10, .data⟩, ⟨11, .data⟩, ⟨9, .guard⟩], some (9, true)⟩ rfl ?_
    refine wSk 13 ⟨some 31, .fieldAddr 49 (.tmp 30) 0, 0, "ref.go:230", #[⟨12, .data⟩, ⟨9, .guard⟩], some (9, true)⟩ rfl ?_
    refine wSk 14 ⟨some 32, .load 47 (.tmp 31), 47, "ref.go:230", #[⟨13, .data⟩, ⟨9, .guard⟩], some (9, true)⟩ rfl ?_
    refine wSk 15 ⟨some 33, .move (.tmp 1), 23, "ref.go:230", #[⟨9, .guard⟩], some (9, true)⟩ rfl ?_
    refine wSk 16 ⟨some 34, .move (.tmp 7), 3, "ref.go:230", #[⟨9, .guard⟩], some (9, true)⟩ rfl ?_
    refine wSk 17 ⟨some 35, .indexAddr 23 (.tmp 33) (.tmp 34), 0, "ref.go:230", #[⟨15, .data⟩, ⟨16, .data⟩, ⟨9, .guard⟩], some (9, true)⟩ rfl ?_
    refine wSk 18 ⟨some 36, .fieldAddr 49 (.tmp 35) 0, 0, "ref.go:230", #[⟨17, .data⟩, ⟨9, .guard⟩], some (9, true)⟩ rfl ?_
    refine wSk 19 ⟨some 37, .load 47 (.tmp 36), 47, "ref.go:230", #[⟨18, .data⟩, ⟨9, .guard⟩], some (9, true)⟩ rfl ?_
    refine wSk 20 ⟨some 38, .call ⟨.value (.func 35), #[.tmp 32, .tmp 37], #[47, 47]⟩, 4, "ref.go:230", #[⟨14, .data⟩, ⟨19, .data⟩, ⟨9, .chain⟩, ⟨9, .guard⟩], some (9, true)⟩ rfl ?_
    refine wSk 21 ⟨some 39, .pick (.tmp 27) (.tmp 38) (.const (.bool false)), 4, "ref.go:230", #[⟨9, .data⟩, ⟨20, .data⟩, ⟨4, .guard⟩], some (4, false)⟩ rfl ?_
    refine wTk 22 ⟨some 40, .pick (.tmp 22) (.const (.bool true)) (.tmp 39), 4, "ref.go:230", #[⟨4, .data⟩, ⟨21, .data⟩], none⟩ rfl ?_
    refine wpAnyH_done (by kernel_rfl) ?_ _
    clear hHeld
    have HB4 : Hid (Below wr.heap.size wr wr.drew) := below_drew1 wr
    have HN : Hid (BoI A B (i + 1) j (acc ++ [e])) := by
     have h := HBo.out.pushA HA.out.1 HA.out.2.1 (by rw [HL.out.1]; exact Hin.out) (fun t h1 h2 => absurd h2 (by have := HL.out; have := Hjm.out; omega))
     rw [He.out] at h
     exact h
    have HO6 := hide (HO.out.later HB4.out)
    have l6 := run_ld28 (HA0.out.on HB4.out)
    go_wp2_with (at_builtin; refine HO6.out.append e _ rfl (by have := Hl.out; have := Hin.out; omega) rfl (.tmp 41) (.tmp 46) rfl l Hl.out rfl rfl ?_; intro g7 c7 w7 O7 hk7; have HO7 := hide O7; clear O7 hk7)
    clear l6
    go_roundw
    case rel => exact ⟨i + 1, j, some ⟨g7, 0, none⟩, l + 1, c7, Hin.out, hj, rfl, by simp, rfl, ⟨_, by rw [List.length_append, Hl.out]; rfl, HO7.out, HN.out⟩⟩
    case measure => simp [intOf]; have := Hin.out; omega
   ·have hini : ¬ (i : Int) < (n : Int) := by omega
    have HE : Hid (BoA w wr (.returned (.slice ap l c)) A B) := by
     have hm : ∀ x, x ∈ acc ↔ x ∈ A ∨ x ∈ B := fun x => by
      have := HBo.out.mem x
      rwa [List.take_of_length_le (by have := HL.out; omega), List.take_of_length_le (by have := HL.out; omega)] at this
     have h1 := HO.out.src (fun x hx => HK.out x (List.mem_append.2 ((hm x).1 hx))) (by have := Hl.out; omega)
     rw [Hl.out] at h1
     exact ⟨ap, l, c, acc, rfl, h1.1, HO.out.below, HBo.out.asc, hm⟩
    clear O
    go_wp2_with fail
    go_ret
    exact HE.out
end Go.Proofs.YtfpmijfcemopoaaGreat.K
