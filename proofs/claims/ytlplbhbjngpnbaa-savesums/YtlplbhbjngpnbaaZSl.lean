/- SaveSums: the law. -/
import Derived.Test.YtlplbhbjngpnbaaZSu
namespace Go.Proofs.Ytlplbhbjngpnbaa
open Go.RowKit
variable {w w' w2 : World} {g : Nat}

theorem lit2 (w : World) : BS (w.alloc (.cells #[.int .u8 255, .int .u8 255] 5)) (some ⟨w.heap.size, 0, none⟩) 2 2 [255, 255] := by
  refine ⟨rfl, fun h => (by cases h), fun ad ha t ht => ?_⟩
  obtain rfl := Option.some.inj ha
  match t, ht with
  | 0, _ =>
    rw [Addr.add_lit]
    unfold World.cell?
    rw [heap_alloc_new]
    rfl
  | 1, _ =>
    rw [Addr.add_lit]
    unfold World.cell?
    rw [heap_alloc_new]
    rfl
theorem oct2 : Oct [255, 255]
  | 0 => by decide
  | 1 => by decide
  | k + 2 => by simp
theorem Oct.snoc {Z : List Int} (h : Oct Z) {c : Int} (h0 : 0 ≤ c) (h1 : c ≤ 255) : Oct (Z ++ [c]) := fun k => by
  by_cases hk : k < Z.length
  · have := h k
    rw [List.getD_eq_getElem?_getD] at this ⊢
    rw [List.getElem?_append_left hk]
    exact this
  · rw [List.getD_eq_getElem?_getD, List.getElem?_append_right (by omega)]
    cases hj : k - Z.length with
    | zero => simp; omega
    | succ j => simp
theorem last1 {Z : List Int} {n : Nat} (hl : Z.length = n) (c : Int) : f1 (Z ++ [c]) (n + 1) = f1 Z n + c := by
  rw [f1, f1_app Z [c] n (by omega)]
  congr 1
  rw [List.getD_eq_getElem?_getD, List.getElem?_append_right (by omega), hl, Nat.sub_self]
  rfl
theorem last2 {Z : List Int} {n : Nat} (hl : Z.length = n) (c : Int) : f2 (Z ++ [c]) (n + 1) = f2 Z n + (f1 Z n + c) := by
  rw [f2, f2_app Z [c] n (by omega), last1 hl]
theorem tm {x y : Int} (h0 : 0 ≤ x) (h1 : x ≤ 8589934592) (h : x % 4294967296 = y) : (wrap64 x).tmod 4294967296 = y := by
  rw [w64 (by omega) (by omega), Int.tmod_eq_emod_of_nonneg h0, h]
set_option maxRecDepth 100000 in
theorem saveSums_any (ao : Option Addr) (n cp : Nat) (Z : List Int) (c : Int) (w : World) (S : BS w ao n cp Z) (hZ : Oct Z) (hn : n + 1 ≤ 140737488355328) (h0 : 0 ≤ c) (h1 : c ≤ 255) : Calls Try.prog 3 #[.slice ao n cp, .int .u8 c] w fun r w' =>
    r = .returned (.bool true) ∧ Below w.heap.size w w' := by
  have b1 := below_new w (.cells #[.int .u8 255, .int .u8 255] 5)
  have HC1 := hide (sums_any _ 2 2 _ _ (lit2 w) oct2 (by decide))
  have e1 : f1 [255, 255] 2 % 4294967296 = 510 := by decide
  have e2 : f2 [255, 255] 2 % 4294967296 = 765 := by decide
  rw [e1, e2] at HC1
  have S1 := S.below b1
  have HC2 := hide (refSums_any ao n cp Z _ S1 hZ (by omega))
  have HC3 := hide (sums_any ao n cp Z _ S1 hZ (by omega))
  have HS1 := hide S1
  have HZ := hide hZ
  have HN := hide hn
  have HC : Hid (0 ≤ c ∧ c ≤ 255) := ⟨h0, h1⟩
  have HB1 := hide b1
  have HLN := hide S.len
  obtain ⟨x, hx⟩ : ∃ x, f1 Z n % 4294967296 = x := ⟨_, rfl⟩
  obtain ⟨y, hy⟩ : ∃ y, f2 Z n % 4294967296 = y := ⟨_, rfl⟩
  have HX : Hid (f1 Z n % 4294967296 = x ∧ f2 Z n % 4294967296 = y) := ⟨hx, hy⟩
  rw [hx, hy] at HC2 HC3
  clear S hn hZ S1 b1 e1 e2 h0 h1 hx hy
  go_enter Try.func3, Try.ntmps3
  go_wp2_with fail
  refine HC1.out.mono ?_
  rintro e w2 ⟨rfl, rfl⟩
  go_wp2_with fail
  refine HC2.out.mono ?_
  rintro e w3 ⟨rfl, rfl⟩
  go_wp2_with fail
  refine HC3.out.mono ?_
  rintro e w4 ⟨rfl, rfl⟩
  generalize w.alloc (.cells #[.int .u8 255, .int .u8 255] 5) = w1 at HS1 HB1 ⊢
  have HL := hide (BR.lit w1)
  have HS2 := hide (HS1.out.below (below_new w1 (.cells #[] 5)))
  have HN0 : Hid (0 + n ≤ 140737488355328) := by show _ ≤ _; have := HN.out; omega
  clear HC1 HC2 HC3 HS1
  go_wp2_with (first | (at_builtin; refine HL.out.appB HS2.out HN0.out rfl (.tmp 41) (.tmp 42) rfl rfl rfl ?_; intro a5 c5 w5 S5 A5; rw [Nat.zero_add] at S5 ⊢; rw [List.nil_append] at S5; have HS5 := hide S5; have HB5 := hide (HB1.out.trans ((A5.fresh).1.mono HB1.out.size)); have HF5 := hide A5.fresh.2; clear S5 A5) | (at_builtin; refine HS5.out.app1 c HN.out rfl (.tmp 43) (.tmp 45) rfl rfl rfl ?_; intro a6 c6 w6 S6 A6; have HS6 := hide S6; have HA6 := hide A6; clear S6 A6))
  have HC6 := hide (sums_any a6 (n + 1) c6 _ _ HS6.out.bs (HZ.out.snoc HC.out.1 HC.out.2) (by have := HN.out; omega))
  rw [last1 HLN.out, last2 HLN.out] at HC6
  obtain ⟨p, hp⟩ : ∃ p, (f1 Z n + c) % 4294967296 = p := ⟨_, rfl⟩
  obtain ⟨q, hq⟩ : ∃ q, (f2 Z n + (f1 Z n + c)) % 4294967296 = q := ⟨_, rfl⟩
  rw [hp, hq] at HC6
  have HEnd : Hid (Below w.heap.size w w6) := HB5.out.grown HA6.out.grown HB5.out.size (fun k e => Nat.le_trans HB1.out.size (HF5.out k e))
  have ec : wrap64 c = c := w64 (by have := HC.out; omega) (by have := HC.out; omega)
  have e5 : (wrap64 (x + c)).tmod 4294967296 = p := tm (by have := HC.out; have := HX.out; omega) (by have := HC.out; have := HX.out; omega) (by rw [← hp, ← HX.out.1]; omega)
  have e6 : (wrap64 (y + p)).tmod 4294967296 = q := tm (by have := HX.out; omega) (by have := HX.out; omega) (by rw [← hp, ← hq, ← HX.out.2]; omega)
  clear hp hq HS5 HA6 HS6 HX HL HS2 HF5 HB5
  go_wp2_with fail
  refine HC6.out.mono ?_
  rintro e w7 ⟨rfl, rfl⟩
  go_wp2_with fail
  go_ret
  exact ⟨rfl, HEnd.out⟩
end Go.Proofs.Ytlplbhbjngpnbaa
