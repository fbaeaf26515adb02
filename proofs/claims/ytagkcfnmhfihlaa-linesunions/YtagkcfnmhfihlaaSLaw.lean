/- LinesSorts: the law's walk. -/
import Derived.Test.YtagkcfnmhfihlaaSo2
import Derived.Test.YtagkcfnmhfihlaaFnd
namespace Go.Proofs.Ytagkcfnmhfihlaa
open Go.RowKit Go.Lib
attribute [local go_sem ↓] ld28_eq st28_eq ld26_eq run_eq28
attribute [local go_sem] zero_EC cells_EV EC_size cells_DV

/-- some: three entries in a list of their own -/
def Gives3 (w w' : World) (e : Ending) : Prop := ∃ ad, e = .returned (.slice (some ad) 3 3) ∧ ESrc w' (some ad) 3 3 someL ∧ Below w.heap.size w w'
set_option maxHeartbeats 800000 in
theorem some3_any (w : World) : Calls Try.prog 8 #[] w fun e w' => Gives3 w w' e := by
  go_enter Try.func8, Try.ntmps8
  go_wp2_with fail
  refine (entry_lit 0 3 ⟨#[65]⟩ 5 _).mono ?_
  rintro x w1 ⟨rfl, b1⟩
  go_wp2_with fail
  refine (entry_lit 1 1 ⟨#[66]⟩ 2 _).mono ?_
  rintro x w2 ⟨rfl, b2⟩
  go_wp2_with fail
  refine (entry_lit 1 4 ⟨#[65]⟩ 1 _).mono ?_
  rintro x w3 ⟨rfl, b3⟩
  have HB := hide ((b1.trans (b2.mono b1.size)).trans (b3.mono (b1.trans (b2.mono b1.size)).size))
  have HS := hide (lit_esrc w3 someL #[.int .i64 0, .int .i64 3, .string ⟨#[65]⟩, .int .i64 5, .int .i64 1, .int .i64 1, .string ⟨#[66]⟩, .int .i64 2, .int .i64 1, .int .i64 4, .string ⟨#[65]⟩, .int .i64 1] rfl 29 3 rfl someL_sku (by omega))
  clear b1 b2 b3
  go_wp2_with fail
  go_ret
  exact ⟨_, rfl, HS.out, HB.out.trans ((below_new _ _).mono HB.out.size)⟩
theorem ESrc.take {w : World} {ao : Option Addr} {m c : Nat} {L : List En} (h : ESrc w ao m c L) (k : Nat) (hk : k ≤ m) (hs : ∃ ad, ao = some ad) : ESrc w ao k c (L.take k) := by
  refine ⟨by rw [List.length_take, h.1]; omega, (fun e => by obtain ⟨ad, rfl⟩ := hs; cases e), fun ad ha t ht => ?_, fun e he => h.2.2.2.1 e (List.mem_of_mem_take he), by have := h.2.2.2.2; omega⟩
  have := h.2.2.1 ad ha t (by omega)
  rwa [show (L.take k).getD t en0 = L.getD t en0 by simp [List.getD, ht]]
def l0L : List En := [⟨1, 1, bB, 2⟩, ⟨0, 3, bA, 5⟩, ⟨1, 1, bB, 2⟩]
theorem l0L_sku : ∀ e ∈ l0L, e.sku.size ≤ maxLen := by
  have hA : bA.size ≤ maxLen := by unfold maxLen; have : bA.size = 1 := rfl; omega
  have hB : bB.size ≤ maxLen := by unfold maxLen; have : bB.size = 1 := rfl; omega
  intro e he; simp only [l0L, List.mem_cons, List.not_mem_nil, or_false] at he; rcases he with rfl | rfl | rfl
  · exact hB
  · exact hA
  · exact hB
theorem l0_sorted : Sorted l0L (someL.take 2) 0 := by
  have ha : Asc (someL.take 2) := by
    refine List.pairwise_cons.2 ⟨fun y hy => ?_, List.pairwise_singleton _ _⟩
    simp at hy; subst hy; rfl
  have hm : ∀ x, x ∈ someL.take 2 ↔ x ∈ l0L := fun x => by
    simp only [someL, l0L, List.take_succ_cons, List.take_zero, List.mem_cons, List.not_mem_nil, or_false]
    constructor
    · rintro (h | h)
      · exact Or.inr (Or.inl h)
      · exact Or.inl h
    · rintro (h | h | h)
      · exact Or.inr h
      · exact Or.inl h
      · exact Or.inr h
  exact Or.inr ⟨by decide +kernel, Or.inr ⟨asc_noclash ha hm, rfl, ha, hm⟩⟩
set_option maxRecDepth 100000 in
set_option maxHeartbeats 4000000 in
theorem sorts_any (ao : Option Addr) (n cap : Nat) (L : List En) (x : En) (w : World) (hS : ESrc w ao n cap L) :
    Calls Try.prog 3 #[.slice ao n cap, .agg (DC x)] w fun y w' => y = .returned (.bool true) ∧ Below w.heap.size w w' := by
  have HS := hide hS
  have HB0 := hide (below_new w (.cells (DC x) 24))
  have HD0 := hide (dot_new w x)
  clear hS
  go_enter Try.func3, Try.ntmps3
  go_wp2_with fail
  obtain ⟨w0, Hw0⟩ : ∃ w0, Hid (w.alloc (.cells (DC x) 24) = w0) := ⟨_, rfl⟩
  rw [Hw0.out] at HB0 HD0 ⊢
  refine (entry_lit 1 1 ⟨#[66]⟩ 2 _).mono ?_
  rintro y w1 ⟨rfl, b1⟩
  go_wp2_with fail
  refine (entry_lit 0 3 ⟨#[65]⟩ 5 _).mono ?_
  rintro y w2 ⟨rfl, b2⟩
  go_wp2_with fail
  refine (entry_lit 1 1 ⟨#[66]⟩ 2 _).mono ?_
  rintro y w3 ⟨rfl, b3⟩
  have HB3 := hide ((b1.trans (b2.mono b1.size)).trans (b3.mono (b1.trans (b2.mono b1.size)).size))
  have HS3 := hide (lit_esrc w3 l0L #[.int .i64 1, .int .i64 1, .string ⟨#[66]⟩, .int .i64 2, .int .i64 0, .int .i64 3, .string ⟨#[65]⟩, .int .i64 5, .int .i64 1, .int .i64 1, .string ⟨#[66]⟩, .int .i64 2] rfl 29 3 rfl l0L_sku (by omega))
  clear b1 b2 b3
  go_wp2_with fail
  obtain ⟨w4, Hw4⟩ : ∃ w4, Hid (w3.alloc (.cells #[.int .i64 1, .int .i64 1, .string ⟨#[66]⟩, .int .i64 2, .int .i64 0, .int .i64 3, .string ⟨#[65]⟩, .int .i64 5, .int .i64 1, .int .i64 1, .string ⟨#[66]⟩, .int .i64 2] 29) = w4) := ⟨_, rfl⟩
  have HB4 : Hid (Below w0.heap.size w0 w4) := by rw [← Hw4.out]; exact HB3.out.trans ((below_new _ _).mono HB3.out.size)
  rw [Hw4.out] at HS3 ⊢
  refine (sort_any _ 3 3 l0L _ HS3.out).mono ?_
  rintro y w5 ⟨a5, n5, c5, R5, er5, rfl, S5, b5, f5, t5⟩
  obtain ⟨rfl, rfl⟩ := t5.unique l0_sorted
  have HS5 := hide S5
  have HB5 := hide (HB4.out.trans (b5.mono HB4.out.size))
  clear S5 b5 f5 t5 HB4 HB3 HS3
  go_wp2_with fail
  refine (some3_any _).mono ?_
  rintro y w6 ⟨a6, rfl, S6, b6⟩
  have HS6 := hide (S6.take 2 (by omega) ⟨a6, rfl⟩)
  have HS5' := hide (HS5.out.below b6)
  have HB6 := hide (HB5.out.trans (b6.mono HB5.out.size))
  clear S6 b6
  go_wp2_with fail
  refine (same_any a5 (some a6) n5 c5 2 3 _ _ _ HS5'.out HS6.out rfl).mono ?_
  rintro y w7 ⟨rfl, b7⟩
  have HB7 := hide (HB6.out.trans (b7.mono HB6.out.size))
  clear b7 HS5 HS5' HS6 HB5 HB6
  have HW7 := hide (HB0.out.trans (HB7.out.mono HB0.out.size))
  have HS7 := hide (HS.out.below HW7.out)
  have HD7 := hide (HD0.out.on HB7.out)
  go_wp2_with fail
  refine (refSort_any ao n cap L _ HS7.out).mono ?_
  rintro y w8 ⟨a8, n8, c8, R8, er8, rfl, S8, b8, f8, t8⟩
  have HS8 := hide S8
  have HT8 := hide t8
  have HW8 := hide (HW7.out.trans (b8.mono HW7.out.size))
  have HD8 := hide (HD7.out.on b8)
  clear S8 b8 f8 t8
  have ld8 := run_ldD HD8.out
  go_wp2_with fail
  refine (refFind_any ao n cap L x _ (HS.out.below HW8.out)).mono ?_
  rintro y w9 ⟨k9, rfl, hk9, b9⟩
  have HK9 := hide hk9
  have HS9 := hide (HS8.out.below b9)
  have HW9 := hide (HW8.out.trans (b9.mono HW8.out.size))
  have HD9 := hide (HD8.out.on b9)
  clear hk9 b9 ld8
  obtain ⟨e9, He9⟩ : ∃ e, Hid (fdE L k9 = e) := ⟨_, rfl⟩
  obtain ⟨q9, Hq9⟩ : ∃ q, Hid (fdB k9 = q) := ⟨_, rfl⟩
  rw [He9.out, Hq9.out]
  obtain ⟨w10, hst, X10, B10, Z10⟩ := made w9 e9 w9.heap.size rfl
  have HX10 := hide X10
  have HS10 := hide (HS9.out.below B10)
  have HW10 := hide (HW9.out.trans (B10.mono HW9.out.size))
  have HD10 := hide (HD9.out.on B10)
  clear X10 B10 Z10
  go_wp2_with fail
  refine (sort_any ao n cap L _ (HS.out.below HW10.out)).mono ?_
  rintro y w11 ⟨a11, n11, c11, R11, er11, rfl, S11, b11, f11, t11⟩
  obtain ⟨rfl, rfl⟩ := t11.unique HT8.out
  have HS11 := hide S11
  have HS11' := hide (HS10.out.below b11)
  have HX11 := hide (HX10.out.below b11)
  have HW11 := hide (HW10.out.trans (b11.mono HW10.out.size))
  have HD11 := hide (HD10.out.on b11)
  clear S11 b11 f11 t11 hst
  have hne : (er11 != er11) = false := by simp
  go_wp2_with fail
  refine (same_any a11 a8 n11 c11 n8 c8 _ _ _ HS11.out HS11'.out rfl).mono ?_
  rintro y w12 ⟨rfl, b12⟩
  have HX12 := hide (HX11.out.below b12)
  have HW12 := hide (HW11.out.trans (b12.mono HW11.out.size))
  have HD12 := hide (HD11.out.on b12)
  clear b12
  have ld12 := run_ldD HD12.out
  go_wp2_with fail
  refine (find_any ao n cap L x _ (HS.out.below HW12.out)).mono ?_
  rintro y w13 ⟨k13, rfl, hk13, b13⟩
  obtain rfl := hk13.unique HK9.out
  have HX13 := hide (HX12.out.below b13)
  have HW13 := hide (HW12.out.trans (b13.mono HW12.out.size))
  clear b13 ld12 hk13
  rw [He9.out, Hq9.out]
  obtain ⟨w14, hst, X14, B14, Z14⟩ := made w13 e9 w13.heap.size rfl
  have HW14 := hide (HW13.out.trans (B14.mono HW13.out.size))
  have l1 := run_ld28 X14.at
  have l2 := run_ld28 (HX13.out.below B14).at
  have hqq := eqE_self e9
  have hbb : (q9 == q9) = true := by simp
  clear X14 B14 Z14
  go_wp2_with fail
  go_ret
  exact ⟨ret_bool (by simp), HW14.out⟩
end Go.Proofs.Ytagkcfnmhfihlaa
