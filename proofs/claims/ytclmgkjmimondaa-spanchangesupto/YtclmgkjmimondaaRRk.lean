/- Rank, Pick, First: their contracts. -/
import Derived.Test.YtclmgkjmimondaaROs
import Derived.Test.YtclmgkjmimondaaRPk
namespace Go.Proofs.Ytclmgkjmimondaa
open Go.RowKit
attribute [local go_sem ↓] ldR_eq stR_eq
attribute [local go_sem] zero_RC cells_RV RC_size fold_RC build_RC

theorem size_rk {A M X : List Rn} {n k : Int} (hX : NormOf A X) (hM : MeetOf A [⟨1, n⟩] M) (h : SizeOf M k) : k = rk X n := by
  obtain ⟨M', hm, rfl⟩ := h
  obtain rfl := hm.unique (NormOf.self hM.1)
  have : M' = cutTo X n := form_unique (Int.le_refl _) hM.1 (cutTo_form n hX.1) (fun m => by
    rw [hM.2 m, cutTo_mem n hX.1 m, hX.2 m, mem_one]
    constructor
    · exact fun ⟨a, b⟩ => ⟨a, b.2.2.2⟩
    · exact fun ⟨a, b⟩ => ⟨a, a.1, a.2.1, a.1, b⟩)
  rw [this]; rfl
theorem rank_any (ao : Option Addr) (n cap : Nat) (A : List Rn) (x : Int) (w : World) (hS : RSrc w ao n cap A) :
    Calls Try.prog 29 #[.slice ao n cap, .int .i64 x] w fun e w' => ∃ k, e = .returned (.int .i64 k) ∧ (∀ X, NormOf A X → k = rk X x) ∧ Below w.heap.size w w' := by
  have HS := hide hS
  clear hS
  go_enter Try.func29, Try.ntmps29
  go_wp2_with fail
  refine (meet_any ao _ n cap 1 1 A [⟨1, x⟩] _ (HS.out.below (below_new _ _)) (lit_rsrc w [⟨1, x⟩] _ rfl _ 1 rfl (by omega))).mono ?_
  rintro e w1 ⟨a1, n1, c1, M, rfl, S1, b1, p1⟩
  have HS1 := hide S1
  have HP1 := hide p1
  have HB1 := hide ((below_new _ _).trans (b1.mono (below_new _ _).size))
  clear S1 b1 p1
  go_wp2_with fail
  refine (size_any a1 n1 c1 M _ HS1.out).mono ?_
  rintro e w2 ⟨k, rfl, z, b2⟩
  have HZ := hide z
  have HB2 := hide (HB1.out.trans (b2.mono HB1.out.size))
  clear z b2
  go_wp2_with fail
  go_ret
  exact ⟨_, rfl, fun X hX => size_rk hX HP1.out HZ.out, HB2.out⟩
set_option maxRecDepth 100000 in
set_option maxHeartbeats 4000000 in
theorem pick_any (ao : Option Addr) (n cap : Nat) (A : List Rn) (x : Int) (w : World) (hS : RSrc w ao n cap A) (hx : x ≤ 9223372036854775807) :
    Calls Try.prog 30 #[.slice ao n cap, .int .i64 x] w fun e w' => ∃ k, e = .returned (.int .i64 k) ∧ (∀ X, NormOf A X → k = pk X x) ∧ Below w.heap.size w w' := by
  have HS := hide hS
  clear hS
  by_cases h1 : x < 1
  · have HF : Hid (∀ X, NormOf A X → 0 = pk X x) := fun X _ => by unfold pk; rw [if_pos h1]
    have HB := hide (Below.refl w.heap.size w)
    go_enter Try.func30, Try.ntmps30
    go_wp2_with fail
    go_ret
    exact ⟨_, rfl, HF.out, HB.out⟩
  · have HK : Hid (∀ X, pk X x = pick X x) := fun X => by unfold pk; rw [if_neg h1]
    go_enter Try.func30, Try.ntmps30
    go_wp2_with fail
    refine (norm_any ao n cap A _ HS.out).mono ?_
    rintro e w1 ⟨a1, n1, c1, X, rfl, S1, b1, p1⟩
    have HS1 := hide S1
    have HP1 := hide p1
    have HB1 := hide b1
    have HL : Hid (X.length = n1) := S1.len
    have hn := S1.big
    clear S1 b1 p1
    go_wp2_with fail
    go_loopw [1, 6, 12] (fun v _ i wr => ∃ (k : Nat) (y : Int), k ≤ n1 ∧ v = .int .i64 y ∧ i = .int .i64 k ∧ 1 ≤ y ∧ y ≤ x ∧ Hid (pick X x = pick (X.drop k) y ∧ Below w1.heap.size w1 wr)) (fun _ _ i _ => n1 - (intOf i).toNat)
    case atStart => exact ⟨0, x, Nat.zero_le _, rfl, rfl, by omega, by omega, rfl, Below.refl _ _⟩
    case round =>
      obtain ⟨k, y, hk, rfl, rfl, hy1, hy2, H⟩ := hrel
      rename World => w4
      by_cases hlt : k < n1
      · obtain ⟨ad, rfl, A0⟩ := (HS1.out.below H.out.2).at k hlt
        have hld := run_ldR A0
        have hfa := form_at k (Int.le_refl _) HP1.out.1 (by rw [HL.out]; exact hlt)
        obtain ⟨r, Hr⟩ : ∃ r, Hid (X.getD k rn0 = r) := ⟨_, rfl⟩
        rw [Hr.out] at hld hfa
        obtain ⟨hf1, hf2, hf3⟩ := hfa
        have hkl : k < X.length := by rw [HL.out]; exact hlt
        have hgk : X[k] = r := by rw [← Hr.out]; simp [List.getD, hkl]
        have HD : Hid (X.drop k = r :: X.drop (k + 1)) := by show _ = _; rw [List.drop_eq_getElem_cons hkl, hgk]
        have HE := hide H.out.1
        rw [HD.out] at HE
        obtain ⟨w5, hst, X5, B5, Z5⟩ := made w4 r w4.heap.size rfl
        have HB5 := hide (H.out.2.trans (B5.mono H.out.2.size))
        have HX5 := hide X5
        have lx := run_ldR X5.at
        have HLN := hide (length_any r w5 hf1 hf3 hf2)
        clear A0 X5 B5 Z5 hkl hgk
        go_wp2_with fail
        refine HLN.out.mono ?_
        rintro e w6 ⟨rfl, b6⟩
        have HB6 := hide (HB5.out.trans (b6.mono HB5.out.size))
        have X6 := HX5.out.below b6
        have HX6 := hide X6
        have c0 := X6.at.c0
        have ly := run_ldR X6.at
        clear b6 X6 lx hst hld
        by_cases hc : y ≤ r.hi - r.lo + 1
        · have HF : Hid (∀ X, NormOf A X → r.lo + y - 1 = pk X x) := fun Y hY => by rw [hY.unique HP1.out, HK.out, HE.out, pick_in hc]
          have e1 : IntKind.i64.wrap (r.lo + y) = r.lo + y := by rw [IntKind.wrap_i64]; omega
          have e2 : IntKind.i64.wrap (r.lo + y - 1) = r.lo + y - 1 := by rw [IntKind.wrap_i64]; omega
          have HBF := hide (HB1.out.trans (HB6.out.mono HB1.out.size))
          go_wp2_with fail
          go_ret
          exact ⟨_, rfl, HF.out, HBF.out⟩
        · have HN : Hid (pick X x = pick (X.drop (k + 1)) (y - (r.hi - r.lo + 1))) := by show _ = _; rw [HE.out, pick_past hc]
          have e1 : IntKind.i64.wrap (y - (r.hi - r.lo + 1)) = y - (r.hi - r.lo + 1) := by rw [IntKind.wrap_i64]; omega
          have HLM := hide (length_any r w6 hf1 hf3 hf2)
          go_wp2_with fail
          refine HLM.out.mono ?_
          rintro e w7 ⟨rfl, b7⟩
          have HB7 := hide (HB6.out.trans (b7.mono HB6.out.size))
          clear b7 c0 ly
          go_wp2_with fail
          go_roundw
          case rel => exact ⟨k + 1, y - (r.hi - r.lo + 1), by omega, by go_num, by go_num, by omega, by omega, HN.out, HB7.out⟩
          case measure => simp [intOf]; omega
      · obtain rfl : k = n1 := by omega
        have HF : Hid (∀ X, NormOf A X → 0 = pk X x) := fun Y hY => by rw [hY.unique HP1.out, HK.out, H.out.1, List.drop_eq_nil_of_le (by rw [HL.out]; exact Nat.le_refl _)]; rfl
        have HBF := hide (HB1.out.trans (H.out.2.mono HB1.out.size))
        go_wp2_with fail
        go_ret
        exact ⟨_, rfl, HF.out, HBF.out⟩
set_option maxRecDepth 100000 in
set_option maxHeartbeats 4000000 in
theorem first_any (ao : Option Addr) (n cap : Nat) (A : List Rn) (x : Int) (w : World) (hS : RSrc w ao n cap A) :
    Calls Try.prog 24 #[.slice ao n cap, .int .i64 x] w fun e w' => ∃ k, e = .returned (.int .i64 k) ∧ (∀ X, NormOf A X → k = fst X x) ∧ Below w.heap.size w w' := by
  have HS := hide hS
  clear hS
  go_enter Try.func24, Try.ntmps24
  go_wp2_with fail
  refine (norm_any ao n cap A _ HS.out).mono ?_
  rintro e w1 ⟨a1, n1, c1, X, rfl, S1, b1, p1⟩
  have HS1 := hide S1
  have HP1 := hide p1
  have HB1 := hide b1
  have HL : Hid (X.length = n1) := S1.len
  have hn := S1.big
  clear S1 b1 p1
  go_wp2_with fail
  go_loopw [6, 10] (fun _ i wr => ∃ (k : Nat), k ≤ n1 ∧ i = .int .i64 k ∧ Hid (fst X x = fst (X.drop k) x ∧ Below w1.heap.size w1 wr)) (fun _ i _ => n1 - (intOf i).toNat)
  case atStart => exact ⟨0, Nat.zero_le _, rfl, rfl, Below.refl _ _⟩
  case round =>
    obtain ⟨k, hk, rfl, H⟩ := hrel
    rename World => w4
    by_cases hlt : k < n1
    · obtain ⟨ad, rfl, A0⟩ := (HS1.out.below H.out.2).at k hlt
      have hld := run_ldR A0
      obtain ⟨r, Hr⟩ : ∃ r, Hid (X.getD k rn0 = r) := ⟨_, rfl⟩
      rw [Hr.out] at hld
      have hkl : k < X.length := by rw [HL.out]; exact hlt
      have hgk : X[k] = r := by rw [← Hr.out]; simp [List.getD, hkl]
      have HD : Hid (X.drop k = r :: X.drop (k + 1)) := by show _ = _; rw [List.drop_eq_getElem_cons hkl, hgk]
      have HE := hide H.out.1
      rw [HD.out] at HE
      obtain ⟨w5, hst, X5, B5, Z5⟩ := made w4 r w4.heap.size rfl
      have HB5 := hide (H.out.2.trans (B5.mono H.out.2.size))
      have c0 := X5.at.c0
      have c1 : w5.cell? ⟨w4.heap.size, 1, none⟩ = some (.int .i64 r.hi) := X5.at.c1
      clear A0 X5 B5 Z5 hkl hgk
      by_cases hc : x ≤ r.hi
      · have HF : Hid (∀ X, NormOf A X → max r.lo x = fst X x) := fun Y hY => by rw [hY.unique HP1.out, HE.out, fst_in hc]
        have HBF := hide (HB1.out.trans (HB5.out.mono HB1.out.size))
        go_wp2_with fail
        go_ret
        exact ⟨_, rfl, HF.out, HBF.out⟩
      · have HN : Hid (fst X x = fst (X.drop (k + 1)) x) := by show _ = _; rw [HE.out, fst_past (by omega)]
        go_wp2_with fail
        go_roundw
        case rel => exact ⟨k + 1, by omega, by go_num, HN.out, HB5.out⟩
        case measure => simp [intOf]; omega
    · obtain rfl : k = n1 := by omega
      have HF : Hid (∀ X, NormOf A X → 0 = fst X x) := fun Y hY => by rw [hY.unique HP1.out, H.out.1, List.drop_eq_nil_of_le (by rw [HL.out]; exact Nat.le_refl _)]; rfl
      have HBF := hide (HB1.out.trans (H.out.2.mono HB1.out.size))
      go_wp2_with fail
      go_ret
      exact ⟨_, rfl, HF.out, HBF.out⟩
end Go.Proofs.Ytclmgkjmimondaa
