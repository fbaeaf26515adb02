/- The reference's Rank, Pick, Put, Drop, Lead, Split: their contracts. -/
import Derived.Test.YtclmgkjmimondaaSRg
import Derived.Test.YtclmgkjmimondaaRSq
import Derived.Test.YtclmgkjmimondaaRPt
namespace Go.Proofs.Ytclmgkjmimondaa
open Go.RowKit
attribute [local go_sem ↓] ldR_eq stR_eq
attribute [local go_sem] zero_RC cells_RV RC_size fold_RC build_RC

theorem refRank_any (ao : Option Addr) (n cap : Nat) (A : List Rn) (x : Int) (w : World) (hS : RSrc w ao n cap A) (hn : n ≤ 1048576) :
    Calls Try.prog 31 #[.slice ao n cap, .int .i64 x] w fun e w' => ∃ k, e = .returned (.int .i64 k) ∧ (∀ X, NormOf A X → k = rk X x) ∧ Below w.heap.size w w' := by
  have HS := hide hS
  clear hS
  go_enter Try.func31, Try.ntmps31
  go_wp2_with fail
  refine (one_any 1 x _).mono ?_
  rintro e w1 ⟨a1, rfl, S1, b1⟩
  have HS1 := hide S1
  have HB1 := hide b1
  clear S1 b1
  go_wp2_with fail
  refine (refMeet_any ao a1 n cap 1 1 A [⟨1, x⟩] _ (HS.out.below HB1.out) HS1.out (by omega)).mono ?_
  rintro e w2 ⟨a2, n2, c2, M, rfl, S2, b2, p2⟩
  have HS2 := hide S2
  have HP2 := hide p2
  have HB2 := hide (HB1.out.trans (b2.mono HB1.out.size))
  have hn2 : n2 ≤ 500000001 := by rw [← S2.len]; exact form_small (Int.le_refl _) p2.1
  clear S2 b2 p2
  go_wp2_with fail
  refine (refSize_any a2 n2 c2 M _ HS2.out (by omega)).mono ?_
  rintro e w3 ⟨k, rfl, z, b3⟩
  have HZ := hide z
  have HB3 := hide (HB2.out.trans (b3.mono HB2.out.size))
  clear z b3
  go_wp2_with fail
  go_ret
  exact ⟨_, rfl, fun X hX => size_rk hX HP2.out HZ.out, HB3.out⟩
set_option maxRecDepth 100000 in
set_option maxHeartbeats 4000000 in
theorem refPick_any (ao : Option Addr) (n cap : Nat) (A : List Rn) (x : Int) (w : World) (hS : RSrc w ao n cap A) (hn0 : n ≤ 8589934592) (hx : x ≤ 9223372036854775807) :
    Calls Try.prog 32 #[.slice ao n cap, .int .i64 x] w fun e w' => ∃ k, e = .returned (.int .i64 k) ∧ (∀ X, NormOf A X → k = pk X x) ∧ Below w.heap.size w w' := by
  have HS := hide hS
  clear hS
  by_cases h1 : x < 1
  · have HF : Hid (∀ X, NormOf A X → 0 = pk X x) := fun X _ => by simp [pk, h1]
    go_enter Try.func32, Try.ntmps32
    go_wp2_with fail
    go_ret
    exact ⟨_, rfl, HF.out, Below.refl _ _⟩
  · go_enter Try.func32, Try.ntmps32
    go_wp2_with fail
    refine (refNorm_any ao n cap A _ HS.out hn0).mono ?_
    rintro e w1 ⟨a1, n1, c1, X, rfl, S1, b1, p1⟩
    have HS1 := hide S1
    have HP1 := hide p1
    have HB1 := hide b1
    have HL : Hid (X.length = n1) := S1.len
    have hn := S1.big
    have HX : Hid (pk X x = pick X x) := by show _ = _; unfold pk; rw [if_neg (by omega)]
    have HU : Hid (∀ k, k = pick X x → ∀ Y, NormOf A Y → k = pk Y x) := fun k hk Y hY => by rw [hY.unique HP1.out, HX.out, hk]
    clear S1 b1 p1
    go_wp2_with fail
    go_loopw [1, 6] (fun v i wr => ∃ (k : Nat) (z : Int), k ≤ n1 ∧ 1 ≤ z ∧ z ≤ 9223372036854775807 ∧ v = .int .i64 z ∧ i = .int .i64 k ∧ Hid (pick (X.drop k) z = pick X x ∧ Below w1.heap.size w1 wr)) (fun _ i _ => n1 - (intOf i).toNat)
    case atStart => exact ⟨0, x, Nat.zero_le _, by omega, hx, rfl, rfl, rfl, Below.refl _ _⟩
    case round =>
      obtain ⟨k, z, hk, hz1, hz2, rfl, rfl, H⟩ := hrel
      rename World => w4
      by_cases hlt : k < n1
      · have HS4 := hide (HS1.out.below H.out.2)
        obtain ⟨ad, rfl, _⟩ := HS4.out.at k hlt
        obtain ⟨b, o, rfl⟩ := HS4.out.spot (by omega)
        obtain ⟨c0, c1⟩ := HS4.out.nums k hlt
        have hfa := form_at k (Int.le_refl _) HP1.out.1 (by rw [HL.out]; exact hlt)
        obtain ⟨r, Hr⟩ : ∃ r, Hid (X.getD k rn0 = r) := ⟨_, rfl⟩
        rw [Hr.out] at c0 c1 hfa
        have hkl : k < X.length := by rw [HL.out]; exact hlt
        have HD : Hid (X.drop k = r :: X.drop (k + 1)) := by show _ = _; rw [List.drop_eq_getElem_cons hkl, show X[k] = r by rw [← Hr.out]; simp [List.getD, hkl]]
        have HPK := H.out.1
        rw [HD.out] at HPK
        have HK := hide HPK
        obtain ⟨lo, hi⟩ := r
        simp only at c0 c1 hfa
        have e1 : IntKind.i64.wrap (hi - lo) = hi - lo := by rw [IntKind.wrap_i64]; omega
        have e2 : IntKind.i64.wrap (hi - lo + 1) = hi - lo + 1 := by rw [IntKind.wrap_i64]; omega
        have k0 := cell_regrown c0
        have k1 := cell_regrown c1
        have HC0 := hide c0
        clear c0 c1 HS4 HPK hkl
        go_wp2_with fail
        refine wp_region_quiet_below (by kernel_rfl) (by kernel_rfl) ?_
        repeat (with_reducible (refine wpQuiet_step ?_); intro K hK; go_simp; (try rw [if_neg (by unfold undef; simp)]); first | (with_reducible (refine hK _ ?_); clear hK K) | (apply Exists.intro; refine ⟨fun _ => ?_, hK _ ?_⟩; (fail); clear hK K))
        with_reducible (refine wpQuiet_nil ?_)
        intro w5 hw'
        obtain ⟨⟨dq, osq⟩, hw''⟩ := hw'
        have b5 : Below w4.heap.size w4 w5 := by rw [hw'']; exact below_regrown w4 dq osq
        clear hw'' dq osq
        have HB5 := hide (H.out.2.trans (b5.mono H.out.2.size))
        have c5 : w5.cell? ⟨b, o + k * 2, none⟩ = some (.int .i64 lo) := by rw [b5.cell (World.block_lt_of_cell? _ _ HC0.out)]; exact HC0.out
        clear b5 k0 k1 HC0
        by_cases hc : z ≤ hi - lo + 1
        · have HF := hide (HU.out (lo + z - 1) (by rw [← HK.out, pick_in (by simpa using hc)]))
          have hb1 : z ≤ 1000000000 := by omega
          have e3 : IntKind.i64.wrap (lo + z) = lo + z := by rw [IntKind.wrap_i64]; omega
          have e4 : IntKind.i64.wrap (lo + z - 1) = lo + z - 1 := by rw [IntKind.wrap_i64]; omega
          have HBF := hide (HB1.out.trans (HB5.out.mono HB1.out.size))
          clear hfa
          go_wp2_with fail
          go_ret
          exact ⟨_, rfl, HF.out, HBF.out⟩
        · have HN : Hid (pick (X.drop (k + 1)) (z - (hi - lo + 1)) = pick X x) := by show _ = _; rw [← HK.out, pick_past (by simpa using hc)]
          have e3 : IntKind.i64.wrap (z - (hi - lo + 1)) = z - (hi - lo + 1) := by rw [IntKind.wrap_i64]; omega
          go_wp2_with fail
          go_roundw
          case rel => exact ⟨k + 1, z - (hi - lo + 1), by omega, by omega, by omega, rfl, by go_num, HN.out, HB5.out⟩
          case measure => simp [intOf]; omega
      · obtain rfl : k = n1 := by omega
        have HF := hide (HU.out 0 (by rw [← H.out.1, List.drop_eq_nil_of_le (by rw [HL.out]; exact Nat.le_refl _)]; rfl))
        have HBF := hide (HB1.out.trans (H.out.2.mono HB1.out.size))
        go_wp2_with fail
        go_ret
        exact ⟨_, rfl, HF.out, HBF.out⟩
/-- the answer of Put and Drop: a list and a number -/
def GivesQ (w w' : World) (e : Ending) (x : Int) (P : List Rn → Prop) : Prop :=
  if 1 ≤ x ∧ x ≤ 1000000000 then ∃ ao n c L, e = .returned (.tuple #[.slice ao n c, .int .i64 0]) ∧ RSrc w' ao n c L ∧ Below w.heap.size w w' ∧ P L else e = .returned (.tuple #[.slice none 0 0, .int .i64 2]) ∧ Below w.heap.size w w'
set_option maxHeartbeats 1000000 in
theorem refPut_any (ao : Option Addr) (n cap : Nat) (A : List Rn) (x : Int) (w : World) (hS : RSrc w ao n cap A) (hn : n ≤ 1048576) :
    Calls Try.prog 34 #[.slice ao n cap, .int .i64 x] w fun e w' => GivesQ w w' e x (UnionOf A [⟨x, x⟩]) := by
  have HS := hide hS
  clear hS
  by_cases h1 : x < 1
  · have HF : Hid (GivesQ w w (.returned (.tuple #[.slice none 0 0, .int .i64 2])) x (UnionOf A [⟨x, x⟩])) := by unfold Hid GivesQ; rw [if_neg (by omega)]; exact ⟨rfl, Below.refl _ _⟩
    go_enter Try.func34, Try.ntmps34
    go_wp2_with fail
    go_ret2
    exact HF.out
  · by_cases h2 : 1000000000 < x
    · have HF : Hid (GivesQ w w (.returned (.tuple #[.slice none 0 0, .int .i64 2])) x (UnionOf A [⟨x, x⟩])) := by unfold Hid GivesQ; rw [if_neg (by omega)]; exact ⟨rfl, Below.refl _ _⟩
      go_enter Try.func34, Try.ntmps34
      go_wp2_with fail
      go_ret2
      exact HF.out
    · go_enter Try.func34, Try.ntmps34
      go_wp2_with fail
      refine (one_any x x _).mono ?_
      rintro e w1 ⟨a1, rfl, S1, b1⟩
      have HS1 := hide S1
      have HB1 := hide b1
      clear S1 b1
      go_wp2_with fail
      refine (refUnion_any ao a1 n cap 1 1 A [⟨x, x⟩] _ (HS.out.below HB1.out) HS1.out (by omega)).mono ?_
      rintro e w2 ⟨a2, n2, c2, M, rfl, S2, b2, p2⟩
      have HF : Hid (GivesQ w w2 (.returned (.tuple #[.slice a2 n2 c2, .int .i64 0])) x (UnionOf A [⟨x, x⟩])) := by unfold Hid GivesQ; rw [if_pos (by omega)]; exact ⟨a2, n2, c2, M, rfl, S2, HB1.out.trans (b2.mono HB1.out.size), p2⟩
      clear S2 b2 p2
      go_wp2_with fail
      go_ret2
      exact HF.out
set_option maxHeartbeats 1000000 in
theorem refDrop_any (ao : Option Addr) (n cap : Nat) (A : List Rn) (x : Int) (w : World) (hS : RSrc w ao n cap A) (hn : n ≤ 1048576) :
    Calls Try.prog 35 #[.slice ao n cap, .int .i64 x] w fun e w' => GivesQ w w' e x (MinusOf A [⟨x, x⟩]) := by
  have HS := hide hS
  clear hS
  by_cases h1 : x < 1
  · have HF : Hid (GivesQ w w (.returned (.tuple #[.slice none 0 0, .int .i64 2])) x (MinusOf A [⟨x, x⟩])) := by unfold Hid GivesQ; rw [if_neg (by omega)]; exact ⟨rfl, Below.refl _ _⟩
    go_enter Try.func35, Try.ntmps35
    go_wp2_with fail
    go_ret2
    exact HF.out
  · by_cases h2 : 1000000000 < x
    · have HF : Hid (GivesQ w w (.returned (.tuple #[.slice none 0 0, .int .i64 2])) x (MinusOf A [⟨x, x⟩])) := by unfold Hid GivesQ; rw [if_neg (by omega)]; exact ⟨rfl, Below.refl _ _⟩
      go_enter Try.func35, Try.ntmps35
      go_wp2_with fail
      go_ret2
      exact HF.out
    · go_enter Try.func35, Try.ntmps35
      go_wp2_with fail
      refine (one_any x x _).mono ?_
      rintro e w1 ⟨a1, rfl, S1, b1⟩
      have HS1 := hide S1
      have HB1 := hide b1
      clear S1 b1
      go_wp2_with fail
      refine (refMinus_any ao a1 n cap 1 1 A [⟨x, x⟩] _ (HS.out.below HB1.out) HS1.out (by omega)).mono ?_
      rintro e w2 ⟨a2, n2, c2, M, rfl, S2, b2, p2⟩
      have HF : Hid (GivesQ w w2 (.returned (.tuple #[.slice a2 n2 c2, .int .i64 0])) x (MinusOf A [⟨x, x⟩])) := by unfold Hid GivesQ; rw [if_pos (by omega)]; exact ⟨a2, n2, c2, M, rfl, S2, HB1.out.trans (b2.mono HB1.out.size), p2⟩
      clear S2 b2 p2
      go_wp2_with fail
      go_ret2
      exact HF.out
theorem refSplit_any (ao : Option Addr) (n cap : Nat) (A : List Rn) (x : Int) (w : World) (hS : RSrc w ao n cap A) (hn : n ≤ 1048576) :
    Calls Try.prog 27 #[.slice ao n cap, .int .i64 x] w fun e w' => ∃ a1 n1 c1 L a2 n2 c2 R, e = .returned (.tuple #[.slice a1 n1 c1, .slice a2 n2 c2]) ∧ RSrc w' a1 n1 c1 L ∧ RSrc w' a2 n2 c2 R ∧ MinusOf A [⟨x, 1000000000⟩] L ∧ MeetOf A [⟨x, 1000000000⟩] R ∧ Below w.heap.size w w' := by
  have HS := hide hS
  clear hS
  go_enter Try.func27, Try.ntmps27
  go_wp2_with fail
  refine (one_any x 1000000000 _).mono ?_
  rintro e w1 ⟨a1, rfl, S1, b1⟩
  have HS1 := hide S1
  have HB1 := hide b1
  clear S1 b1
  go_wp2_with fail
  refine (refMeet_any ao a1 n cap 1 1 A [⟨x, 1000000000⟩] _ (HS.out.below HB1.out) HS1.out (by omega)).mono ?_
  rintro e w2 ⟨a2, n2, c2, R, rfl, S2, b2, p2⟩
  have HS2 := hide S2
  have HP2 := hide p2
  have HB2 := hide (HB1.out.trans (b2.mono HB1.out.size))
  have hn2 : n2 ≤ 500000001 := by rw [← S2.len]; exact form_small (Int.le_refl _) p2.1
  clear S2 b2 p2
  go_wp2_with fail
  refine (refMinus_any ao a2 n cap n2 c2 A R _ (HS.out.below HB2.out) HS2.out (by omega)).mono ?_
  rintro e w3 ⟨a3, n3, c3, L, rfl, S3, b3, p3⟩
  have HM : Hid (MinusOf A [⟨x, 1000000000⟩] L) := ⟨p3.1, fun m => by rw [p3.2 m, HP2.out.2 m]; exact ⟨fun e => ⟨e.1, fun c => e.2 ⟨e.1, c⟩⟩, fun e => ⟨e.1, fun c => e.2 c.2⟩⟩⟩
  have HF : Hid (RSrc w3 a3 n3 c3 L ∧ RSrc w3 a2 n2 c2 R ∧ MinusOf A [⟨x, 1000000000⟩] L ∧ MeetOf A [⟨x, 1000000000⟩] R ∧ Below w.heap.size w w3) := ⟨S3, HS2.out.below b3, HM.out, HP2.out, HB2.out.trans (b3.mono HB2.out.size)⟩
  clear S3 b3 p3
  go_wp2_with fail
  go_ret2
  exact ⟨a3, n3, c3, L, a2, n2, c2, R, rfl, HF.out⟩
def GivesG (w w' : World) (e : Ending) (A : List Rn) : Prop := ∃ g k a1 n1 c1 L, e = .returned (.tuple #[.int .i64 k, .slice a1 n1 c1]) ∧ RSrc w' a1 n1 c1 L ∧ Least (GapP A 1) g ∧ k = (if g - 1 < 0 then 1000000000 else g - 1) ∧ MinusOf A [⟨1, k⟩] L ∧ Below w.heap.size w w'
set_option maxHeartbeats 1000000 in
theorem refLead_any (ao : Option Addr) (n cap : Nat) (A : List Rn) (w : World) (hS : RSrc w ao n cap A) (hn : n ≤ 1048576) :
    Calls Try.prog 26 #[.slice ao n cap] w fun e w' => GivesG w w' e A := by
  have HS := hide hS
  clear hS
  go_enter Try.func26, Try.ntmps26
  go_wp2_with fail
  refine (refGap_any ao n cap A 1 _ HS.out hn).mono ?_
  rintro e w1 ⟨g, rfl, h1, b1⟩
  have HG := hide h1
  have hgb := h1.bd
  have HB1 := hide b1
  have e1 : IntKind.i64.wrap (g - 1) = g - 1 := by rw [IntKind.wrap_i64]; omega
  clear h1 b1
  by_cases hg : g - 1 < 0
  · have HK : Hid ((1000000000 : Int) = (if g - 1 < 0 then 1000000000 else g - 1)) := by show _ = _; rw [if_pos hg]
    go_wp2_with fail
    refine (one_any 1 1000000000 _).mono ?_
    rintro e w2 ⟨a2, rfl, S2, b2⟩
    have HS2 := hide S2
    have HB2 := hide (HB1.out.trans (b2.mono HB1.out.size))
    clear S2 b2
    go_wp2_with fail
    refine (refMinus_any ao a2 n cap 1 1 A [⟨1, 1000000000⟩] _ (HS.out.below HB2.out) HS2.out (by omega)).mono ?_
    rintro e w3 ⟨a3, n3, c3, L, rfl, S3, b3, p3⟩
    have HF : Hid (GivesG w w3 (.returned (.tuple #[.int .i64 1000000000, .slice a3 n3 c3])) A) := ⟨g, _, a3, n3, c3, L, rfl, S3, HG.out, HK.out, p3, HB2.out.trans (b3.mono HB2.out.size)⟩
    clear S3 b3 p3
    go_wp2_with fail
    go_ret2
    exact HF.out
  · have HK : Hid (g - 1 = (if g - 1 < 0 then 1000000000 else g - 1)) := by show _ = _; rw [if_neg hg]
    go_wp2_with fail
    refine (one_any 1 (g - 1) _).mono ?_
    rintro e w2 ⟨a2, rfl, S2, b2⟩
    have HS2 := hide S2
    have HB2 := hide (HB1.out.trans (b2.mono HB1.out.size))
    clear S2 b2
    go_wp2_with fail
    refine (refMinus_any ao a2 n cap 1 1 A [⟨1, g - 1⟩] _ (HS.out.below HB2.out) HS2.out (by omega)).mono ?_
    rintro e w3 ⟨a3, n3, c3, L, rfl, S3, b3, p3⟩
    have HF : Hid (GivesG w w3 (.returned (.tuple #[.int .i64 (g - 1), .slice a3 n3 c3])) A) := ⟨g, _, a3, n3, c3, L, rfl, S3, HG.out, HK.out, p3, HB2.out.trans (b3.mono HB2.out.size)⟩
    clear S3 b3 p3
    go_wp2_with fail
    go_ret2
    exact HF.out
end Go.Proofs.Ytclmgkjmimondaa
