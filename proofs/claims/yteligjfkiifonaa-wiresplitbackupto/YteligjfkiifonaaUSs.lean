/- The reference's Split. -/
import Derived.Test.YteligjfkiifonaaUSq
import Derived.Test.YteligjfkiifonaaUSr
import Derived.Test.YteligjfkiifonaaUCv
namespace Go.Proofs.Yteligjfkiifonaa
open Go.RowKit
variable {w w' w2 : World} {g n0 : Nat} {ao lo : Option Addr} {n c ln lc : Nat} {Z : List Int}

theorem oct_drop {Z : List Int} (h : ∀ t, 0 ≤ Z.getD t 0 ∧ Z.getD t 0 ≤ 255) (a : Nat) (t : Nat) : 0 ≤ (Z.drop a).getD t 0 ∧ (Z.drop a).getD t 0 ≤ 255 := by rw [drop_getD]; exact h _
theorem oct_take {Z : List Int} (h : ∀ t, 0 ≤ Z.getD t 0 ∧ Z.getD t 0 ≤ 255) (v : Nat) (t : Nat) : 0 ≤ (Z.take v).getD t 0 ∧ (Z.take v).getD t 0 ≤ 255 := by
  by_cases ht : t < v
  · have := h t
    simp only [List.getD, List.getElem?_take, if_pos ht] at this ⊢
    exact this
  · simp [List.getD, List.getElem?_take, ht]
/-- at the loop's head -/
def RSL (n0 : Nat) (w wr : World) (Z : List Int) (a : Nat) (lo : Option Addr) (ln lc : Nat) : Prop := ∃ D, GB n0 wr lo ln lc D ∧ Below n0 w wr ∧ splA Z = (D ++ (splA (Z.drop a)).1, (splA (Z.drop a)).2) ∧ ln ≤ a ∧ n0 ≤ wr.heap.size
theorem RSL.step {a : Nat} {Y : List Int} {bo : Option Addr} {bn bc : Nat} {D : List (List Int)} {b : Nat} {w3 w4 : World} (G : GB n0 w lo ln lc D) (hb : Below n0 w' w) (hs : n0 ≤ w.heap.size) (b3 : Below w.heap.size w w3) (B : BS w3 bo bn bc Y) (hbo : ∀ k, blk bo = some k → w.heap.size ≤ k ∧ k < w3.heap.size)
    {V : List Value} (hV : RW w3 23 lo ln lc V ∧ ∀ i, i < ln → ∃ bo n c, V[i]? = some (.slice bo n c) ∧ BS w3 bo n c (D.getD i []) ∧ ∀ k, blk bo = some k → n0 ≤ k ∧ k < w3.heap.size ∧ blk lo ≠ some k) {lo2 : Option Addr} {lc2 : Nat} (R : RW w4 23 lo2 (ln + 1) lc2 (V ++ [.slice bo bn bc])) (A : Ap w3 w4 lo lo2)
    (he : splA Z = (D ++ (splA (Z.drop a)).1, (splA (Z.drop a)).2)) (he2 : splA (Z.drop a) = (Y :: (splA (Z.drop b)).1, (splA (Z.drop b)).2)) (hl : ln ≤ a) (hab : a < b) : RSL n0 w' w4 Z b lo2 (ln + 1) lc2 := by
  have hs3 := b3.size
  have hs4 := A.grown.size
  refine ⟨D ++ [Y], (G.below b3).add B (fun k e => ⟨by have := (hbo k e).1; omega, (hbo k e).2, fun x => ?_⟩) (by omega) hV R A, ?_, ?_, by omega, by omega⟩
  · have := G.lt k x
    have := (hbo k e).1
    omega
  · refine (hb.trans (b3.mono hs)).grown A.grown (by omega) (fun k e => G.ge k e)
  · rw [he, he2]
    simp
set_option maxRecDepth 100000 in
set_option maxHeartbeats 1000000 in
theorem refSplit_any (ao : Option Addr) (n c : Nat) (Z : List Int) (w : World) (S : Src w ao n c Z) (hcap : n ≤ c) (hz : n < 4000000000000) : Calls Try.prog 8 #[.slice ao n c] w fun r w' => SpA w w' Z r := by
  have HS := hide S
  have HN : Hid (n ≤ c ∧ n < 4000000000000) := ⟨hcap, hz⟩
  have HL : Hid (Z.length = n) := S.1
  have HI0 : Hid (RSL w.heap.size w w Z 0 none 0 0) := ⟨[], GB.nil _ _, Below.refl _ _, by rw [List.drop_zero]; rfl, Nat.le_refl _, Nat.le_refl _⟩
  clear S hcap hz
  go_enter Try.func8, Try.ntmps8
  go_wp2_with fail
  go_loopw [4, 5] (fun l i wr => ∃ (a : Nat) (lo : Option Addr) (ln lc : Nat), a ≤ n ∧ l = .slice lo ln lc ∧ i = .int .i64 a ∧ Hid (RSL w.heap.size w wr Z a lo ln lc)) (fun _ i _ => n - (intOf i).toNat)
  case atStart => exact ⟨0, none, 0, 0, Nat.zero_le _, rfl, rfl, HI0⟩
  case round =>
    clear HI0
    obtain ⟨a, lo, ln, lc, ha, rfl, rfl, HI⟩ := hrel
    obtain ⟨D, G, hb, he, hl, hs⟩ := HI.out
    by_cases hlt : a < n
    · have HLT := hide hlt
      have HC := hide (refPiece_any ao n c Z a 9223372036854775807 wr (HS.out.below hb) HN.out.1 ha (by have := HN.out; omega))
      by_cases hp : pcE (Z.drop a) mx = 0
      · have hkp := nmK_pos hp
        have hkl := (pcE_ok hp).2
        rw [List.length_drop, HL.out] at hkl
        obtain ⟨Y, hY⟩ : ∃ Y, ((Z.drop a).drop (nmK (Z.drop a))).take (nmV (Z.drop a)) = Y := ⟨_, rfl⟩
        obtain ⟨b, hbb⟩ : ∃ b, a + (nmK (Z.drop a) + nmV (Z.drop a)) = b := ⟨_, rfl⟩
        have e1 : pcY (Z.drop a) mx = Y := by unfold pcY; rw [if_pos hp, hY]
        have e2 : pcN Z a mx = (b : Int) := by unfold pcN; rw [if_pos hp, hbb]
        have e3 : splA (Z.drop a) = (Y :: (splA (Z.drop b)).1, (splA (Z.drop b)).2) := by
          rw [splA_ok (by rw [List.length_drop, HL.out]; omega) hp, hY, List.drop_drop, hbb]
        have hO : strB (strOfNums Y) = Y := strB_nums Y (by rw [← hY]; exact oct_take (oct_drop (oct_drop HS.out.2.2.2 _) _) _)
        have HB : Hid (a < b ∧ b ≤ n) := ⟨by omega, by omega⟩
        rw [show (9223372036854775807 : Int) = mx from rfl, hp, e1, e2] at HC
        obtain ⟨w3, c3, hcv, B3, b3, z3⟩ := conv_bs wr (strOfNums Y)
        rw [hO] at B3
        have G3 := G.below b3
        obtain ⟨V, hV⟩ := G3.row
        have HStep : Hid (∀ lo2 lc2 w4, RW w4 23 lo2 (ln + 1) lc2 (V ++ [.slice (some ⟨wr.heap.size, 0, none⟩) (strOfNums Y).size c3]) → Ap w3 w4 lo lo2 → RSL w.heap.size w w4 Z b lo2 (ln + 1) lc2) :=
          fun lo2 lc2 w4 R A => RSL.step G hb hs b3 B3 (fun k e => by have : wr.heap.size = k := Option.some.inj e; omega) hV R A he e3 hl HB.out.1
        have HRW := hide hV.1
        have HBD : Hid (ln + 1 ≤ 5000000000000) := by show _ ≤ _; have := HN.out.2; omega
        clear G hb he hl hs hp hkp hkl hY hbb e1 e2 e3 hO B3 b3 z3 G3 hV HI
        go_wp2_with fail
        refine HC.out.mono ?_
        rintro e w2 ⟨rfl, rfl⟩
        go_wp2_with (at_builtin; refine HRW.out.app rfl HBD.out rfl (.tmp 23) (.tmp 26) rfl rfl rfl ?_; intro b5 c5 w5 R5 A5; have HE := hide (HStep.out _ _ _ R5 A5); clear R5 A5)
        go_roundw
        case rel => exact ⟨b, b5, ln + 1, c5, HB.out.2, rfl, rfl, HE⟩
        case measure => have := HB.out; simp [intOf]; omega
      · have HE : Hid (SpA w wr Z (.returned (.tuple #[.slice none 0 0, .int .i64 (pcE (Z.drop a) mx)]))) := by
          have e : (splA Z).2 = pcE (Z.drop a) mx := by rw [he, splA_bad (by rw [List.length_drop, HL.out]; omega) hp]
          exact ⟨none, 0, 0, by rw [e], hb, by rw [e]; exact fun h => absurd h hp, fun _ => ⟨rfl, rfl, rfl⟩⟩
        have h1 : (pcE (Z.drop a) mx != 0) = true := by simpa using hp
        rw [show (9223372036854775807 : Int) = mx from rfl] at HC
        generalize pcE (Z.drop a) mx = x at HC HE h1
        clear G hb he hl hs hp HI
        go_wp2_with fail
        refine HC.out.mono ?_
        rintro e w2 ⟨rfl, rfl⟩
        go_wp2_with fail
        go_ret2
        exact HE.out
    · obtain ⟨rfl, -⟩ : a = n ∧ True := ⟨by omega, trivial⟩
      have HE : Hid (SpA w wr Z (.returned (.tuple #[.slice lo ln lc, .int .i64 0]))) := by
        have e : splA Z = (D, 0) := by rw [he, splA_nil (by rw [List.length_drop, HL.out]; omega), List.append_nil]
        exact ⟨lo, ln, lc, by rw [e], hb, fun _ => by rw [e]; exact G, fun h => absurd (by rw [e]) h⟩
      clear G hb he hl hs HI
      go_wp2_with fail
      go_ret2
      exact HE.out
end Go.Proofs.Yteligjfkiifonaa
