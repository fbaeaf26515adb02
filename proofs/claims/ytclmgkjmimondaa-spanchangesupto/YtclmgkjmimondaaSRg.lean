/- The reference's Has, First, Last, Size, Gap, Rank, Lead, Split, Put, Drop; Last and Gap of the program: their contracts. -/
import Derived.Test.YtclmgkjmimondaaSRu
import Derived.Test.YtclmgkjmimondaaSQl
import Derived.Test.YtclmgkjmimondaaRRk
import Derived.Deep.CutRange
namespace Go.Proofs.Ytclmgkjmimondaa
open Go.RowKit
attribute [local go_sem ↓] ldR_eq stR_eq
attribute [local go_sem] zero_RC cells_RV RC_size fold_RC build_RC

def GivesB (w w' : World) (e : Ending) (P : Prop) : Prop := ∃ b, e = .returned (.bool b) ∧ (b = true ↔ P) ∧ Below w.heap.size w w'
theorem take_snoc (L : List Rn) (k : Nat) (h : k < L.length) : L.take (k + 1) = L.take k ++ [L.getD k rn0] := by
  rw [List.take_succ_eq_append_getElem h]; simp [List.getD, h]
set_option maxRecDepth 100000 in
set_option maxHeartbeats 4000000 in
theorem refHas_any (ao : Option Addr) (n cap : Nat) (A : List Rn) (x : Int) (w : World) (hS : RSrc w ao n cap A) :
    Calls Try.prog 21 #[.slice ao n cap, .int .i64 x] w fun e w' => GivesB w w' e (mem A x) := by
  have HS := hide hS
  have hn := hS.big
  have HL : Hid (A.length = n) := hS.len
  clear hS
  by_cases h1 : x < 1
  · have HF : Hid (false = true ↔ mem A x) := ⟨(fun h => by cases h), (fun h => by have := h.1; omega)⟩
    go_enter Try.func21, Try.ntmps21
    go_wp2_with fail
    go_ret
    exact (⟨_, rfl, HF.out, Below.refl _ _⟩ : GivesB _ _ _ _)
  · by_cases h2 : 1000000000 < x
    · have HF : Hid (false = true ↔ mem A x) := ⟨(fun h => by cases h), (fun h => by have := h.2.1; omega)⟩
      go_enter Try.func21, Try.ntmps21
      go_wp2_with fail
      go_ret
      exact (⟨_, rfl, HF.out, Below.refl _ _⟩ : GivesB _ _ _ _)
    · go_enter Try.func21, Try.ntmps21
      go_wp2_with fail
      go_loopw [5] (fun i wr => ∃ (k : Nat), k ≤ n ∧ i = .int .i64 k ∧ Hid (¬ mem (A.take k) x) ∧ w = wr) (fun i _ => n - (intOf i).toNat)
      case atStart => exact ⟨0, Nat.zero_le _, rfl, fun h => mem_nil x h, rfl⟩
      case round =>
        obtain ⟨k, hk, rfl, H, rfl⟩ := hrel
        by_cases hlt : k < n
        · obtain ⟨ad, rfl, _⟩ := HS.out.at k hlt
          obtain ⟨b, o, rfl⟩ := HS.out.spot (by omega)
          obtain ⟨c0, c1⟩ := HS.out.nums k hlt
          obtain ⟨r, Hr⟩ : ∃ r, Hid (A.getD k rn0 = r) := ⟨_, rfl⟩
          rw [Hr.out] at c0 c1
          have hkl : k < A.length := by rw [HL.out]; exact hlt
          have HT := hide (take_snoc A k hkl)
          rw [Hr.out] at HT
          obtain ⟨lo, hi⟩ := r
          simp only at c0 c1
          by_cases h3 : lo ≤ x
          · by_cases h4 : x ≤ hi
            · have HM : Hid (mem A x) := ⟨by omega, by omega, ⟨lo, hi⟩, by rw [← Hr.out]; simp only [List.getD, List.getElem?_eq_getElem hkl, Option.getD_some]; exact List.getElem_mem hkl, h3, h4⟩
              clear hkl
              go_wp2_with fail
              go_ret
              exact (⟨_, rfl, ⟨fun _ => HM.out, fun _ => rfl⟩, Below.refl _ _⟩ : GivesB _ _ _ _)
            · have HN : Hid (¬ mem (A.take (k + 1)) x) := fun h => by
                rw [HT.out] at h
                rcases (mem_append _ _ _).1 h with e | e
                · exact H.out e
                · have := (mem_one _ _).1 e; simp only at this; omega
              clear hkl
              go_wp2_with fail
              go_roundw
              case rel => exact ⟨k + 1, by omega, by go_num, HN, trivial⟩
              case measure => simp [intOf]; omega
          · have HN : Hid (¬ mem (A.take (k + 1)) x) := fun h => by
              rw [HT.out] at h
              rcases (mem_append _ _ _).1 h with e | e
              · exact H.out e
              · have := (mem_one _ _).1 e; simp only at this; omega
            clear hkl
            go_wp2_with fail
            go_roundw
            case rel => exact ⟨k + 1, by omega, by go_num, HN, trivial⟩
            case measure => simp [intOf]; omega
        · obtain rfl : k = n := by omega
          have HF : Hid (false = true ↔ mem A x) := by
            have := H.out
            rw [List.take_of_length_le (by rw [HL.out]; exact Nat.le_refl _)] at this
            exact ⟨(fun h => by cases h), fun h => absurd h this⟩
          go_wp2_with fail
          go_ret
          exact (⟨_, rfl, HF.out, Below.refl _ _⟩ : GivesB _ _ _ _)
set_option maxRecDepth 100000 in
set_option maxHeartbeats 4000000 in
theorem refLast_any (ao : Option Addr) (n cap : Nat) (A : List Rn) (w : World) (hS : RSrc w ao n cap A) :
    Calls Try.prog 14 #[.slice ao n cap] w fun e w' => ∃ k, e = .returned (.int .i64 k) ∧ Most A k ∧ Below w.heap.size w w' := by
  have HS := hide hS
  have hn := hS.big
  have HL : Hid (A.length = n) := hS.len
  clear hS
  go_enter Try.func14, Try.ntmps14
  go_wp2_with fail
  go_loopw [3, 4] (fun v i wr => ∃ (k : Nat) (best : Int), k ≤ n ∧ v = .int .i64 best ∧ i = .int .i64 k ∧ Hid (Most (A.take k) best) ∧ w = wr) (fun _ i _ => n - (intOf i).toNat)
  case atStart => exact ⟨0, 0, Nat.zero_le _, rfl, rfl, Most.start, rfl⟩
  case round =>
    obtain ⟨k, best, hk, rfl, rfl, H, rfl⟩ := hrel
    have hbd := H.out.bd
    by_cases hlt : k < n
    · obtain ⟨ad, rfl, _⟩ := HS.out.at k hlt
      obtain ⟨b, o, rfl⟩ := HS.out.spot (by omega)
      obtain ⟨c0, c1⟩ := HS.out.nums k hlt
      obtain ⟨r, Hr⟩ : ∃ r, Hid (A.getD k rn0 = r) := ⟨_, rfl⟩
      rw [Hr.out] at c0 c1
      have HT := hide (take_snoc A k (by rw [HL.out]; exact hlt))
      rw [Hr.out] at HT
      obtain ⟨lo, hi⟩ := r
      simp only at c0 c1
      by_cases h1 : 1000000000 < hi
      · have eh : Hid ((1000000000 : Int) = min hi 1000000000) := by show _ = _; omega
        have HST : Hid (∀ b, b = (if 1 ≤ (1000000000 : Int) ∧ lo ≤ (1000000000 : Int) ∧ best < (1000000000 : Int) then (1000000000 : Int) else best) → Most (A.take (k + 1)) b) := fun b hb => by rw [HT.out]; exact H.out.step eh.out hb
        by_cases h3 : lo ≤ (1000000000 : Int)
        · by_cases h4 : best < (1000000000 : Int)
          · have HN := hide (HST.out (1000000000 : Int) (by rw [if_pos ⟨by omega, h3, h4⟩]))
            go_wp2_with fail
            go_roundw
            case rel => exact ⟨k + 1, (1000000000 : Int), by omega, rfl, by go_num, HN, trivial⟩
            case measure => simp [intOf]; omega
          · have HN := hide (HST.out best (by rw [if_neg (fun h => h4 h.2.2)]))
            go_wp2_with fail
            go_roundw
            case rel => exact ⟨k + 1, best, by omega, rfl, by go_num, HN, trivial⟩
            case measure => simp [intOf]; omega
        · have HN := hide (HST.out best (by rw [if_neg (fun h => h3 h.2.1)]))
          go_wp2_with fail
          go_roundw
          case rel => exact ⟨k + 1, best, by omega, rfl, by go_num, HN, trivial⟩
          case measure => simp [intOf]; omega
      · have eh : Hid (hi = min hi 1000000000) := by show _ = _; omega
        have HST : Hid (∀ b, b = (if 1 ≤ hi ∧ lo ≤ hi ∧ best < hi then hi else best) → Most (A.take (k + 1)) b) := fun b hb => by rw [HT.out]; exact H.out.step eh.out hb
        by_cases h2 : 1 ≤ hi
        · by_cases h3 : lo ≤ hi
          · by_cases h4 : best < hi
            · have HN := hide (HST.out hi (by rw [if_pos ⟨h2, h3, h4⟩]))
              go_wp2_with fail
              go_roundw
              case rel => exact ⟨k + 1, hi, by omega, rfl, by go_num, HN, trivial⟩
              case measure => simp [intOf]; omega
            · have HN := hide (HST.out best (by rw [if_neg (fun h => h4 h.2.2)]))
              go_wp2_with fail
              go_roundw
              case rel => exact ⟨k + 1, best, by omega, rfl, by go_num, HN, trivial⟩
              case measure => simp [intOf]; omega
          · have HN := hide (HST.out best (by rw [if_neg (fun h => h3 h.2.1)]))
            go_wp2_with fail
            go_roundw
            case rel => exact ⟨k + 1, best, by omega, rfl, by go_num, HN, trivial⟩
            case measure => simp [intOf]; omega
        · have HN := hide (HST.out best (by rw [if_neg (fun h => h2 h.1)]))
          go_wp2_with fail
          go_roundw
          case rel => exact ⟨k + 1, best, by omega, rfl, by go_num, HN, trivial⟩
          case measure => simp [intOf]; omega
    · obtain rfl : k = n := by omega
      have HF : Hid (Most A best) := by
        have := H.out
        rwa [List.take_of_length_le (by rw [HL.out]; exact Nat.le_refl _)] at this
      go_wp2_with fail
      go_ret
      exact ⟨_, rfl, HF.out, Below.refl _ _⟩
set_option maxRecDepth 100000 in
set_option maxHeartbeats 8000000 in
theorem refFirst_any (ao : Option Addr) (n cap : Nat) (A : List Rn) (x : Int) (w : World) (hS : RSrc w ao n cap A) :
    Calls Try.prog 22 #[.slice ao n cap, .int .i64 x] w fun e w' => ∃ k, e = .returned (.int .i64 k) ∧ Least (fun n => mem A n ∧ x ≤ n) k ∧ Below w.heap.size w w' := by
  have HS := hide hS
  have hn := hS.big
  have HL : Hid (A.length = n) := hS.len
  clear hS
  go_enter Try.func22, Try.ntmps22
  go_wp2_with fail
  go_loopw [5, 6] (fun v i wr => ∃ (k : Nat) (best : Int), k ≤ n ∧ v = .int .i64 best ∧ i = .int .i64 k ∧ Hid (Least (fun n => mem (A.take k) n ∧ x ≤ n) best) ∧ w = wr) (fun _ i _ => n - (intOf i).toNat)
  case atStart => exact ⟨0, 0, Nat.zero_le _, rfl, rfl, least_start x, rfl⟩
  case round =>
    obtain ⟨k, best, hk, rfl, rfl, H, rfl⟩ := hrel
    by_cases hlt : k < n
    · obtain ⟨ad, rfl, _⟩ := HS.out.at k hlt
      obtain ⟨b, o, rfl⟩ := HS.out.spot (by omega)
      obtain ⟨c0, c1⟩ := HS.out.nums k hlt
      obtain ⟨r, Hr⟩ : ∃ r, Hid (A.getD k rn0 = r) := ⟨_, rfl⟩
      rw [Hr.out] at c0 c1
      have HT := hide (take_snoc A k (by rw [HL.out]; exact hlt))
      rw [Hr.out] at HT
      obtain ⟨lo, hi⟩ := r
      simp only at c0 c1
      obtain ⟨l1, Hl1⟩ : ∃ l1, Hid (l1 = max lo 1) := ⟨_, rfl⟩
      obtain ⟨l2, Hl2⟩ : ∃ l2, Hid (l2 = max l1 x) := ⟨_, rfl⟩
      obtain ⟨h1, Hh1⟩ : ∃ h1, Hid (h1 = min hi 1000000000) := ⟨_, rfl⟩
      have HST : Hid (∀ b, b = (if l2 ≤ h1 ∧ (best = 0 ∨ l2 < best) then l2 else best) → Least (fun n => mem (A.take (k + 1)) n ∧ x ≤ n) b) := fun b hb => by
        rw [HT.out]
        exact least_step H.out (by rw [Hl2.out, Hl1.out]) Hh1.out hb
      go_upto_if 26 with fail
      go_cut [7] from 9 to 45 (fun s wx => s = .int .i64 l1 ∧ wx = w)
      case first =>
        by_cases hA : lo < 1
        · have e : l1 = 1 := by have := Hl1.out; omega
          subst e
          go_wp2_with fail
          go_meet
          case rel => exact ⟨rfl, rfl⟩
        · have e : l1 = lo := by have := Hl1.out; omega
          subst e
          go_wp2_with fail
          go_meet
          case rel => exact ⟨rfl, rfl⟩
      case rest =>
        obtain ⟨rfl, rfl⟩ := hcut
        go_upto_if 29 with fail
        go_cut [7] from 9 to 45 (fun s wx => s = .int .i64 l2 ∧ wx = wc)
        case first =>
          by_cases hA : l1 < x
          · have e : l2 = x := by have := Hl2.out; omega
            subst e
            go_wp2_with fail
            go_meet
            case rel => exact ⟨rfl, rfl⟩
          · have e : l2 = l1 := by have := Hl2.out; omega
            subst e
            go_wp2_with fail
            go_meet
            case rel => exact ⟨rfl, rfl⟩
        case rest =>
          obtain ⟨rfl, rfl⟩ := hcut
          go_upto_if 32 with fail
          go_cut [8] from 9 to 45 (fun s wx => s = .int .i64 h1 ∧ wx = wc)
          case first =>
            by_cases hA : 1000000000 < hi
            · have e : h1 = 1000000000 := by have := Hh1.out; omega
              subst e
              go_wp2_with fail
              go_meet
              case rel => exact ⟨rfl, rfl⟩
            · have e : h1 = hi := by have := Hh1.out; omega
              subst e
              go_wp2_with fail
              go_meet
              case rel => exact ⟨rfl, rfl⟩
          case rest =>
            obtain ⟨rfl, rfl⟩ := hcut
            clear c0 c1
            by_cases hA : l2 ≤ h1
            · by_cases hB : best = 0
              · have HN := hide (HST.out l2 (by rw [if_pos ⟨hA, Or.inl hB⟩]))
                have hB' : (best == 0) = true := by simpa using hB
                clear hB
                go_wp2_with fail
                go_roundw
                case rel => exact ⟨k + 1, l2, by omega, rfl, by go_num, HN, trivial⟩
                case measure => simp [intOf]; omega
              · have hB' : (best == 0) = false := by simpa using hB
                by_cases hD : l2 < best
                · have HN := hide (HST.out l2 (by rw [if_pos ⟨hA, Or.inr hD⟩]))
                  clear hB
                  go_wp2_with fail
                  go_roundw
                  case rel => exact ⟨k + 1, l2, by omega, rfl, by go_num, HN, trivial⟩
                  case measure => simp [intOf]; omega
                · have HN := hide (HST.out best (by rw [if_neg (fun h => h.2.elim hB hD)]))
                  clear hB
                  go_wp2_with fail
                  go_roundw
                  case rel => exact ⟨k + 1, best, by omega, rfl, by go_num, HN, trivial⟩
                  case measure => simp [intOf]; omega
            · have HN := hide (HST.out best (by rw [if_neg (fun h => hA h.1)]))
              go_wp2_with fail
              go_roundw
              case rel => exact ⟨k + 1, best, by omega, rfl, by go_num, HN, trivial⟩
              case measure => simp [intOf]; omega
    · obtain rfl : k = n := by omega
      have HF : Hid (Least (fun n => mem A n ∧ x ≤ n) best) := by
        have := H.out
        rwa [List.take_of_length_le (by rw [HL.out]; exact Nat.le_refl _)] at this
      go_wp2_with fail
      go_ret
      exact ⟨_, rfl, HF.out, Below.refl _ _⟩
theorem refGap_any (ao : Option Addr) (n cap : Nat) (A : List Rn) (x : Int) (w : World) (hS : RSrc w ao n cap A) (hn : n ≤ 1048576) :
    Calls Try.prog 23 #[.slice ao n cap, .int .i64 x] w fun e w' => ∃ k, e = .returned (.int .i64 k) ∧ Least (GapP A x) k ∧ Below w.heap.size w w' := by
  have HS := hide hS
  clear hS
  go_enter Try.func23, Try.ntmps23
  go_wp2_with fail
  refine (one_any x 1000000000 _).mono ?_
  rintro e w1 ⟨a1, rfl, S1, b1⟩
  have HS1 := hide S1
  have HB1 := hide b1
  clear S1 b1
  go_wp2_with fail
  refine (refMinus_any a1 ao 1 1 n cap [⟨x, 1000000000⟩] A _ HS1.out (HS.out.below HB1.out) (by omega)).mono ?_
  rintro e w2 ⟨a2, n2, c2, R, rfl, S2, b2, p2⟩
  have HS2 := hide S2
  have HP2 := hide p2
  have HB2 := hide (HB1.out.trans (b2.mono HB1.out.size))
  clear S2 b2 p2
  go_wp2_with fail
  refine (refFirst_any a2 n2 c2 R 1 _ HS2.out).mono ?_
  rintro e w3 ⟨k, rfl, h3, b3⟩
  have HF := hide (gap_left HP2.out h3)
  have HB3 := hide (HB2.out.trans (b3.mono HB2.out.size))
  clear h3 b3
  go_wp2_with fail
  go_ret
  exact ⟨_, rfl, HF.out, HB3.out⟩
theorem gap_any (ao : Option Addr) (n cap : Nat) (A : List Rn) (x : Int) (w : World) (hS : RSrc w ao n cap A) :
    Calls Try.prog 20 #[.slice ao n cap, .int .i64 x] w fun e w' => ∃ k, e = .returned (.int .i64 k) ∧ Least (GapP A x) k ∧ Below w.heap.size w w' := by
  have HS := hide hS
  clear hS
  go_enter Try.func20, Try.ntmps20
  go_wp2_with fail
  refine (outside_any ao n cap A _ HS.out).mono ?_
  rintro e w1 ⟨a1, n1, c1, O, rfl, S1, b1, p1⟩
  have HS1 := hide S1
  have HP1 := hide p1
  have HB1 := hide b1
  clear S1 b1 p1
  go_wp2_with fail
  refine (first_any a1 n1 c1 O x _ HS1.out).mono ?_
  rintro e w2 ⟨k, rfl, h2, b2⟩
  have HF := hide (gap_out HP1.out (fst_leastOf (NormOf.self HP1.out.1) (h2 O (NormOf.self HP1.out.1))))
  have HB2 := hide (HB1.out.trans (b2.mono HB1.out.size))
  clear h2 b2
  go_wp2_with fail
  go_ret
  exact ⟨_, rfl, HF.out, HB2.out⟩
set_option maxRecDepth 100000 in
set_option maxHeartbeats 4000000 in
theorem last_any (ao : Option Addr) (n cap : Nat) (A : List Rn) (w : World) (hS : RSrc w ao n cap A) :
    Calls Try.prog 18 #[.slice ao n cap] w fun e w' => ∃ k, e = .returned (.int .i64 k) ∧ Most A k ∧ Below w.heap.size w w' := by
  have HS := hide hS
  clear hS
  go_enter Try.func18, Try.ntmps18
  go_wp2_with fail
  refine (norm_any ao n cap A _ HS.out).mono ?_
  rintro e w1 ⟨a1, n1, c1, X, rfl, S1, b1, p1⟩
  have HS1 := hide S1
  have HP1 := hide p1
  have HB1 := hide b1
  have HL : Hid (X.length = n1) := S1.len
  have hn := S1.big
  clear S1 b1 p1
  go_wp2_with fail
  go_loopw [3, 9] (fun v i wr => ∃ (k : Nat) (z : Int), k ≤ n1 ∧ v = .int .i64 z ∧ i = .int .i64 k ∧ Hid (Most (X.take k) z ∧ Below w1.heap.size w1 wr)) (fun _ i _ => n1 - (intOf i).toNat)
  case atStart => exact ⟨0, 0, Nat.zero_le _, rfl, rfl, Most.start, Below.refl _ _⟩
  case round =>
    obtain ⟨k, z, hk, rfl, rfl, H⟩ := hrel
    rename World => w4
    by_cases hlt : k < n1
    · obtain ⟨ad, rfl, A0⟩ := (HS1.out.below H.out.2).at k hlt
      have hld := run_ldR A0
      obtain ⟨r, Hr⟩ : ∃ r, Hid (X.getD k rn0 = r) := ⟨_, rfl⟩
      rw [Hr.out] at hld
      have HT := hide (take_snoc X k (by rw [HL.out]; exact hlt))
      rw [Hr.out] at HT
      have HM : Hid (Most (X.take (k + 1)) r.hi) := by
        have := form_take (k + 1) HP1.out.1
        rw [HT.out] at this
        rw [HT.out]; exact Most.last this
      obtain ⟨w5, hst, X5, B5, Z5⟩ := made w4 r w4.heap.size rfl
      have HB5 := hide (H.out.2.trans (B5.mono H.out.2.size))
      have k1 : w5.cell? ⟨w4.heap.size, 1, none⟩ = some (.int .i64 r.hi) := X5.at.c1
      clear A0 X5 B5 Z5
      go_wp2_with fail
      go_roundw
      case rel => exact ⟨k + 1, r.hi, by omega, rfl, by go_num, HM.out, HB5.out⟩
      case measure => simp [intOf]; omega
    · obtain rfl : k = n1 := by omega
      have HF : Hid (Most A z) := by
        have := H.out.1
        rw [List.take_of_length_le (by rw [HL.out]; exact Nat.le_refl _)] at this
        exact this.congr HP1.out.2
      have HBF := hide (HB1.out.trans (H.out.2.mono HB1.out.size))
      go_wp2_with fail
      go_ret
      exact ⟨_, rfl, HF.out, HBF.out⟩
set_option maxRecDepth 100000 in
set_option maxHeartbeats 4000000 in
theorem refSize_any (ao : Option Addr) (n cap : Nat) (A : List Rn) (w : World) (hS : RSrc w ao n cap A) (hn0 : n ≤ 8589934592) :
    Calls Try.prog 13 #[.slice ao n cap] w fun e w' => ∃ k, e = .returned (.int .i64 k) ∧ SizeOf A k ∧ Below w.heap.size w w' := by
  have HS := hide hS
  clear hS
  go_enter Try.func13, Try.ntmps13
  go_wp2_with fail
  refine (refNorm_any ao n cap A _ HS.out hn0).mono ?_
  rintro e w1 ⟨a1, n1, c1, X, rfl, S1, b1, p1⟩
  have HS1 := hide S1
  have HP1 := hide p1
  have HB1 := hide b1
  have HL : Hid (X.length = n1) := S1.len
  have hn := S1.big
  have hz := sz_bd p1.1
  have hz0 : sz X ≤ 1000000000 := by
    rcases hz.2.1 with e | e
    · rw [e]; simp [sz]
    · omega
  clear S1 b1 p1 hz
  go_wp2_with fail
  go_loopw [4, 5] (fun v i wr => ∃ (k : Nat) (s : Int), k ≤ n1 ∧ v = .int .i64 s ∧ i = .int .i64 k ∧ Hid (s = sz (X.take k) ∧ Below w1.heap.size w1 wr)) (fun _ i _ => n1 - (intOf i).toNat)
  case atStart => exact ⟨0, 0, Nat.zero_le _, rfl, rfl, rfl, Below.refl _ _⟩
  case round =>
    obtain ⟨k, s, hk, rfl, rfl, H⟩ := hrel
    rename World => w4
    by_cases hlt : k < n1
    · have HS4 := hide (HS1.out.below H.out.2)
      obtain ⟨ad, rfl, _⟩ := HS4.out.at k hlt
      obtain ⟨b, o, rfl⟩ := HS4.out.spot (by omega)
      obtain ⟨c0, c1⟩ := HS4.out.nums k hlt
      have hfa := form_at k (Int.le_refl _) HP1.out.1 (by rw [HL.out]; exact hlt)
      have hs1 := sz_take X 1 k HP1.out.1
      have hs2 := sz_take X 1 (k + 1) HP1.out.1
      obtain ⟨r, Hr⟩ : ∃ r, Hid (X.getD k rn0 = r) := ⟨_, rfl⟩
      rw [Hr.out] at c0 c1 hfa
      rw [take_snoc X k (by rw [HL.out]; exact hlt), sz_append, Hr.out] at hs2
      have HT : Hid (sz (X.take (k + 1)) = s + r.hi - r.lo + 1) := by
        show _ = _
        rw [take_snoc X k (by rw [HL.out]; exact hlt), sz_append, Hr.out, H.out.1]
        simp [sz]; omega
      rw [← H.out.1] at hs1 hs2
      simp only [sz] at hs2
      obtain ⟨lo, hi⟩ := r
      simp only at c0 c1 hfa hs2
      have e1 : IntKind.i64.wrap (s + hi) = s + hi := by rw [IntKind.wrap_i64]; omega
      have e2 : IntKind.i64.wrap (s + hi - lo) = s + hi - lo := by rw [IntKind.wrap_i64]; omega
      have e3 : IntKind.i64.wrap (s + hi - lo + 1) = s + hi - lo + 1 := by rw [IntKind.wrap_i64]; omega
      have k0 := cell_regrown c0
      have k1 := cell_regrown c1
      clear c0 c1 hfa hs1 hs2 HS4
      go_wp2_with fail
      refine wp_region_quiet_below (by kernel_rfl) (by kernel_rfl) ?_
      repeat (with_reducible (refine wpQuiet_step ?_); intro K hK; go_simp; (try rw [if_neg (by unfold undef; simp)]); first | (with_reducible (refine hK _ ?_); clear hK K) | (apply Exists.intro; refine ⟨fun _ => ?_, hK _ ?_⟩; (fail); clear hK K))
      with_reducible (refine wpQuiet_nil ?_)
      intro w5 hw'
      obtain ⟨⟨dq, osq⟩, hw''⟩ := hw'
      have b5 : Below w4.heap.size w4 w5 := by rw [hw'']; exact below_regrown w4 dq osq
      clear hw'' dq osq
      have HB5 := hide (H.out.2.trans (b5.mono H.out.2.size))
      clear b5 k0 k1
      go_wp2_with fail
      go_roundw
      case rel => exact ⟨k + 1, s + hi - lo + 1, by omega, rfl, by go_num, HT.out.symm, HB5.out⟩
      case measure => simp [intOf]; omega
    · obtain rfl : k = n1 := by omega
      have HF : Hid (SizeOf A s) := ⟨X, HP1.out, by rw [H.out.1, List.take_of_length_le (by rw [HL.out]; exact Nat.le_refl _)]⟩
      have HBF := hide (HB1.out.trans (H.out.2.mono HB1.out.size))
      go_wp2_with fail
      go_ret
      exact ⟨_, rfl, HF.out, HBF.out⟩
end Go.Proofs.Ytclmgkjmimondaa
