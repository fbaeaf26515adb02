import Derived.Test.YtfjaddhkilbciaaPlain
namespace Go.Proofs.Ytfjaddhkilbciaa
open Go.RowKit

theorem tot0N : totN [400000, 600000] = 1000000 := by decide
theorem tot0E : totE [400000, 600000] = 0 := by decide

set_option maxRecDepth 100000 in
set_option maxHeartbeats 4000000 in
theorem adds_any (ao bo : Option Addr) (la ca lb cb : Nat) (A B : List Int) (w : World) (I : In w ao bo la ca lb cb A B) (hla : la ≤ 1048576) (hlb : lb ≤ 1048576) :
    Calls Try.prog 3 #[.slice ao la ca, .slice bo lb cb] w fun e w' => e = .returned (.bool true) ∧ Below w.heap.size w w' := by
  go_enter Try.func3, Try.ntmps3
  go_wp2_with fail
  refine (total_any w.heap.size 0 2 2 [400000, 600000] _ rfl (by omega) ?_).mono ?_
  · intro t ht
    match t, ht with
    | 0, _ => simp
    | 1, _ => simp
  rintro e w' ⟨rfl, rfl⟩
  rw [tot0N, tot0E]
  go_wp2_with (first
    | (at_make; refine step2 _ I rfl _ _ rfl rfl rfl ?_; intro w2 M2)
    | (at_builtin; refine step3 I M2 rfl (.tmp 39) (.tmp 40) rfl rfl rfl ?_; intro w3 M3)
    | (at_builtin; refine step4 I M3 rfl (.tmp 42) (.tmp 43) rfl rfl rfl ?_; intro w4 M4)
    | (at_builtin; refine step5 I M4 rfl (.tmp 45) (.tmp 46) rfl rfl rfl ?_; intro w5 g5 c5 M5)
    | (at_builtin; refine step6 I M5 rfl (.tmp 48) (.tmp 49) rfl rfl rfl ?_; intro w6 g6 c6 M6))
  have hA := hide I.a.1
  have hB := hide I.b.1
  obtain ⟨nA, HnA⟩ : ∃ x, Hid (totN A = x) := ⟨_, rfl⟩
  obtain ⟨eA, HeA⟩ : ∃ x, Hid (totE A = x) := ⟨_, rfl⟩
  obtain ⟨nB, HnB⟩ : ∃ x, Hid (totN B = x) := ⟨_, rfl⟩
  obtain ⟨eB, HeB⟩ : ∃ x, Hid (totE B = x) := ⟨_, rfl⟩
  obtain ⟨nC, HnC⟩ : ∃ x, Hid (totN (A ++ B) = x) := ⟨_, rfl⟩
  obtain ⟨eC, HeC⟩ : ∃ x, Hid (totE (A ++ B) = x) := ⟨_, rfl⟩
  refine (total_any g5 0 la c5 A w6 hA.out (by omega) (fun t ht => by rw [Nat.zero_add]; exact M6.row t (by rw [hA.out]; exact ht))).mono ?_
  rintro e w' ⟨rfl, rfl⟩
  rw [HnA.out, HeA.out]
  go_wp2_with fail
  refine (total_any g6 0 lb c6 B _ hB.out (by omega) (fun t ht => by rw [Nat.zero_add]; exact M6.rowB t (by rw [hB.out]; exact ht))).mono ?_
  rintro e w' ⟨rfl, rfl⟩
  rw [HnB.out, HeB.out]
  go_wp2_with fail
  refine (total_any (w.heap.size + 1) 0 (la + lb) (la + lb + 9) (A ++ B) _ (by rw [List.length_append, hA.out, hB.out]) (by omega) (fun t ht => by rw [Nat.zero_add, M6.blk.cell t (by simp [hA.out, hB.out]; omega), getD_left _ _ _ (by simp [hA.out, hB.out]; omega)])).mono ?_
  rintro e w' ⟨rfl, rfl⟩
  rw [HnC.out, HeC.out]
  go_wp2_with fail
  go_loopw [17] (fun i wr => ∃ k : Nat, k ≤ la + lb + 9 ∧ i = .int .i64 k ∧ Mid6 w wr (A ++ B ++ List.replicate 9 0) A B g5 g6) (fun i _ => la + lb + 9 - (intOf i).toNat)
  case atStart => exact ⟨0, Nat.zero_le _, rfl, M6⟩
  case round =>
    obtain ⟨k, hk, rfl, Mr⟩ := hrel
    by_cases hlt : k < la + lb + 9
    · by_cases h1 : k < la
      · obtain ⟨z, Hz⟩ : ∃ z, Hid (A.getD k 0 = z) := ⟨_, rfl⟩
        obtain ⟨ba, oa, rfl, -, hra⟩ := (I.a.below Mr.below).addr (by omega)
        have ca1 : wr.cell? ⟨ba, oa + k, none⟩ = some (.int .i64 z) := by rw [hra k h1, Hz.out]
        have ca2 : wr.cell? ⟨g5, k, none⟩ = some (.int .i64 z) := by rw [Mr.row k (by rw [hA.out]; exact h1), Hz.out]
        have ca3 : wr.cell? ⟨w.heap.size + 1, k, none⟩ = some (.int .i64 z) := by rw [Mr.blk.cell k (by simp [hA.out, hB.out]; omega), List.append_assoc, getD_left _ _ _ (by rw [hA.out]; exact h1), Hz.out]
        have d1 : decide (la ≤ k) = false := decide_eq_false (by omega)
        have d2 : decide ((la : Int) + lb ≤ k) = false := decide_eq_false (by omega)
        clear hra
        go_wp2
        dsimp only [List.append]
        go_quiet (fail)
        go_wp2
        go_roundw
        case rel => exact ⟨k + 1, by omega, by go_num, Mr.drewN _⟩
        case measure => simp [intOf]; omega
      · by_cases h2 : k < la + lb
        · obtain ⟨z, Hz⟩ : ∃ z, Hid (B.getD (k - la) 0 = z) := ⟨_, rfl⟩
          obtain ⟨bb, ob, rfl, -, hrb⟩ := (I.b.below Mr.below).addr (by omega)
          have cb1 : wr.cell? ⟨bb, ob + (k - la), none⟩ = some (.int .i64 z) := by rw [hrb (k - la) (by omega), Hz.out]
          have cb2 : wr.cell? ⟨g6, k - la, none⟩ = some (.int .i64 z) := by rw [Mr.rowB (k - la) (by rw [hB.out]; omega), Hz.out]
          have cb3 : wr.cell? ⟨w.heap.size + 1, k, none⟩ = some (.int .i64 z) := by rw [Mr.blk.cell k (by simp [hA.out, hB.out]; omega), List.append_assoc, getD_right _ _ _ (by rw [hA.out]; omega), hA.out, getD_left _ _ _ (by rw [hB.out]; omega), Hz.out]
          have d1 : decide (la ≤ k) = true := decide_eq_true (by omega)
          have d2 : decide ((la : Int) + lb ≤ k) = false := decide_eq_false (by omega)
          have d3 : decide ((k : Int) < (la : Int) + lb) = true := decide_eq_true (by omega)
          have d4 : decide (k < la) = false := decide_eq_false (by omega)
          have e5 : ((k : Int) - la).toNat = k - la := by omega
          clear hrb
          go_wp2
          dsimp only [List.append]
          go_quiet (fail)
          go_wp2
          go_roundw
          case rel => exact ⟨k + 1, by omega, by go_num, Mr.drewN _⟩
          case measure => simp [intOf]; omega
        · have cc3 : wr.cell? ⟨w.heap.size + 1, k, none⟩ = some (.int .i64 0) := by rw [Mr.blk.cell k (by simp [hA.out, hB.out]; omega), getD_right _ _ _ (by simp [hA.out, hB.out]; omega), getD_zeros]
          have d1 : decide (la ≤ k) = true := decide_eq_true (by omega)
          have d2 : decide ((la : Int) + lb ≤ k) = true := decide_eq_true (by omega)
          have d3 : decide ((k : Int) < (la : Int) + lb) = false := decide_eq_false (by omega)
          have d4 : decide (k < la) = false := decide_eq_false (by omega)
          go_wp2
          dsimp only [List.append]
          go_quiet (fail)
          go_wp2
          go_roundw
          case rel => exact ⟨k + 1, by omega, by go_num, Mr.drewN _⟩
          case measure => simp [intOf]; omega
    · go_wp2_with fail
      go_loopw [18] (fun i wq => ∃ k : Nat, k ≤ la + lb ∧ i = .int .i64 k ∧ Mid w wq (List.replicate k 1 ++ (A ++ B ++ List.replicate 9 0).drop k)) (fun i _ => la + lb - (intOf i).toNat)
      case atStart => exact ⟨0, Nat.zero_le _, rfl, Mr.toMid⟩
      case round =>
        obtain ⟨j, hj, rfl, Mq⟩ := hrel
        by_cases hjl : j < la + lb
        · have hlen : j < (List.replicate j (1 : Int) ++ (A ++ B ++ List.replicate 9 0).drop j).length := by simp [hA.out, hB.out]; omega
          obtain ⟨L, HL⟩ : ∃ L : List Int, Hid (L = List.replicate j (1 : Int) ++ List.drop j (A ++ B ++ List.replicate 9 (0 : Int))) := ⟨List.replicate j (1 : Int) ++ List.drop j (A ++ B ++ List.replicate 9 (0 : Int)), rfl⟩
          rw [← HL.out] at Mq hlen
          obtain ⟨z, Hz⟩ : ∃ z : Int, Hid (L.getD j 0 = z) := ⟨_, rfl⟩
          have cj := Mq.blk.cell j hlen
          rw [Hz.out] at cj
          have fj := Mq.blk.frozen j
          have R : Mid w (wr.setCell ⟨w.heap.size + 1, j, none⟩ (.int .i64 1)) (List.replicate (j + 1) 1 ++ (A ++ B ++ List.replicate 9 0).drop (j + 1)) :=
            ⟨Mq.below.setCell (by simp) _, by have := Mq.blk.set j 1; rw [HL.out, set_ones j _ (by simp [hA.out, hB.out]; omega)] at this; exact this⟩
          clear hlen
          go_wp2
          go_roundw
          case rel => exact ⟨j + 1, by omega, by go_num, R⟩
          case measure => simp [intOf]; omega
        · have hjE : j = la + lb := by omega
          subst hjE
          have Mz : Mid w wr (List.replicate (la + lb) 1 ++ List.replicate 9 0) := by
            have e : (A ++ B ++ List.replicate 9 (0 : Int)).drop (la + lb) = List.replicate 9 0 := by rw [← hA.out, ← hB.out, ← List.length_append, List.drop_left]
            rw [e] at Mq; exact Mq
          clear Mq Mr
          go_wp2_with fail
          refine (total_any (w.heap.size + 1) 0 (la + lb) (la + lb + 9) (List.replicate (la + lb) 1) _ (by simp) (by omega) (fun t ht => by rw [Nat.zero_add, Mz.blk.cell t (by simp; omega), getD_left _ _ _ (by simpa using ht)])).mono ?_
          rintro e w' ⟨rfl, rfl⟩
          have hT := tails A B
          rw [HnA.out, HeA.out, HnB.out, HeB.out, HnC.out, HeC.out] at hT
          have bA := tot_bd A
          have bB := tot_bd B
          rw [HnA.out] at bA
          rw [HnB.out] at bB
          obtain ⟨nO, HnO⟩ : ∃ x : Int, Hid (totN (List.replicate (la + lb) 1) = x) := ⟨_, rfl⟩
          obtain ⟨eO, HeO⟩ : ∃ x : Int, Hid (totE (List.replicate (la + lb) 1) = x) := ⟨_, rfl⟩
          rw [HnO.out, HeO.out]
          have fin : Hid (Below w.heap.size w w') := Mz.below
          clear Mz HnA HeA HnB HeB HnC HeC hA hB I
          by_cases hm : la + lb ≤ 1000000
          · have hn0 := ones_N (la + lb) hm
            have he0 := ones_E (la + lb) hm
            rw [HnO.out] at hn0
            rw [HeO.out] at he0
            clear HnO HeO
            subst he0
            have hn1 : nO = (la : Int) + lb := by rw [hn0]; omega
            clear hn0
            subst hn1
            rcases hT with ⟨rfl, rfl, rfl⟩ | ⟨rfl, rfl, rfl, rfl⟩ | ⟨rfl, rfl, rfl, rfl⟩ | ⟨rfl, rfl, rfl, rfl⟩ | ⟨rfl, rfl, rfl, rfl⟩ | ⟨rfl, rfl, rfl, rfl⟩ | ⟨rfl, rfl, hgt, rfl, rfl⟩ | ⟨rfl, rfl, hgt, rfl, rfl⟩
            all_goals
              as_aux_lemma =>
                go_wp2
                go_ret
                exact ⟨by first | rfl | simp, fin⟩
          · clear HnO HeO
            rcases hT with ⟨rfl, rfl, rfl⟩ | ⟨rfl, rfl, rfl, rfl⟩ | ⟨rfl, rfl, rfl, rfl⟩ | ⟨rfl, rfl, rfl, rfl⟩ | ⟨rfl, rfl, rfl, rfl⟩ | ⟨rfl, rfl, rfl, rfl⟩ | ⟨rfl, rfl, hgt, rfl, rfl⟩ | ⟨rfl, rfl, hgt, rfl, rfl⟩
            all_goals
              as_aux_lemma =>
                go_wp2
                go_ret
                exact ⟨by first | rfl | simp, fin⟩
end Go.Proofs.Ytfjaddhkilbciaa
