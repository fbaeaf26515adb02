/- The reference's number. -/
import Derived.Test.YtmemcnjabnpdmaaDoorJPd
namespace Go.Proofs.YtmemcnjabnpdmaaDoor
open Go.RowKit T Y
variable {w w' w2 : World} {g : Nat}

theorem rev_take (P : List Int) (t : Nat) (h : t < P.length) : P.reverse.take (t + 1) = P.reverse.take t ++ [P.getD (P.length - 1 - t) 0] := by
  rw [List.take_succ_eq_append_getElem (by simpa using h)]
  have h2 : P.length - 1 - t < P.length := by omega
  simp [List.getD, h2]
set_option maxRecDepth 100000 in
set_option maxHeartbeats 3200000 in
theorem numberP_any (ao : Option Addr) (n c : Nat) (Z : List Int) (u : Nat) (hu : u ≤ 9223372036854775807) (w : World) (h : BR w ao n c Z) (hn : n ≤ 100000000000000) :
    Calls Tryd.prog 43 #[.slice ao n c, .int .i64 (u : Int)] w fun r w' => ∃ bo m cc, r = .returned (.slice bo m cc) ∧ BR w' bo m cc (Z ++ nI (num (u : Int))) ∧ Ap w w' ao bo := by
  have HL : Hid ((rdI u).length ≤ 20) := rdI_len 19 u (by omega)
  have HD0 := hide (rdI_dec u)
  have HN0 := hide h
  clear h
  go_enter Tryd.func43, Tryd.ntmps43
  have HB := HN0
  go_wp2_with fail
  go_loopw [1, 5] (fun v s wr => ∃ (m : Nat) (P : List Int) (dd : Option Addr) (k cc : Nat), m ≤ u ∧ v = .int .i64 (m : Int) ∧ s = .slice dd k cc ∧ k ≤ 20 ∧ Hid (rdI u = P ++ rdI m) ∧ Hid (BR wr dd k cc P) ∧ Hid (BR wr ao n c Z) ∧ Hid (Ap w wr ao ao) ∧ Hid (∀ j, blk dd = some j → w.heap.size ≤ j)) (fun v _ _ => (intOf v).toNat)
  case atStart => exact ⟨u, [], none, 0, 0, Nat.le_refl _, rfl, rfl, by omega, by show _ = _; simp, BR.nil _, HB, Ap.refl _ _, (fun j hj => by cases hj)⟩
  case round =>
    obtain ⟨m, P, dd, k, cc, hm, rfl, rfl, hk, HD, HP, HR, HA, HF⟩ := hrel
    have hPk : P.length = k := HP.out.len
    have hP19 : k ≤ 19 := by
      have h1 := HL.out
      have h2 := congrArg List.length HD.out
      rw [List.length_append] at h2
      have h3 : 1 ≤ (rdI m).length := by
        by_cases hx : m < 10
        · rw [rdI_lt hx]; simp
        · rw [rdI_ge hx]; simp
      omega
    have hw := wrap8 (48 + (m : Int) % 10) (by omega) (by omega)
    by_cases hm9 : m < 10
    · have hq : (m : Int) / 10 = 0 := by omega
      have hq2 : m / 10 = 0 := by omega
      have HE : Hid (rdI u = P ++ [48 + (m : Int) % 10]) := by show _ = _; rw [HD.out, rdI_lt hm9]; congr 2; omega
      go_wp2_with (at_builtin; refine HP.out.app1 (48 + (m : Int) % 10) (by omega) rfl (.tmp 19) (.tmp 23) rfl rfl rfl ?_; intro d2 q2 w2 R2 A2; have HP2 := hide R2; have HR2 := hide (stayB HR.out A2 (fun j h1 h2 => by have h3 := HB.out.lt j h1; have h4 := HF.out j h2; omega)); have HA2 := hide (Ap.other HA.out A2 HF.out); have HF2 := hide (Ap.fresh A2 HF.out HA.out.grown.size); clear R2 A2)
      obtain ⟨Q, hQ⟩ : ∃ Q, P ++ [(48 + (m : Int) % 10)] = Q := ⟨_, rfl⟩
      have HQ : Hid (rdI u = Q) := by show _ = _; rw [HE.out, hQ]
      rw [hQ] at HP2
      have hQl : Q.length = k + 1 := HP2.out.len
      have HAp : Hid (∀ j, blk d2 = some j → blk ao ≠ some j) := fun j h1 h2 => by have h3 := HB.out.lt j h2; have h4 := HF2.out j h1; omega
      clear hQ HE hm HP HR HA HD HF hPk hw
      go_loopw [0, 7] (fun s v wr => ∃ (t mm q : Nat) (bo : Option Addr), t ≤ k + 1 ∧ v = .int .i64 ((k : Int) - (t : Int)) ∧ s = .slice bo mm q ∧ mm = n + t ∧ Hid (BR wr bo mm q (Z ++ Q.reverse.take t)) ∧ Hid (BR wr d2 (k + 1) q2 Q) ∧ Hid (Ap w wr ao bo) ∧ Hid (∀ j, blk d2 = some j → blk bo ≠ some j)) (fun _ v _ => (intOf v + 1).toNat)
      case atStart => exact ⟨0, n, c, ao, by omega, by go_num, rfl, by omega, by simpa using HR2, HP2, HA2, HAp⟩
      case round =>
        clear HR2 HP2 HA2 HAp HF2
        obtain ⟨t, mm, q, bo, ht, rfl, rfl, hmm, HR, HP, HA, HX⟩ := hrel
        by_cases hlt : t < k + 1
        · obtain ⟨i, hi⟩ : ∃ i : Nat, k = i + t := ⟨k - t, by omega⟩
          have hiv : (k : Int) - (t : Int) = (i : Int) := by omega
          obtain ⟨b, rfl, hc⟩ := atB HP.out i (by omega)
          have HT : Hid (Q.reverse.take (t + 1) = Q.reverse.take t ++ [Q.getD i 0]) := by show _ = _; rw [rev_take Q t (by omega), show Q.length - 1 - t = i by omega]
          have Hmm := hide hmm
          have Hi := hide hi
          rw [hiv]
          have hib : i ≤ k := by omega
          have hmb : mm + 1 ≤ 140737488355328 := by omega
          clear hmm hi
          go_wp2_with (at_builtin; refine HR.out.app1 (Q.getD i 0) hmb rfl (.tmp 36) (.tmp 41) rfl rfl rfl ?_; intro b3 q3 w3 R3 A3; have HR3 := hide R3; have HP3 := hide (stayB HP.out A3 HX.out); have HX3 := hide (Ap.apart HP.out A3 HX.out); have HA3 := hide (HA.out.trans A3); clear R3 A3)
          go_roundw
          case rel => exact ⟨t + 1, mm + 1, q3, b3, by omega, by go_num, rfl, by have := Hmm.out; omega, by show BR _ _ _ _ _; rw [HT.out, ← List.append_assoc]; exact HR3.out, HP3, HA3, HX3⟩
          case measure => simp [intOf]
        · obtain rfl : t = k + 1 := by omega
          have hiv : (k : Int) - ((k + 1 : Nat) : Int) = -1 := by omega
          rw [hiv]
          have HE2 : Hid (Z ++ Q.reverse.take (k + 1) = Z ++ nI (num (u : Int))) := by show _ = _; rw [List.take_of_length_le (by rw [List.length_reverse]; omega), ← HQ.out, HD0.out, num_dec]
          go_wp2_with fail
          go_ret
          exact ⟨_, _, _, rfl, by rw [← HE2.out]; exact HR.out, HA.out⟩
    · have HE : Hid (rdI u = (P ++ [48 + (m : Int) % 10]) ++ rdI (m / 10)) := by show _ = _; rw [HD.out, rdI_ge hm9]; simp
      go_wp2_with (at_builtin; refine HP.out.app1 (48 + (m : Int) % 10) (by omega) rfl (.tmp 19) (.tmp 23) rfl rfl rfl ?_; intro d2 q2 w2 R2 A2; have HP2 := hide R2; have HR2 := hide (stayB HR.out A2 (fun j h1 h2 => by have h3 := HB.out.lt j h1; have h4 := HF.out j h2; omega)); have HA2 := hide (Ap.other HA.out A2 HF.out); have HF2 := hide (Ap.fresh A2 HF.out HA.out.grown.size); clear R2 A2)
      go_roundw
      case rel => exact ⟨m / 10, P ++ [(48 + (m : Int) % 10)], d2, k + 1, q2, by omega, by go_num, rfl, by omega, HE, HP2, HR2, HA2, HF2⟩
      case measure => simp [intOf]; omega
set_option maxRecDepth 100000 in
set_option maxHeartbeats 3200000 in
theorem numberN_any (ao : Option Addr) (n c : Nat) (Z : List Int) (u : Nat) (hu0 : 0 < u) (hu : u ≤ 9223372036854775808) (w : World) (h : BR w ao n c Z) (hn : n ≤ 100000000000000) :
    Calls Tryd.prog 43 #[.slice ao n c, .int .i64 (-(u : Int))] w fun r w' => ∃ bo m cc, r = .returned (.slice bo m cc) ∧ BR w' bo m cc (Z ++ nI (num (-(u : Int)))) ∧ Ap w w' ao bo := by
  have HL : Hid ((rdI u).length ≤ 20) := rdI_len 19 u (by omega)
  have HD0 := hide (rdI_dec u)
  have HN0 := hide h
  clear h
  go_enter Tryd.func43, Tryd.ntmps43
  go_wp2_with (at_builtin; refine HN0.out.app1 45 (by omega) rfl (.tmp 10) (.tmp 11) rfl rfl rfl ?_; intro b1 q1 w1 R1 A1; have HB := hide R1; have HAB := hide A1; clear R1 A1)
  go_loopw [1, 5] (fun v s wr => ∃ (m : Nat) (P : List Int) (dd : Option Addr) (k cc : Nat), m ≤ u ∧ v = .int .i64 (-(m : Int)) ∧ s = .slice dd k cc ∧ k ≤ 20 ∧ Hid (rdI u = P ++ rdI m) ∧ Hid (BR wr dd k cc P) ∧ Hid (BR wr b1 (n + 1) q1 (Z ++ [45])) ∧ Hid (Ap w1 wr b1 b1) ∧ Hid (∀ j, blk dd = some j → w1.heap.size ≤ j)) (fun v _ _ => (intOf v).natAbs)
  case atStart => exact ⟨u, [], none, 0, 0, Nat.le_refl _, rfl, rfl, by omega, by show _ = _; simp, BR.nil _, HB, Ap.refl _ _, (fun j hj => by cases hj)⟩
  case round =>
    obtain ⟨m, P, dd, k, cc, hm, rfl, rfl, hk, HD, HP, HR, HA, HF⟩ := hrel
    have hPk : P.length = k := HP.out.len
    have hP19 : k ≤ 19 := by
      have h1 := HL.out
      have h2 := congrArg List.length HD.out
      rw [List.length_append] at h2
      have h3 : 1 ≤ (rdI m).length := by
        by_cases hx : m < 10
        · rw [rdI_lt hx]; simp
        · rw [rdI_ge hx]; simp
      omega
    have hw := wrap8 (48 + (m : Int) % 10) (by omega) (by omega)
    have e1 : Int.tmod (-(m : Int)) 10 = -((m : Int) % 10) := by rw [Int.neg_tmod, Int.tmod_eq_emod_of_nonneg (by omega)]
    have e2 : Int.tdiv (-(m : Int)) 10 = -((m / 10 : Nat) : Int) := by rw [Int.neg_tdiv, Int.tdiv_eq_ediv_of_nonneg (by omega)]; rfl
    by_cases hm9 : m < 10
    · have hq : (m : Int) / 10 = 0 := by omega
      have hq2 : m / 10 = 0 := by omega
      have HE : Hid (rdI u = P ++ [48 + (m : Int) % 10]) := by show _ = _; rw [HD.out, rdI_lt hm9]; congr 2; omega
      rw [hq2] at e2
      by_cases hd : 0 < (m : Int) % 10
      · go_wp2_with (at_builtin; refine HP.out.app1 (48 + (m : Int) % 10) (by omega) rfl (.tmp 19) (.tmp 23) rfl rfl rfl ?_; intro d2 q2 w2 R2 A2; have HP2 := hide R2; have HR2 := hide (stayB HR.out A2 (fun j h1 h2 => by have h3 := HB.out.lt j h1; have h4 := HF.out j h2; omega)); have HA2 := hide (Ap.other HA.out A2 HF.out); have HF2 := hide (Ap.fresh A2 HF.out HA.out.grown.size); clear R2 A2)
        obtain ⟨Q, hQ⟩ : ∃ Q, P ++ [(48 + (m : Int) % 10)] = Q := ⟨_, rfl⟩
        have HQ : Hid (rdI u = Q) := by show _ = _; rw [HE.out, hQ]
        rw [hQ] at HP2
        have hQl : Q.length = k + 1 := HP2.out.len
        have HAp : Hid (∀ j, blk d2 = some j → blk b1 ≠ some j) := fun j h1 h2 => by have h3 := HB.out.lt j h2; have h4 := HF2.out j h1; omega
        clear hQ HE hm HP HR HA HD HF hPk hw e1 e2
        go_loopw [0, 7] (fun s v wr => ∃ (t mm q : Nat) (bo : Option Addr), t ≤ k + 1 ∧ v = .int .i64 ((k : Int) - (t : Int)) ∧ s = .slice bo mm q ∧ mm = (n + 1) + t ∧ Hid (BR wr bo mm q ((Z ++ [45]) ++ Q.reverse.take t)) ∧ Hid (BR wr d2 (k + 1) q2 Q) ∧ Hid (Ap w1 wr b1 bo) ∧ Hid (∀ j, blk d2 = some j → blk bo ≠ some j)) (fun _ v _ => (intOf v + 1).toNat)
        case atStart => exact ⟨0, (n + 1), q1, b1, by omega, by go_num, rfl, by omega, by simpa using HR2, HP2, HA2, HAp⟩
        case round =>
          clear HR2 HP2 HA2 HAp HF2
          obtain ⟨t, mm, q, bo, ht, rfl, rfl, hmm, HR, HP, HA, HX⟩ := hrel
          by_cases hlt : t < k + 1
          · obtain ⟨i, hi⟩ : ∃ i : Nat, k = i + t := ⟨k - t, by omega⟩
            have hiv : (k : Int) - (t : Int) = (i : Int) := by omega
            obtain ⟨b, rfl, hc⟩ := atB HP.out i (by omega)
            have HT : Hid (Q.reverse.take (t + 1) = Q.reverse.take t ++ [Q.getD i 0]) := by show _ = _; rw [rev_take Q t (by omega), show Q.length - 1 - t = i by omega]
            have Hmm := hide hmm
            have Hi := hide hi
            rw [hiv]
            have hib : i ≤ k := by omega
            have hmb : mm + 1 ≤ 140737488355328 := by omega
            clear hmm hi
            go_wp2_with (at_builtin; refine HR.out.app1 (Q.getD i 0) hmb rfl (.tmp 36) (.tmp 41) rfl rfl rfl ?_; intro b3 q3 w3 R3 A3; have HR3 := hide R3; have HP3 := hide (stayB HP.out A3 HX.out); have HX3 := hide (Ap.apart HP.out A3 HX.out); have HA3 := hide (HA.out.trans A3); clear R3 A3)
            go_roundw
            case rel => exact ⟨t + 1, mm + 1, q3, b3, by omega, by go_num, rfl, by have := Hmm.out; omega, by show BR _ _ _ _ _; rw [HT.out, ← List.append_assoc]; exact HR3.out, HP3, HA3, HX3⟩
            case measure => simp [intOf]
          · obtain rfl : t = k + 1 := by omega
            have hiv : (k : Int) - ((k + 1 : Nat) : Int) = -1 := by omega
            rw [hiv]
            have HE2 : Hid (Z ++ [45] ++ Q.reverse.take (k + 1) = Z ++ nI (num (-(u : Int)))) := by show _ = _; rw [List.take_of_length_le (by rw [List.length_reverse]; omega), ← HQ.out, HD0.out, num_minus u hu0]; simp [nI]
            go_wp2_with fail
            go_ret
            exact ⟨_, _, _, rfl, by rw [← HE2.out]; exact HR.out, HAB.out.trans HA.out⟩
      · have hd0 : (m : Int) % 10 = 0 := by omega
        rw [hd0] at e1 hw HE
        simp only [Int.neg_zero, Int.add_zero] at e1 hw HE
        go_wp2_with (at_builtin; refine HP.out.app1 48 (by omega) rfl (.tmp 19) (.tmp 23) rfl rfl rfl ?_; intro d2 q2 w2 R2 A2; have HP2 := hide R2; have HR2 := hide (stayB HR.out A2 (fun j h1 h2 => by have h3 := HB.out.lt j h1; have h4 := HF.out j h2; omega)); have HA2 := hide (Ap.other HA.out A2 HF.out); have HF2 := hide (Ap.fresh A2 HF.out HA.out.grown.size); clear R2 A2)
        obtain ⟨Q, hQ⟩ : ∃ Q, P ++ [48] = Q := ⟨_, rfl⟩
        have HQ : Hid (rdI u = Q) := by show _ = _; rw [HE.out, hQ]
        rw [hQ] at HP2
        have hQl : Q.length = k + 1 := HP2.out.len
        have HAp : Hid (∀ j, blk d2 = some j → blk b1 ≠ some j) := fun j h1 h2 => by have h3 := HB.out.lt j h2; have h4 := HF2.out j h1; omega
        clear hQ HE hm HP HR HA HD HF hPk hw e1 e2
        go_loopw [0, 7] (fun s v wr => ∃ (t mm q : Nat) (bo : Option Addr), t ≤ k + 1 ∧ v = .int .i64 ((k : Int) - (t : Int)) ∧ s = .slice bo mm q ∧ mm = (n + 1) + t ∧ Hid (BR wr bo mm q ((Z ++ [45]) ++ Q.reverse.take t)) ∧ Hid (BR wr d2 (k + 1) q2 Q) ∧ Hid (Ap w1 wr b1 bo) ∧ Hid (∀ j, blk d2 = some j → blk bo ≠ some j)) (fun _ v _ => (intOf v + 1).toNat)
        case atStart => exact ⟨0, (n + 1), q1, b1, by omega, by go_num, rfl, by omega, by simpa using HR2, HP2, HA2, HAp⟩
        case round =>
          clear HR2 HP2 HA2 HAp HF2
          obtain ⟨t, mm, q, bo, ht, rfl, rfl, hmm, HR, HP, HA, HX⟩ := hrel
          by_cases hlt : t < k + 1
          · obtain ⟨i, hi⟩ : ∃ i : Nat, k = i + t := ⟨k - t, by omega⟩
            have hiv : (k : Int) - (t : Int) = (i : Int) := by omega
            obtain ⟨b, rfl, hc⟩ := atB HP.out i (by omega)
            have HT : Hid (Q.reverse.take (t + 1) = Q.reverse.take t ++ [Q.getD i 0]) := by show _ = _; rw [rev_take Q t (by omega), show Q.length - 1 - t = i by omega]
            have Hmm := hide hmm
            have Hi := hide hi
            rw [hiv]
            have hib : i ≤ k := by omega
            have hmb : mm + 1 ≤ 140737488355328 := by omega
            clear hmm hi
            go_wp2_with (at_builtin; refine HR.out.app1 (Q.getD i 0) hmb rfl (.tmp 36) (.tmp 41) rfl rfl rfl ?_; intro b3 q3 w3 R3 A3; have HR3 := hide R3; have HP3 := hide (stayB HP.out A3 HX.out); have HX3 := hide (Ap.apart HP.out A3 HX.out); have HA3 := hide (HA.out.trans A3); clear R3 A3)
            go_roundw
            case rel => exact ⟨t + 1, mm + 1, q3, b3, by omega, by go_num, rfl, by have := Hmm.out; omega, by show BR _ _ _ _ _; rw [HT.out, ← List.append_assoc]; exact HR3.out, HP3, HA3, HX3⟩
            case measure => simp [intOf]
          · obtain rfl : t = k + 1 := by omega
            have hiv : (k : Int) - ((k + 1 : Nat) : Int) = -1 := by omega
            rw [hiv]
            have HE2 : Hid (Z ++ [45] ++ Q.reverse.take (k + 1) = Z ++ nI (num (-(u : Int)))) := by show _ = _; rw [List.take_of_length_le (by rw [List.length_reverse]; omega), ← HQ.out, HD0.out, num_minus u hu0]; simp [nI]
            go_wp2_with fail
            go_ret
            exact ⟨_, _, _, rfl, by rw [← HE2.out]; exact HR.out, HAB.out.trans HA.out⟩
    · have HE : Hid (rdI u = (P ++ [48 + (m : Int) % 10]) ++ rdI (m / 10)) := by show _ = _; rw [HD.out, rdI_ge hm9]; simp
      by_cases hd : 0 < (m : Int) % 10
      · go_wp2_with (at_builtin; refine HP.out.app1 (48 + (m : Int) % 10) (by omega) rfl (.tmp 19) (.tmp 23) rfl rfl rfl ?_; intro d2 q2 w2 R2 A2; have HP2 := hide R2; have HR2 := hide (stayB HR.out A2 (fun j h1 h2 => by have h3 := HB.out.lt j h1; have h4 := HF.out j h2; omega)); have HA2 := hide (Ap.other HA.out A2 HF.out); have HF2 := hide (Ap.fresh A2 HF.out HA.out.grown.size); clear R2 A2)
        go_roundw
        case rel => exact ⟨m / 10, P ++ [(48 + (m : Int) % 10)], d2, k + 1, q2, by omega, by go_num, rfl, by omega, HE, HP2, HR2, HA2, HF2⟩
        case measure => simp [intOf]; omega
      · have hd0 : (m : Int) % 10 = 0 := by omega
        rw [hd0] at e1 hw HE
        simp only [Int.neg_zero, Int.add_zero] at e1 hw HE
        go_wp2_with (at_builtin; refine HP.out.app1 48 (by omega) rfl (.tmp 19) (.tmp 23) rfl rfl rfl ?_; intro d2 q2 w2 R2 A2; have HP2 := hide R2; have HR2 := hide (stayB HR.out A2 (fun j h1 h2 => by have h3 := HB.out.lt j h1; have h4 := HF.out j h2; omega)); have HA2 := hide (Ap.other HA.out A2 HF.out); have HF2 := hide (Ap.fresh A2 HF.out HA.out.grown.size); clear R2 A2)
        go_roundw
        case rel => exact ⟨m / 10, P ++ [48], d2, k + 1, q2, by omega, by go_num, rfl, by omega, HE, HP2, HR2, HA2, HF2⟩
        case measure => simp [intOf]; omega
theorem number_any (ao : Option Addr) (n c : Nat) (Z : List Int) (v : Int) (h0 : -9223372036854775808 ≤ v) (h1 : v ≤ 9223372036854775807) (w : World) (h : BR w ao n c Z) (hn : n ≤ 100000000000000) :
    Calls Tryd.prog 43 #[.slice ao n c, .int .i64 v] w fun r w' => ∃ bo m cc, r = .returned (.slice bo m cc) ∧ BR w' bo m cc (Z ++ nI (num v)) ∧ Ap w w' ao bo := by
  by_cases hv : v < 0
  · obtain ⟨u, rfl⟩ : ∃ u : Nat, v = -(u : Int) := ⟨v.natAbs, by omega⟩
    exact numberN_any ao n c Z u (by omega) (by omega) w h hn
  · obtain ⟨u, rfl⟩ : ∃ u : Nat, v = (u : Int) := ⟨v.toNat, by omega⟩
    exact numberP_any ao n c Z u (by omega) w h hn
end Go.Proofs.YtmemcnjabnpdmaaDoor
