/- The reference's Digits. -/
import Derived.Test.YtpolleieajgheaaDoorHPl
namespace Go.Proofs.YtpolleieajgheaaDoor
open Go.RowKit T Y
variable {w w' w2 : World} {g : Nat}

theorem swap_row (Z P : List Int) (t : Nat) (h : 2 * t + 1 < P.length) : ((Z ++ rv P t).set (Z.length + t) ((Z ++ rv P t).getD (Z.length + (P.length - 1 - t)) 0)).set (Z.length + (P.length - 1 - t)) ((Z ++ rv P t).getD (Z.length + t) 0) = Z ++ rv P (t + 1) := by
  rw [getD_right, getD_right, set_right, set_right, rv_step P t h]
set_option maxRecDepth 100000 in
set_option maxHeartbeats 3200000 in
theorem digits_any (ao : Option Addr) (n c : Nat) (Z : List Int) (u : Nat) (w : World) (h : BR w ao n c Z) (hu : u ≤ 10000000000) (hn : n ≤ 100000000000000) :
    Calls Tryd.prog 10 #[.slice ao n c, .int .i64 (u : Int)] w fun r w' => ∃ bo m cc, r = .returned (.slice bo m cc) ∧ BR w' bo m cc (Z ++ nI (Lib.decDigits u)) ∧ Ap w w' ao bo := by
  have HL : Hid ((rdI u).length ≤ 11) := rdI_len 10 u (by omega)
  have HZ : Hid (Z.length = n) := h.len
  have HR0 := hide h
  have HD0 := hide (rdI_dec u)
  clear h
  go_enter Tryd.func10, Tryd.ntmps10
  go_wp2_with fail
  go_loopw [0, 1] (fun s v wr => ∃ (m : Nat) (P : List Int) (bo : Option Addr) (k cc : Nat), m ≤ u ∧ v = .int .i64 (m : Int) ∧ s = .slice bo k cc ∧ Hid (k = n + P.length) ∧ Hid (rdI u = P ++ rdI m) ∧ Hid (BR wr bo k cc (Z ++ P)) ∧ Hid (Ap w wr ao bo)) (fun _ v _ => (intOf v).toNat)
  case atStart => exact ⟨u, [], ao, n, c, by omega, rfl, rfl, by show _ = _; simp, by show _ = _; simp, by simpa using HR0, Ap.refl _ _⟩
  case round =>
    clear HR0
    obtain ⟨m, P, bo, k, cc, hm, rfl, rfl, HK, HD, HR, HA⟩ := hrel
    have hw := wrap8 (48 + (m : Int) % 10) (by omega) (by omega)
    have hPl : P.length ≤ 11 := by have h1 := HL.out; have h2 := congrArg List.length HD.out; rw [List.length_append] at h2; omega
    have hkb : k ≤ 100000000000020 := by have := HK.out; omega
    have HKb : Hid (k + 1 ≤ 140737488355328) := by show _ ≤ _; have := HK.out; omega
    by_cases hm9 : m < 10
    · have hq : (m : Int) / 10 = 0 := by omega
      have HE : Hid (rdI u = P ++ [48 + (m : Int) % 10]) := by show _ = _; rw [HD.out, rdI_lt hm9]; congr 2; omega
      go_wp2_with (at_builtin; refine HR.out.app1 (48 + (m : Int) % 10) HKb.out rfl (.tmp 11) (.tmp 16) rfl rfl rfl ?_; intro bo2 c2 w2 R2 A2; have HR2 := hide R2; have HA2 := hide (HA.out.trans A2); clear R2 A2)
      obtain ⟨Q, hQ⟩ : ∃ Q, P ++ [48 + (m : Int) % 10] = Q := ⟨_, rfl⟩
      have HQ : Hid (rdI u = Q) := by show _ = _; rw [HE.out, hQ]
      have hQl : Q.length = P.length + 1 := by rw [← hQ]; simp
      have HR3 : Hid (BR w2 bo2 (k + 1) c2 (Z ++ rv Q 0)) := by show BR _ _ _ _ _; rw [rv_zero, ← hQ, ← List.append_assoc]; exact HR2.out
      have HKn : Hid (k + 1 = n + Q.length) := by show _ = _; have := HK.out; omega
      clear HR2 hQ HE hq HR HA HD hm
      go_loopw [6, 7] (fun a b wr => ∃ (t i j : Nat), Hid (i = n + t) ∧ Hid (j + 1 + t = n + Q.length) ∧ i ≤ j + 1 ∧ j ≤ 200000000000000 ∧ a = .int .i64 (i : Int) ∧ b = .int .i64 (j : Int) ∧ Hid (BR wr bo2 (k + 1) c2 (Z ++ rv Q t)) ∧ Hid (Ap w wr ao bo2)) (fun _ b _ => (intOf b).toNat)
      case atStart => exact ⟨0, n, k, by show _ = _; omega, by show _ = _; have := HKn.out; omega, by have := HKn.out; omega, by omega, rfl, by go_num, HR3, HA2⟩
      case round =>
        clear HR3 HA2
        obtain ⟨t, i, j, Hi, Hj, hij, hjb, rfl, rfl, HR, HA⟩ := hrel
        by_cases hlt : i < j
        · have h2t : 2 * t + 1 < Q.length := by have := Hi.out; have := Hj.out; omega
          have HS := hide (swap_row Z Q t h2t)
          rw [HZ.out, ← Hi.out, show n + (Q.length - 1 - t) = j by have := Hj.out; omega] at HS
          obtain ⟨x, hx⟩ : ∃ x, (Z ++ rv Q t).getD i 0 = x := ⟨_, rfl⟩
          obtain ⟨y, hy⟩ : ∃ y, (Z ++ rv Q t).getD j 0 = y := ⟨_, rfl⟩
          rw [hx, hy] at HS
          have hk1 : j < k + 1 := by have := HKn.out; have := Hj.out; omega
          obtain ⟨b, rfl, ci, fi, R1, A1⟩ := HR.out.put i (by omega) y
          obtain ⟨b', hb', cj, _, _, _⟩ := HR.out.put j hk1 y
          cases hb'
          obtain ⟨b'', hb'', _, fj, R2, A2⟩ := R1.put j hk1 x
          cases hb''
          rw [hx] at ci
          rw [hy] at cj
          have HR2 : Hid (BR ((wr.setCell ⟨b, i, none⟩ (.int .u8 y)).setCell ⟨b, j, none⟩ (.int .u8 x)) (some ⟨b, 0, none⟩) (k + 1) c2 (Z ++ rv Q (t + 1))) := by show BR _ _ _ _ _; rw [← HS.out]; exact R2
          have HA2 := hide ((HA.out.trans A1).trans A2)
          clear R1 R2 A1 A2 HR HA HS hx hy
          go_wp2_with fail
          go_roundw
          case rel => exact ⟨t + 1, i + 1, j - 1, by show _ = _; have := Hi.out; omega, by show _ = _; have := Hj.out; omega, by omega, by omega, by go_num, by go_num, HR2, HA2⟩
          case measure => simp [intOf]; omega
        · have HF : Hid (Z ++ rv Q t = Z ++ nI (Lib.decDigits u)) := by show _ = _; rw [rv_end Q t (by have := Hi.out; have := Hj.out; omega), ← HQ.out, HD0.out]
          go_wp2_with fail
          go_ret
          exact ⟨_, _, _, rfl, by rw [← HF.out]; exact HR.out, HA.out⟩
    · have HE : Hid (rdI u = (P ++ [48 + (m : Int) % 10]) ++ rdI (m / 10)) := by show _ = _; rw [HD.out, rdI_ge hm9]; simp
      go_wp2_with (at_builtin; refine HR.out.app1 (48 + (m : Int) % 10) HKb.out rfl (.tmp 11) (.tmp 16) rfl rfl rfl ?_; intro bo2 c2 w2 R2 A2; have HR2 := hide R2; have HA2 := hide (HA.out.trans A2); clear R2 A2)
      go_roundw
      case rel => exact ⟨m / 10, P ++ [48 + (m : Int) % 10], bo2, k + 1, c2, by omega, by go_num, rfl, by show _ = _; rw [List.length_append]; have := HK.out; simp; omega, HE, by have := HR2.out; rw [List.append_assoc] at this; exact this, HA2⟩
      case measure => simp [intOf]; omega
end Go.Proofs.YtpolleieajgheaaDoor
