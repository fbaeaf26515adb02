/- A SKU's word. -/
import Derived.Test.YtmemcnjabnpdmaaDoorJNm
import Derived.Test.YtmemcnjabnpdmaaDoorKSf
import Derived.OrdersHeld
namespace Go.Proofs.YtmemcnjabnpdmaaDoor
open Go.RowKit T Y
variable {w w' w2 : World} {g : Nat}

theorem plainByte_any (c : UInt8) (w : World) : Calls Tryd.prog 60 #[.int .u8 (c.toNat : Int)] w fun e w' => e = .returned (.bool (selfB c)) ∧ w' = w := by
  have hM : selfB c = (decide (33 ≤ (c.toNat : Int)) && decide ((c.toNat : Int) ≤ 126) && ((c.toNat : Int) != 34) && ((c.toNat : Int) != 92)) := rfl
  by_cases h1 : 33 ≤ (c.toNat : Int)
  · by_cases h2 : (c.toNat : Int) ≤ 126
    · rw [decide_eq_true h1, decide_eq_true h2, Bool.true_and, Bool.true_and] at hM
      cases h3 : ((c.toNat : Int) != 34)
      · rw [h3, Bool.false_and] at hM
        have HM := hide hM
        clear hM
        go_enter Tryd.func60, Tryd.ntmps60
        go_wp2
        go_ret
        exact ⟨ret_bool HM.out.symm, rfl⟩
      · rw [h3, Bool.true_and] at hM
        have HM := hide hM
        clear hM
        go_enter Tryd.func60, Tryd.ntmps60
        go_wp2
        go_ret
        exact ⟨ret_bool HM.out.symm, rfl⟩
    · rw [decide_eq_false h2, Bool.and_false, Bool.false_and, Bool.false_and] at hM
      have HM := hide hM
      clear hM
      go_enter Tryd.func60, Tryd.ntmps60
      go_wp2
      go_ret
      exact ⟨ret_bool HM.out.symm, rfl⟩
  · rw [decide_eq_false h1, Bool.false_and, Bool.false_and, Bool.false_and] at hM
    have HM := hide hM
    clear hM
    go_enter Tryd.func60, Tryd.ntmps60
    go_wp2
    go_ret
    exact ⟨ret_bool HM.out.symm, rfl⟩
set_option maxRecDepth 100000 in
set_option maxHeartbeats 3200000 in
theorem rsku_any (ao : Option Addr) (n c : Nat) (Z : List Int) (s : ByteArray) (hs : s.size ≤ 1000000000000) (w : World) (h : BR w ao n c Z) (hn : n ≤ 100000000000000) :
    Calls Tryd.prog 42 #[.slice ao n c, .string s] w fun r w' => ∃ bo m cc, r = .returned (.slice bo m cc) ∧ BR w' bo m cc (Z ++ nI (skT s.data.toList)) ∧ Ap w w' ao bo := by
  have HN0 := hide h
  have HG := hide (fun w => refGood_any s w (by unfold maxLen; omega))
  clear h
  cases hg : good s.data.toList
  · rw [hg] at HG
    have HT : Hid (skT s.data.toList = [34] ++ qbs s.data.toList ++ [34]) := by show _ = _; unfold skT; rw [hg]; rfl
    clear hg
    go_enter Tryd.func42, Tryd.ntmps42
    go_wp2_with (first | (go_at_call 59; refine (HG.out _).mono ?_; rintro e w0 ⟨rfl, h0⟩; subst w0) | (at_builtin; refine HN0.out.app1 34 (by omega) rfl (.tmp 22) (.tmp 23) rfl rfl rfl ?_; intro b1 q1 w1 R1 A1; have HR1 := hide R1; have HA1 := hide A1; clear R1 A1))
    go_loopw [0, 6] (fun t v wr => ∃ (k m cc : Nat) (bo : Option Addr), k ≤ s.size ∧ v = .int .i64 (k : Int) ∧ t = .slice bo m cc ∧ m ≤ n + 1 + 4 * k ∧ Hid (BR wr bo m cc (Z ++ nI ([34] ++ qbs (s.data.toList.take k)))) ∧ Hid (Ap w wr ao bo)) (fun _ v _ => s.size - (intOf v).toNat)
    case atStart => exact ⟨0, n + 1, q1, b1, by omega, rfl, rfl, by omega, by simpa [nI, qbs] using HR1, HA1⟩
    case round =>
      clear HR1 HA1
      obtain ⟨k, m, cc, bo, hk, rfl, rfl, hm, HR, HA⟩ := hrel
      by_cases hlt : k < s.size
      · obtain ⟨x, hx0⟩ : ∃ x, s[k] = x := ⟨_, rfl⟩
        have HS : Hid (qbs (s.data.toList.take (k + 1)) = qbs (s.data.toList.take k) ++ qb x) := by show _ = _; rw [take_snocB s k hlt, qbs_snoc, hx0]
        have HP := hide (fun w => plainByte_any x w)
        cases hq : selfB x
        · rw [hq] at HP
          have HE := hide (qb_no hq)
          clear hq
          have hx16 : x.toNat < 256 := x.toNat_lt
          go_wp2_with (go_at_call 60; refine (HP.out _).mono ?_; rintro e w3 ⟨rfl, h3⟩; subst w3)
          obtain ⟨p, hp0⟩ : ∃ p, x.toNat / 16 = p := ⟨_, rfl⟩
          obtain ⟨q, hq0⟩ : ∃ q, x.toNat % 16 = q := ⟨_, rfl⟩
          have hp : (x.toNat : Int) / 16 = (p : Int) := by omega
          have hq : (x.toNat : Int) % 16 = (q : Int) := by omega
          have hqt : Int.tmod (x.toNat : Int) 16 = (q : Int) := by rw [Int.tmod_eq_emod_of_nonneg (by omega)]; exact hq
          have hp16 : p < 16 := by omega
          have hq16 : q < 16 := by omega
          rw [hp0, hq0] at HE
          have hwp := wrap8 (p : Int) (by omega) (by omega)
          have hwq := wrap8 (q : Int) (by omega) (by omega)
          have hpi : (p : Int) < 16 := by omega
          have hqi : (q : Int) < 16 := by omega
          have hgp := hex_at p hp16
          have hgq := hex_at q hq16
          clear hp0 hq0 hx16
          refine wp_region_held_drew (S := fun _ => True) (by kernel_rfl) (trivial) (fun hHeld => ?_)
          refine wpAnyH_take (i := 0) (oi := { dst := some 41, op := Op.move (Operand.tmp 0), type := 56, pos := "ref.go:126", after := #[], guard := none }) (v := ?_) rfl (by kernel_rfl) (by kernel_rfl) (by kernel_rfl) (fun _ _ _ h => h) (Or.inl ⟨by rfl, ?_⟩) (by assumption) ?_
          rotate_left
          · (intro w hSw; (try dsimp only at hSw); go_simp); first | done | with_reducible rfl
          simp only [Act.put, List.setIfInBounds_toArray, List.set_cons_zero, List.set_cons_succ]
          refine wpAnyH_take (i := 1) (oi := { dst := some 42, op := Op.move (Operand.tmp 1), type := 9, pos := "ref.go:126", after := #[], guard := none }) (v := ?_) rfl (by kernel_rfl) (by kernel_rfl) (by kernel_rfl) (fun _ _ _ h => h) (Or.inl ⟨by rfl, ?_⟩) (by assumption) ?_
          rotate_left
          · (intro w hSw; (try dsimp only at hSw); go_simp); first | done | with_reducible rfl
          simp only [Act.put, List.setIfInBounds_toArray, List.set_cons_zero, List.set_cons_succ]
          refine wpAnyH_take (i := 2) (oi := { dst := some 43, op := Op.move (Operand.tmp 6), type := 3, pos := "ref.go:126", after := #[], guard := none }) (v := ?_) rfl (by kernel_rfl) (by kernel_rfl) (by kernel_rfl) (fun _ _ _ h => h) (Or.inl ⟨by rfl, ?_⟩) (by assumption) ?_
          rotate_left
          · (intro w hSw; (try dsimp only at hSw); go_simp); first | done | with_reducible rfl
          simp only [Act.put, List.setIfInBounds_toArray, List.set_cons_zero, List.set_cons_succ]
          refine wpAnyH_take (i := 3) (oi := { dst := some 44, op := Op.index 9 (Operand.tmp 42) (Operand.tmp 43), type := 5, pos := "ref.go:126", after := #[{ on := 1, ground := Ground.data }, { on := 2, ground := Ground.data }], guard := none }) (v := ?_) rfl (by kernel_rfl) (by kernel_rfl) (by kernel_rfl) (fun _ _ _ h => h) (Or.inl ⟨by rfl, ?_⟩) (by assumption) ?_
          rotate_left
          · (intro w hSw; (try dsimp only at hSw); go_simp); first | done | with_reducible rfl
          simp only [Act.put, List.setIfInBounds_toArray, List.set_cons_zero, List.set_cons_succ]
          refine wpAnyH_take (i := 4) (oi := { dst := some 45, op := Op.binOp BinOp.quo 5 (Operand.tmp 44) (Operand.const (Value.int IntKind.u8 16)) 5, type := 5, pos := "ref.go:126", after := #[{ on := 3, ground := Ground.data }], guard := none }) (v := ?_) rfl (by kernel_rfl) (by kernel_rfl) (by kernel_rfl) (fun _ _ _ h => h) (Or.inl ⟨by rfl, ?_⟩) (by assumption) ?_
          rotate_left
          · (intro w hSw; (try dsimp only at hSw); go_simp); first | done | with_reducible rfl
          simp only [Act.put, List.setIfInBounds_toArray, List.set_cons_zero, List.set_cons_succ]
          refine wpAnyH_take (i := 5) (oi := { dst := some 46, op := Op.index 9 (Operand.const (Value.string { data := #[48, 49, 50, 51, 52, 53, 54, 55, 56, 57, 97, 98, 99, 100, 101, 102] })) (Operand.tmp 45), type := 5, pos := "ref.go:126", after := #[{ on := 4, ground := Ground.data }], guard := none }) (v := ?_) rfl (by kernel_rfl) (by kernel_rfl) (by kernel_rfl) (fun _ _ _ h => h) (Or.inl ⟨by rfl, ?_⟩) (by assumption) ?_
          rotate_left
          · (intro w hSw; (try dsimp only at hSw); go_simp; (try simp only [hpi, dite_true, Int.toNat_natCast, hgp]); go_simp); first | done | with_reducible rfl
          simp only [Act.put, List.setIfInBounds_toArray, List.set_cons_zero, List.set_cons_succ]
          refine wpAnyH_take (i := 6) (oi := { dst := some 47, op := Op.move (Operand.tmp 1), type := 9, pos := "ref.go:126", after := #[], guard := none }) (v := ?_) rfl (by kernel_rfl) (by kernel_rfl) (by kernel_rfl) (fun _ _ _ h => h) (Or.inl ⟨by rfl, ?_⟩) (by assumption) ?_
          rotate_left
          · (intro w hSw; (try dsimp only at hSw); go_simp); first | done | with_reducible rfl
          simp only [Act.put, List.setIfInBounds_toArray, List.set_cons_zero, List.set_cons_succ]
          refine wpAnyH_take (i := 7) (oi := { dst := some 48, op := Op.move (Operand.tmp 6), type := 3, pos := "ref.go:126", after := #[], guard := none }) (v := ?_) rfl (by kernel_rfl) (by kernel_rfl) (by kernel_rfl) (fun _ _ _ h => h) (Or.inl ⟨by rfl, ?_⟩) (by assumption) ?_
          rotate_left
          · (intro w hSw; (try dsimp only at hSw); go_simp); first | done | with_reducible rfl
          simp only [Act.put, List.setIfInBounds_toArray, List.set_cons_zero, List.set_cons_succ]
          refine wpAnyH_take (i := 8) (oi := { dst := some 49, op := Op.index 9 (Operand.tmp 47) (Operand.tmp 48), type := 5, pos := "ref.go:126", after := #[{ on := 6, ground := Ground.data }, { on := 7, ground := Ground.data }], guard := none }) (v := ?_) rfl (by kernel_rfl) (by kernel_rfl) (by kernel_rfl) (fun _ _ _ h => h) (Or.inl ⟨by rfl, ?_⟩) (by assumption) ?_
          rotate_left
          · (intro w hSw; (try dsimp only at hSw); go_simp); first | done | with_reducible rfl
          simp only [Act.put, List.setIfInBounds_toArray, List.set_cons_zero, List.set_cons_succ]
          refine wpAnyH_take (i := 9) (oi := { dst := some 50, op := Op.binOp BinOp.rem 5 (Operand.tmp 49) (Operand.const (Value.int IntKind.u8 16)) 5, type := 5, pos := "ref.go:126", after := #[{ on := 8, ground := Ground.data }], guard := none }) (v := ?_) rfl (by kernel_rfl) (by kernel_rfl) (by kernel_rfl) (fun _ _ _ h => h) (Or.inl ⟨by rfl, ?_⟩) (by assumption) ?_
          rotate_left
          · (intro w hSw; (try dsimp only at hSw); go_simp); first | done | with_reducible rfl
          simp only [Act.put, List.setIfInBounds_toArray, List.set_cons_zero, List.set_cons_succ]
          refine wpAnyH_take (i := 10) (oi := { dst := some 51, op := Op.index 9 (Operand.const (Value.string { data := #[48, 49, 50, 51, 52, 53, 54, 55, 56, 57, 97, 98, 99, 100, 101, 102] })) (Operand.tmp 50), type := 5, pos := "ref.go:126", after := #[{ on := 9, ground := Ground.data }], guard := none }) (v := ?_) rfl (by kernel_rfl) (by kernel_rfl) (by kernel_rfl) (fun _ _ _ h => h) (Or.inl ⟨by rfl, ?_⟩) (by assumption) ?_
          rotate_left
          · (intro w hSw; (try dsimp only at hSw); go_simp; (try rw [dif_pos (show 0 ≤ (q : Int) ∧ (q : Int) < 16 from ⟨by omega, hqi⟩)]); (try simp only [Int.toNat_natCast, hgq]); go_simp); first | done | with_reducible rfl
          simp only [Act.put, List.setIfInBounds_toArray, List.set_cons_zero, List.set_cons_succ]
          obtain ⟨b2, q2, w2, hrun, R2, A2⟩ := runsL (w := wr.drew) (HR.out.keep (w' := wr.drew) (fun _ _ => rfl)) (L := [92, 120, ((hx p).toNat : Int), ((hx q).toNat : Int)]) (cs := #[.int .u8 92, .int .u8 120, .int .u8 ((hx p).toNat : Int), .int .u8 ((hx q).toNat : Int)]) (m := 4) rfl rfl (by omega) 56
          refine wpAnyH_ready (rs := [11]) (by kernel_rfl) (by simp) ?_
          refine AllReadyH.cons rfl (fun K hK => ?_) ?_
          rotate_left
          · exact AllReadyH.nil
          go_simp
          refine hK.out _ _ trivial (fun hHeld => ?_)
          clear hK K
          refine wpAnyH_ready (rs := [12]) (by kernel_rfl) (by simp) ?_
          refine AllReadyH.cons rfl (fun K hK => ?_) ?_
          rotate_left
          · exact AllReadyH.nil
          refine step_appB (by rfl) (.tmp 41) (.tmp 52) (by rfl) (by rfl) (by rfl) hrun ?_
          refine hK.out _ _ trivial (fun hHeld => ?_)
          clear hK K
          have HR2 := hide R2
          have HA2 := hide ((HA.out.trans (⟨⟨rfl, rfl, rfl, Nat.le_refl _, fun _ _ _ => rfl⟩, Or.inl rfl⟩ : Ap wr wr.drew bo bo)).trans A2)
          clear R2 A2 hrun
          refine wpAnyH_take (i := 13) (oi := { dst := some 0, op := Op.assign (Operand.tmp 53), type := 56, pos := "ref.go:126", after := #[{ on := 12, ground := Ground.data }, { on := 12, ground := Ground.chain }, { on := 0, ground := Ground.phase }, { on := 1, ground := Ground.phase }, { on := 2, ground := Ground.phase }, { on := 3, ground := Ground.phase }, { on := 4, ground := Ground.phase }, { on := 5, ground := Ground.phase }, { on := 6, ground := Ground.phase }, { on := 7, ground := Ground.phase }, { on := 8, ground := Ground.phase }, { on := 9, ground := Ground.phase }, { on := 10, ground := Ground.phase }, { on := 11, ground := Ground.phase }, { on := 12, ground := Ground.phase }], guard := none }) (v := ?_) rfl (by kernel_rfl) (by kernel_rfl) (by kernel_rfl) (fun _ _ _ h => h) (Or.inl ⟨by rfl, ?_⟩) (by assumption) ?_
          rotate_left
          · (intro w hSw; (try dsimp only at hSw); go_simp); first | done | with_reducible rfl
          simp only [Act.put, List.setIfInBounds_toArray]
          refine wpAnyH_done (by kernel_rfl) ?_ _
          clear hHeld
          go_wp2_with fail
          go_roundw
          case rel => exact ⟨k + 1, m + 4, q2, b2, by omega, by go_num, rfl, by omega, by show BR _ _ _ _ _; rw [HS.out, HE.out, nI_four]; exact HR2.out, HA2⟩
          case measure => simp [intOf]; omega
        · rw [hq] at HP
          have HE := hide (qb_yes hq)
          clear hq
          go_wp2_with (first | (go_at_call 60; refine (HP.out _).mono ?_; rintro e w3 ⟨rfl, h3⟩; subst w3) | (at_builtin; refine HR.out.app1 (x.toNat : Int) (by omega) rfl (.tmp 35) (.tmp 39) rfl rfl rfl ?_; intro b2 q2 w2 R2 A2; have HR2 := hide R2; have HA2 := hide (HA.out.trans A2); clear R2 A2))
          go_roundw
          case rel => exact ⟨k + 1, m + 1, q2, b2, by omega, by go_num, rfl, by omega, by show BR _ _ _ _ _; rw [HS.out, HE.out, ← List.append_assoc, nI_one]; exact HR2.out, HA2⟩
          case measure => simp [intOf]; omega
      · have HF : Hid (s.data.toList.take k = s.data.toList) := List.take_of_length_le (by simp; omega)
        go_wp2_with (at_builtin; refine HR.out.app1 34 (by omega) rfl (.tmp 54) (.tmp 55) rfl rfl rfl ?_; intro b2 q2 w2 R2 A2; have HR2 := hide R2; have HA2 := hide (HA.out.trans A2); clear R2 A2)
        go_ret
        exact ⟨_, _, _, rfl, by have := HR2.out; rw [HF.out] at this; rw [HT.out, nI_one]; exact this, HA2.out⟩
  · rw [hg] at HG
    have HT : Hid (skT s.data.toList = s.data.toList) := by show _ = _; unfold skT; rw [hg]; rfl
    clear hg
    go_enter Tryd.func42, Tryd.ntmps42
    go_wp2_with (go_at_call 59; refine (HG.out _).mono ?_; rintro e w0 ⟨rfl, h0⟩; subst w0)
    go_loopw [0, 5] (fun t v wr => ∃ (k m cc : Nat) (bo : Option Addr), k ≤ s.size ∧ v = .int .i64 (k : Int) ∧ t = .slice bo m cc ∧ m = n + k ∧ Hid (BR wr bo m cc (Z ++ nI (s.data.toList.take k))) ∧ Hid (Ap w wr ao bo)) (fun _ v _ => s.size - (intOf v).toNat)
    case atStart => exact ⟨0, n, c, ao, by omega, rfl, rfl, by omega, by simpa [nI] using HN0, Ap.refl _ _⟩
    case round =>
      obtain ⟨k, m, cc, bo, hk, rfl, rfl, hm, HR, HA⟩ := hrel
      have Hm := hide hm
      have hmb : m + 1 ≤ 140737488355328 := by omega
      clear hm
      by_cases hlt : k < s.size
      · obtain ⟨x, hx0⟩ : ∃ x, s[k] = x := ⟨_, rfl⟩
        have HS : Hid (s.data.toList.take (k + 1) = s.data.toList.take k ++ [x]) := by show _ = _; rw [take_snocB s k hlt, hx0]
        go_wp2_with (at_builtin; refine HR.out.app1 (x.toNat : Int) hmb rfl (.tmp 15) (.tmp 19) rfl rfl rfl ?_; intro b2 q2 w2 R2 A2; have HR2 := hide R2; have HA2 := hide (HA.out.trans A2); clear R2 A2)
        go_roundw
        case rel => exact ⟨k + 1, m + 1, q2, b2, by omega, by go_num, rfl, by have := Hm.out; omega, by show BR _ _ _ _ _; rw [HS.out, nI_one]; exact HR2.out, HA2⟩
        case measure => simp [intOf]; omega
      · have HF : Hid (s.data.toList.take k = s.data.toList) := List.take_of_length_le (by simp; omega)
        go_wp2_with fail
        go_ret
        exact ⟨_, _, _, rfl, by have := HR.out; rw [HF.out] at this; rw [HT.out]; exact this, HA.out⟩
end Go.Proofs.YtmemcnjabnpdmaaDoor
