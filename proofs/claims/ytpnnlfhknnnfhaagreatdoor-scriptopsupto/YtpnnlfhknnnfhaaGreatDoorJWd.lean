/- skuWord. -/
import Derived.Test.YtpnnlfhknnnfhaaGreatDoorKSf
namespace Go.Proofs.YtpnnlfhknnnfhaaGreatDoor
open Go.RowKit T Y
variable {w w' w2 : World} {g : Nat}

theorem BR_one (w : World) (x : Int) : BR (w.alloc (.cells #[.int .u8 x] 5)) (some ⟨w.heap.size, 0, none⟩) 1 1 [x] :=
  ⟨rfl, .inr ⟨w.heap.size, 1, _, rfl, Nat.zero_le _, heap_alloc_new w _, Nat.le_refl _, by unfold maxLen; omega, rfl, rfl⟩⟩
set_option maxRecDepth 100000 in
set_option maxHeartbeats 3200000 in
theorem skuWord_any (s : ByteArray) (hs : s.size ≤ 1000000000000) (w : World) :
    Calls Tryz.prog 27 #[.string s] w fun r w' => r = .returned (.string (bs (skT s.data.toList))) ∧ Below w.heap.size w w' := by
  have HG := hide (fun w => good_any s w (by unfold maxLen; omega))
  cases hg : good s.data.toList
  · rw [hg] at HG
    have HT : Hid (skT s.data.toList = [34] ++ qbs s.data.toList ++ [34]) := by show _ = _; unfold skT; rw [hg]; rfl
    clear hg
    obtain ⟨w1, hw1⟩ : ∃ w1, w.alloc (.cells #[.int .u8 34] 5) = w1 := ⟨_, rfl⟩
    have HR1 : Hid (BR w1 (some ⟨w.heap.size, 0, none⟩) 1 1 [34]) := by show BR _ _ _ _ _; rw [← hw1]; exact BR_one w 34
    have HB1 : Hid (Below w.heap.size w w1) := by show Below _ _ _; rw [← hw1]; exact below_new _ _
    go_enter Tryz.func27, Tryz.ntmps27
    go_wp2_with (go_at_call 45; refine (HG.out _).mono ?_; rintro e w0 ⟨rfl, h0⟩; subst w0)
    go_loopw [3, 12] (fun t v wr => ∃ (k m cc : Nat) (bo : Option Addr), k ≤ s.size ∧ v = .int .i64 (k : Int) ∧ t = .slice bo m cc ∧ m ≤ 1 + 4 * k ∧ Hid (BR wr bo m cc (nI ([34] ++ qbs (s.data.toList.take k)))) ∧ Hid (Ap w1 wr (some ⟨w.heap.size, 0, none⟩) bo)) (fun _ v _ => s.size - (intOf v).toNat)
    case atStart => exact ⟨0, 1, 1, some ⟨w.heap.size, 0, none⟩, by omega, rfl, rfl, by omega, HR1, Ap.refl _ _⟩
    case round =>
      clear HR1
      obtain ⟨k, m, cc, bo, hk, rfl, rfl, hm, HR, HA⟩ := hrel
      by_cases hlt : k < s.size
      · obtain ⟨x, hx0⟩ : ∃ x, s[k] = x := ⟨_, rfl⟩
        have HS : Hid (qbs (s.data.toList.take (k + 1)) = qbs (s.data.toList.take k) ++ qb x) := by show _ = _; rw [take_snocB s k hlt, qbs_snoc, hx0]
        have HP := hide (fun w => isSelf_any x w)
        cases hq : selfB x
        · rw [hq] at HP
          have HE := hide (qb_no hq)
          clear hq
          have hx16 : x.toNat < 256 := x.toNat_lt
          go_wp2_with (go_at_call 46; refine (HP.out _).mono ?_; rintro e w3 ⟨rfl, h3⟩; subst w3)
          obtain ⟨p, hp0⟩ : ∃ p, x.toNat / 16 = p := ⟨_, rfl⟩
          obtain ⟨q, hq0⟩ : ∃ q, x.toNat % 16 = q := ⟨_, rfl⟩
          have hp : (x.toNat : Int) / 16 = (p : Int) := by omega
          have hq : (x.toNat : Int) % 16 = (q : Int) := by omega
          have hqt : Int.tmod (x.toNat : Int) 16 = (q : Int) := by rw [Int.tmod_eq_emod_of_nonneg (by omega)]; exact hq
          have hp16 : p < 16 := by omega
          have hq16 : q < 16 := by omega
          rw [hp0, hq0] at HE
          have hwp := wrap8 (p : Int) (by omega) (by omega)
          have hwq := wrap8 (q : Int) (by omega) (by omega)
          have hpi : (p : Int) < 16 := by omega
          have hqi : (q : Int) < 16 := by omega
          have hgp := hex_at p hp16
          have hgq := hex_at q hq16
          clear hp0 hq0 hx16
          refine wp_region_held_drew (S := fun _ => True) (by kernel_rfl) (trivial) (fun hHeld => ?_)
          refine wpAnyH_take (i := 0) (oi := { dst := some 24, op := Op.move (Operand.tmp 3), type := 56, pos := "words.go:76", after := #[], guard := none }) (v := ?_) rfl (by kernel_rfl) (by kernel_rfl) (by kernel_rfl) (fun _ _ _ h => h) (Or.inl ⟨by rfl, ?_⟩) (by assumption) ?_
          rotate_left
          · (intro w hSw; (try dsimp only at hSw); go_simp); first | done | with_reducible rfl
          simp only [Act.put, List.setIfInBounds_toArray, List.set_cons_zero, List.set_cons_succ]
          refine wpAnyH_take (i := 1) (oi := { dst := some 25, op := Op.move (Operand.tmp 5), type := 5, pos := "words.go:76", after := #[], guard := none }) (v := ?_) rfl (by kernel_rfl) (by kernel_rfl) (by kernel_rfl) (fun _ _ _ h => h) (Or.inl ⟨by rfl, ?_⟩) (by assumption) ?_
          rotate_left
          · (intro w hSw; (try dsimp only at hSw); go_simp); first | done | with_reducible rfl
          simp only [Act.put, List.setIfInBounds_toArray, List.set_cons_zero, List.set_cons_succ]
          refine wpAnyH_take (i := 2) (oi := { dst := some 26, op := Op.binOp BinOp.quo 5 (Operand.tmp 25) (Operand.const (Value.int IntKind.u8 16)) 5, type := 5, pos := "words.go:76", after := #[{ on := 1, ground := Ground.data }], guard := none }) (v := ?_) rfl (by kernel_rfl) (by kernel_rfl) (by kernel_rfl) (fun _ _ _ h => h) (Or.inl ⟨by rfl, ?_⟩) (by assumption) ?_
          rotate_left
          · (intro w hSw; (try dsimp only at hSw); go_simp); first | done | with_reducible rfl
          simp only [Act.put, List.setIfInBounds_toArray, List.set_cons_zero, List.set_cons_succ]
          refine wpAnyH_take (i := 3) (oi := { dst := some 27, op := Op.index 9 (Operand.const (Value.string { data := #[48, 49, 50, 51, 52, 53, 54, 55, 56, 57, 97, 98, 99, 100, 101, 102] })) (Operand.tmp 26), type := 5, pos := "words.go:76", after := #[{ on := 2, ground := Ground.data }], guard := none }) (v := ?_) rfl (by kernel_rfl) (by kernel_rfl) (by kernel_rfl) (fun _ _ _ h => h) (Or.inl ⟨by rfl, ?_⟩) (by assumption) ?_
          rotate_left
          · (intro w hSw; (try dsimp only at hSw); go_simp; (try simp only [hpi, dite_true, Int.toNat_natCast, hgp]); go_simp); first | done | with_reducible rfl
          simp only [Act.put, List.setIfInBounds_toArray, List.set_cons_zero, List.set_cons_succ]
          refine wpAnyH_take (i := 4) (oi := { dst := some 28, op := Op.move (Operand.tmp 5), type := 5, pos := "words.go:76", after := #[], guard := none }) (v := ?_) rfl (by kernel_rfl) (by kernel_rfl) (by kernel_rfl) (fun _ _ _ h => h) (Or.inl ⟨by rfl, ?_⟩) (by assumption) ?_
          rotate_left
          · (intro w hSw; (try dsimp only at hSw); go_simp); first | done | with_reducible rfl
          simp only [Act.put, List.setIfInBounds_toArray, List.set_cons_zero, List.set_cons_succ]
          refine wpAnyH_take (i := 5) (oi := { dst := some 29, op := Op.binOp BinOp.rem 5 (Operand.tmp 28) (Operand.const (Value.int IntKind.u8 16)) 5, type := 5, pos := "words.go:76", after := #[{ on := 4, ground := Ground.data }], guard := none }) (v := ?_) rfl (by kernel_rfl) (by kernel_rfl) (by kernel_rfl) (fun _ _ _ h => h) (Or.inl ⟨by rfl, ?_⟩) (by assumption) ?_
          rotate_left
          · (intro w hSw; (try dsimp only at hSw); go_simp); first | done | with_reducible rfl
          simp only [Act.put, List.setIfInBounds_toArray, List.set_cons_zero, List.set_cons_succ]
          refine wpAnyH_take (i := 6) (oi := { dst := some 30, op := Op.index 9 (Operand.const (Value.string { data := #[48, 49, 50, 51, 52, 53, 54, 55, 56, 57, 97, 98, 99, 100, 101, 102] })) (Operand.tmp 29), type := 5, pos := "words.go:76", after := #[{ on := 5, ground := Ground.data }], guard := none }) (v := ?_) rfl (by kernel_rfl) (by kernel_rfl) (by kernel_rfl) (fun _ _ _ h => h) (Or.inl ⟨by rfl, ?_⟩) (by assumption) ?_
          rotate_left
          · (intro w hSw; (try dsimp only at hSw); go_simp; (try rw [dif_pos (show 0 ≤ (q : Int) ∧ (q : Int) < 16 from ⟨by omega, hqi⟩)]); (try simp only [Int.toNat_natCast, hgq]); go_simp); first | done | with_reducible rfl
          simp only [Act.put, List.setIfInBounds_toArray, List.set_cons_zero, List.set_cons_succ]
          obtain ⟨b2, q2, w2, hrun, R2, A2⟩ := runsL (w := wr.drew) (HR.out.keep (w' := wr.drew) (fun _ _ => rfl)) (L := [92, 120, ((hx p).toNat : Int), ((hx q).toNat : Int)]) (cs := #[.int .u8 92, .int .u8 120, .int .u8 ((hx p).toNat : Int), .int .u8 ((hx q).toNat : Int)]) (m := 4) rfl rfl (by omega) 56
          refine wpAnyH_ready (rs := [7]) (by kernel_rfl) (by simp) ?_
          refine AllReadyH.cons rfl (fun K hK => ?_) ?_
          rotate_left
          · exact AllReadyH.nil
          go_simp
          refine hK.out _ _ trivial (fun hHeld => ?_)
          clear hK K
          refine wpAnyH_ready (rs := [8]) (by kernel_rfl) (by simp) ?_
          refine AllReadyH.cons rfl (fun K hK => ?_) ?_
          rotate_left
          · exact AllReadyH.nil
          refine step_appB (by rfl) (.tmp 24) (.tmp 31) (by rfl) (by rfl) (by rfl) hrun ?_
          refine hK.out _ _ trivial (fun hHeld => ?_)
          clear hK K
          have HR2 := hide R2
          have HA2 := hide ((HA.out.trans (⟨⟨rfl, rfl, rfl, Nat.le_refl _, fun _ _ _ => rfl⟩, Or.inl rfl⟩ : Ap wr wr.drew bo bo)).trans A2)
          clear R2 A2 hrun
          refine wpAnyH_take (i := 9) (oi := { dst := some 3, op := Op.assign (Operand.tmp 32), type := 56, pos := "words.go:76", after := #[{ on := 8, ground := Ground.data }, { on := 8, ground := Ground.chain }, { on := 0, ground := Ground.phase }, { on := 1, ground := Ground.phase }, { on := 2, ground := Ground.phase }, { on := 3, ground := Ground.phase }, { on := 4, ground := Ground.phase }, { on := 5, ground := Ground.phase }, { on := 6, ground := Ground.phase }, { on := 7, ground := Ground.phase }, { on := 8, ground := Ground.phase }], guard := none }) (v := ?_) rfl (by kernel_rfl) (by kernel_rfl) (by kernel_rfl) (fun _ _ _ h => h) (Or.inl ⟨by rfl, ?_⟩) (by assumption) ?_
          rotate_left
          · (intro w hSw; (try dsimp only at hSw); go_simp); first | done | with_reducible rfl
          simp only [Act.put, List.setIfInBounds_toArray]
          refine wpAnyH_done (by kernel_rfl) ?_ _
          clear hHeld
          go_wp2_with fail
          go_roundw
          case rel => exact ⟨k + 1, m + 4, q2, b2, by omega, by go_num, rfl, by omega, by show BR _ _ _ _ _; rw [HS.out, HE.out]; have e := nI_four [] (qbs (s.data.toList.take k)) (hx p) (hx q); rw [List.nil_append, List.nil_append] at e; rw [e]; exact HR2.out, HA2⟩
          case measure => simp [intOf]; omega
        · rw [hq] at HP
          have HE := hide (qb_yes hq)
          clear hq
          go_wp2_with (first | (go_at_call 46; refine (HP.out _).mono ?_; rintro e w3 ⟨rfl, h3⟩; subst w3) | (at_builtin; refine HR.out.app1 (x.toNat : Int) (by omega) rfl (.tmp 20) (.tmp 22) rfl rfl rfl ?_; intro b2 q2 w2 R2 A2; have HR2 := hide R2; have HA2 := hide (HA.out.trans A2); clear R2 A2))
          go_roundw
          case rel => exact ⟨k + 1, m + 1, q2, b2, by omega, by go_num, rfl, by omega, by show BR _ _ _ _ _; rw [HS.out, HE.out, ← List.append_assoc]; have e := nI_one [] ([34] ++ qbs (s.data.toList.take k)) x; rw [List.nil_append, List.nil_append] at e; rw [e]; exact HR2.out, HA2⟩
          case measure => simp [intOf]; omega
      · have HF : Hid (s.data.toList.take k = s.data.toList) := List.take_of_length_le (by simp; omega)
        go_wp2_with (at_builtin; refine HR.out.app1 34 (by omega) rfl (.tmp 34) (.tmp 35) rfl rfl rfl ?_; intro b2 q2 w2 R2 A2; have HA2 := hide (HA.out.trans A2); have hst := run_str R2; have e := nI_one [] ([34] ++ qbs (s.data.toList.take k)) 34; rw [List.nil_append, List.nil_append] at e; rw [show nI ([34] ++ qbs (s.data.toList.take k)) ++ [34] = nI ([34] ++ qbs (s.data.toList.take k) ++ [34]) from e.symm, str_nI, HF.out] at hst; clear R2 A2 e)
        go_ret
        refine ⟨ret_str (by rw [HT.out]; rfl), HB1.out.trans ⟨HA2.out.grown.os, HA2.out.grown.tape, HA2.out.grown.output, HA2.out.grown.size, fun j hj => HA2.out.grown.block j (Nat.lt_of_lt_of_le hj HB1.out.size) (fun e => ?_)⟩⟩
        have := Option.some.inj e
        simp only at this
        omega
  · rw [hg] at HG
    have HT : Hid (skT s.data.toList = s.data.toList) := by show _ = _; unfold skT; rw [hg]; rfl
    clear hg
    go_enter Tryz.func27, Tryz.ntmps27
    go_wp2_with (go_at_call 45; refine (HG.out _).mono ?_; rintro e w0 ⟨rfl, h0⟩; subst w0)
    go_ret
    exact ⟨ret_str (by rw [HT.out, bs_of]), Below.refl _ _⟩
end Go.Proofs.YtpnnlfhknnnfhaaGreatDoor
