/- firstByte, unquote, skuOf. -/
import Derived.Test.YtpnnlfhknnnfhaaGreatDoorKNm
import Derived.Test.YtpnnlfhknnnfhaaGreatDoorLSku
namespace Go.Proofs.YtpnnlfhknnnfhaaGreatDoor
open Go.RowKit T Y V
variable {w w' w2 : World} {g : Nat}

theorem ne_beq {c : UInt8} {n : Nat} (hn : n < 256) (h : c ≠ UInt8.ofNat n) : ((c.toNat : Int) == (n : Int)) = false := by
  rw [beq_eq_false_iff_ne]
  intro e
  apply h
  apply UInt8.toNat_inj.1
  rw [UInt8.toNat_ofNat', Nat.mod_eq_of_lt hn]
  omega
theorem eq_beq {c : UInt8} {n : Nat} (hn : n < 256) (h : c = UInt8.ofNat n) : ((c.toNat : Int) == (n : Int)) = true := by
  rw [beq_iff_eq, h, UInt8.toNat_ofNat', Nat.mod_eq_of_lt hn]
set_option maxRecDepth 100000 in
set_option maxHeartbeats 3200000 in
theorem firstByte_any (c : UInt8) (t : List UInt8) (hl : t.length ≤ 1000000000000) (w : World) : Calls Tryz.prog 64 #[.string (bs (c :: t))] w fun e w' => e = .returned (.tuple #[.int .u8 ((fbP (c :: t)).1.toNat : Int), .int .i64 ((fbP (c :: t)).2 : Int)]) ∧ Below w.heap.size w w' := by
  obtain ⟨s, hs⟩ : ∃ s, bs (c :: t) = s := ⟨_, rfl⟩
  have hsz : s.size = t.length + 1 := by rw [← hs, bs_size]; rfl
  have hz : 0 < s.size := by omega
  have hzI : (0 : Int) < s.size := by omega
  have hzb : s.size ≤ 1000000000001 := by omega
  have hget : ∀ k (h : k < s.size), s[k] = (c :: t).getD k 0 := by subst hs; exact bs_get _
  have h0 : s[0] = c := by rw [hget 0 hz]; rfl
  have HS := hide (fun w => isSelf_any c w)
  rw [hs]
  clear hs
  cases hself : selfB c with
  | true =>
    rw [hself] at HS
    have HF : Hid (fbP (c :: t) = (c, 1)) := by show _ = _; unfold fbP; rw [show (c :: t).getD 0 0 = c from rfl, if_pos hself]
    clear hself hget hsz
    rw [← h0] at HS
    have HC0 := hide h0
    clear h0
    go_enter Tryz.func64, Tryz.ntmps64
    go_wp2_with (go_at_call 46; refine (HS.out _).mono ?_; rintro e w1 ⟨rfl, h1⟩; subst w1)
    go_ret2
    exact ⟨ret_ui (by rw [HF.out, HC0.out]) (by rw [HF.out]; rfl), Below.refl _ _⟩
  | false =>
    rw [hself] at HS
    have hfb : fbP (c :: t) = if 4 ≤ t.length + 1 ∧ c = 92 ∧ (c :: t).getD 1 0 = 120 ∧ 0 ≤ hxv ((c :: t).getD 2 0) ∧ 0 ≤ hxv ((c :: t).getD 3 0) then (UInt8.ofNat (16 * (hxv ((c :: t).getD 2 0)).toNat + (hxv ((c :: t).getD 3 0)).toNat), 4) else (0, 0) := by
      unfold fbP
      rw [show (c :: t).getD 0 0 = c from rfl, if_neg (by rw [hself]; simp)]
      rfl
    clear hself
    by_cases h4 : s.size < 4
    · have h4I : (s.size : Int) < 4 := by omega
      have HF : Hid (fbP (c :: t) = (0, 0)) := by show _ = _; rw [hfb, if_neg (by omega)]
      clear hfb hget hsz h4
      rw [← h0] at HS
      have HC0 := hide h0
      clear h0
      go_enter Tryz.func64, Tryz.ntmps64
      go_wp2_with (go_at_call 46; refine (HS.out _).mono ?_; rintro e w1 ⟨rfl, h1⟩; subst w1)
      go_ret2
      exact ⟨ret_ui (by rw [HF.out]; rfl) (by rw [HF.out]; rfl), Below.refl _ _⟩
    · have h4I : ¬ (s.size : Int) < 4 := by omega
      have h1s : 1 < s.size := by omega
      have h2s : 2 < s.size := by omega
      have h3s : 3 < s.size := by omega
      have h1I : (1 : Int) < s.size := by omega
      have h2I : (2 : Int) < s.size := by omega
      have h3I : (3 : Int) < s.size := by omega
      rw [← hget 1 h1s, ← hget 2 h2s, ← hget 3 h3s] at hfb
      by_cases h92 : c = 92
      · have e92 : ((s[0].toNat : Int) == 92) = true := by rw [h0]; exact eq_beq (n := 92) (by decide) h92
        have f92 : ((s[0].toNat : Int) != 92) = false := by rw [bne, e92]; rfl
        by_cases h120 : s[1] = 120
        · have e120 : ((s[1].toNat : Int) == 120) = true := eq_beq (n := 120) (by decide) h120
          have f120 : ((s[1].toNat : Int) != 120) = false := by rw [bne, e120]; rfl
          obtain ⟨a, ha⟩ : ∃ a, s[2] = a := ⟨_, rfl⟩
          obtain ⟨b, hb⟩ : ∃ b, s[3] = b := ⟨_, rfl⟩
          rw [ha, hb] at hfb
          have hxa := hxv_lt a
          have hxb := hxv_lt b
          obtain ⟨p, hp⟩ : ∃ p, hxv a = p := ⟨_, rfl⟩
          obtain ⟨q, hq⟩ : ∃ q, hxv b = q := ⟨_, rfl⟩
          have HXA := hide (fun w => hex_index a w)
          have HXB := hide (fun w => hex_index b w)
          rw [hp, hq] at hfb
          rw [hp] at hxa HXA
          rw [hq] at hxb HXB
          have h4t : 4 ≤ t.length + 1 := by omega
          have Hse : Hid (Below w.heap.size w w.drew) := below_drew1 w
          clear hget hp hq hsz
          by_cases hpn : p < 0
          · have HF : Hid (fbP (c :: t) = (0, 0)) := by show _ = _; rw [hfb, if_neg (by omega)]
            clear hfb hxa
            rw [← h0] at HS
            have HC0 := hide h0
            clear h0
            go_enter Tryz.func64, Tryz.ntmps64
            go_wp2_with (go_at_call 46; refine (HS.out _).mono ?_; rintro e w1 ⟨rfl, h1⟩; subst w1)
            refine wp_region_held_drew (S := fun _ => True) (by kernel_rfl) (trivial) (fun hHeld => ?_)
            refine wpAnyH_take (i := 0) (oi := { dst := some 24, op := Op.move (Operand.tmp 0), type := 9, pos := "words.go:119", after := #[], guard := none }) (v := ?_) rfl (by kernel_rfl) (by kernel_rfl) (by kernel_rfl) (fun _ _ _ h => h) (Or.inl ⟨by rfl, ?_⟩) (by assumption) ?_
            rotate_left
            · (intro w hSw; (try dsimp only at hSw); go_simp); first | done | with_reducible rfl
            simp only [Act.put, List.setIfInBounds_toArray, List.set_cons_zero, List.set_cons_succ]
            refine wpAnyH_take (i := 1) (oi := { dst := some 25, op := Op.index 9 (Operand.tmp 24) (Operand.const (Value.int IntKind.i64 2)), type := 5, pos := "words.go:119", after := #[{ on := 0, ground := Ground.data }], guard := none }) (v := ?_) rfl (by kernel_rfl) (by kernel_rfl) (by kernel_rfl) (fun _ _ _ h => h) (Or.inl ⟨by rfl, ?_⟩) (by assumption) ?_
            rotate_left
            · (intro w hSw; (try dsimp only at hSw); go_simp; (try simp only [ha]); go_simp); first | done | with_reducible rfl
            simp only [Act.put, List.setIfInBounds_toArray, List.set_cons_zero, List.set_cons_succ]
            refine wpAnyH_take (i := 3) (oi := { dst := some 27, op := Op.move (Operand.tmp 0), type := 9, pos := "words.go:119", after := #[], guard := none }) (v := ?_) rfl (by kernel_rfl) (by kernel_rfl) (by kernel_rfl) (fun _ _ _ h => h) (Or.inl ⟨by rfl, ?_⟩) (by assumption) ?_
            rotate_left
            · (intro w hSw; (try dsimp only at hSw); go_simp); first | done | with_reducible rfl
            simp only [Act.put, List.setIfInBounds_toArray, List.set_cons_zero, List.set_cons_succ]
            refine wpAnyH_take (i := 4) (oi := { dst := some 28, op := Op.index 9 (Operand.tmp 27) (Operand.const (Value.int IntKind.i64 3)), type := 5, pos := "words.go:119", after := #[{ on := 3, ground := Ground.data }], guard := none }) (v := ?_) rfl (by kernel_rfl) (by kernel_rfl) (by kernel_rfl) (fun _ _ _ h => h) (Or.inl ⟨by rfl, ?_⟩) (by assumption) ?_
            rotate_left
            · (intro w hSw; (try dsimp only at hSw); go_simp; (try simp only [hb]); go_simp); first | done | with_reducible rfl
            simp only [Act.put, List.setIfInBounds_toArray, List.set_cons_zero, List.set_cons_succ]
            refine wpAnyH_ready (rs := [2]) (by kernel_rfl) (by simp) ?_
            refine AllReadyH.cons rfl (fun K hK => ?_) ?_
            rotate_left
            · exact AllReadyH.nil
            go_simp
            go_wp2_with fail
            refine (HXA.out _).mono ?_
            rintro e w5 ⟨rfl, h5⟩
            subst w5
            refine hK.out _ _ trivial (fun hHeld => ?_)
            clear hK K
            refine wpAnyH_ready (rs := [5]) (by kernel_rfl) (by simp) ?_
            refine AllReadyH.cons rfl (fun K hK => ?_) ?_
            rotate_left
            · exact AllReadyH.nil
            go_simp
            go_wp2_with fail
            refine (HXB.out _).mono ?_
            rintro e w5 ⟨rfl, h5⟩
            subst w5
            refine hK.out _ _ trivial (fun hHeld => ?_)
            clear hK K
            refine wpAnyH_take (i := 6) (oi := { dst := some 4, op := Op.assign (Operand.tmp 26), type := 3, pos := "words.go:119", after := #[{ on := 2, ground := Ground.data }, { on := 5, ground := Ground.chain }, { on := 0, ground := Ground.phase }, { on := 1, ground := Ground.phase }, { on := 2, ground := Ground.phase }, { on := 3, ground := Ground.textOnly Departure.lateStores }, { on := 4, ground := Ground.textOnly Departure.lateStores }, { on := 5, ground := Ground.textOnly Departure.lateStoresUnsure }], guard := none }) (v := ?_) rfl (by kernel_rfl) (by kernel_rfl) (by kernel_rfl) (fun _ _ _ h => h) (Or.inl ⟨by rfl, ?_⟩) (by assumption) ?_
            rotate_left
            · (intro w hSw; (try dsimp only at hSw); go_simp); first | done | with_reducible rfl
            simp only [Act.put, List.setIfInBounds_toArray, List.set_cons_zero, List.set_cons_succ]
            refine wpAnyH_take (i := 7) (oi := { dst := some 5, op := Op.assign (Operand.tmp 29), type := 3, pos := "words.go:119", after := #[{ on := 5, ground := Ground.data }, { on := 6, ground := Ground.chain }, { on := 0, ground := Ground.phase }, { on := 1, ground := Ground.phase }, { on := 2, ground := Ground.phase }, { on := 3, ground := Ground.phase }, { on := 4, ground := Ground.phase }, { on := 5, ground := Ground.phase }, { on := 6, ground := Ground.phase }], guard := none }) (v := ?_) rfl (by kernel_rfl) (by kernel_rfl) (by kernel_rfl) (fun _ _ _ h => h) (Or.inl ⟨by rfl, ?_⟩) (by assumption) ?_
            rotate_left
            · (intro w hSw; (try dsimp only at hSw); go_simp); first | done | with_reducible rfl
            simp only [Act.put, List.setIfInBounds_toArray, List.set_cons_zero, List.set_cons_succ]
            refine wpAnyH_done (by kernel_rfl) ?_ _
            clear hHeld
            go_wp2_with fail
            go_ret2
            exact ⟨ret_ui (by rw [HF.out]; rfl) (by rw [HF.out]; rfl), Hse.out⟩
          · by_cases hqn : q < 0
            · have HF : Hid (fbP (c :: t) = (0, 0)) := by show _ = _; rw [hfb, if_neg (by omega)]
              clear hfb hxa
              rw [← h0] at HS
              have HC0 := hide h0
              clear h0
              go_enter Tryz.func64, Tryz.ntmps64
              go_wp2_with (go_at_call 46; refine (HS.out _).mono ?_; rintro e w1 ⟨rfl, h1⟩; subst w1)
              refine wp_region_held_drew (S := fun _ => True) (by kernel_rfl) (trivial) (fun hHeld => ?_)
              refine wpAnyH_take (i := 0) (oi := { dst := some 24, op := Op.move (Operand.tmp 0), type := 9, pos := "words.go:119", after := #[], guard := none }) (v := ?_) rfl (by kernel_rfl) (by kernel_rfl) (by kernel_rfl) (fun _ _ _ h => h) (Or.inl ⟨by rfl, ?_⟩) (by assumption) ?_
              rotate_left
              · (intro w hSw; (try dsimp only at hSw); go_simp); first | done | with_reducible rfl
              simp only [Act.put, List.setIfInBounds_toArray, List.set_cons_zero, List.set_cons_succ]
              refine wpAnyH_take (i := 1) (oi := { dst := some 25, op := Op.index 9 (Operand.tmp 24) (Operand.const (Value.int IntKind.i64 2)), type := 5, pos := "words.go:119", after := #[{ on := 0, ground := Ground.data }], guard := none }) (v := ?_) rfl (by kernel_rfl) (by kernel_rfl) (by kernel_rfl) (fun _ _ _ h => h) (Or.inl ⟨by rfl, ?_⟩) (by assumption) ?_
              rotate_left
              · (intro w hSw; (try dsimp only at hSw); go_simp; (try simp only [ha]); go_simp); first | done | with_reducible rfl
              simp only [Act.put, List.setIfInBounds_toArray, List.set_cons_zero, List.set_cons_succ]
              refine wpAnyH_take (i := 3) (oi := { dst := some 27, op := Op.move (Operand.tmp 0), type := 9, pos := "words.go:119", after := #[], guard := none }) (v := ?_) rfl (by kernel_rfl) (by kernel_rfl) (by kernel_rfl) (fun _ _ _ h => h) (Or.inl ⟨by rfl, ?_⟩) (by assumption) ?_
              rotate_left
              · (intro w hSw; (try dsimp only at hSw); go_simp); first | done | with_reducible rfl
              simp only [Act.put, List.setIfInBounds_toArray, List.set_cons_zero, List.set_cons_succ]
              refine wpAnyH_take (i := 4) (oi := { dst := some 28, op := Op.index 9 (Operand.tmp 27) (Operand.const (Value.int IntKind.i64 3)), type := 5, pos := "words.go:119", after := #[{ on := 3, ground := Ground.data }], guard := none }) (v := ?_) rfl (by kernel_rfl) (by kernel_rfl) (by kernel_rfl) (fun _ _ _ h => h) (Or.inl ⟨by rfl, ?_⟩) (by assumption) ?_
              rotate_left
              · (intro w hSw; (try dsimp only at hSw); go_simp; (try simp only [hb]); go_simp); first | done | with_reducible rfl
              simp only [Act.put, List.setIfInBounds_toArray, List.set_cons_zero, List.set_cons_succ]
              refine wpAnyH_ready (rs := [2]) (by kernel_rfl) (by simp) ?_
              refine AllReadyH.cons rfl (fun K hK => ?_) ?_
              rotate_left
              · exact AllReadyH.nil
              go_simp
              go_wp2_with fail
              refine (HXA.out _).mono ?_
              rintro e w5 ⟨rfl, h5⟩
              subst w5
              refine hK.out _ _ trivial (fun hHeld => ?_)
              clear hK K
              refine wpAnyH_ready (rs := [5]) (by kernel_rfl) (by simp) ?_
              refine AllReadyH.cons rfl (fun K hK => ?_) ?_
              rotate_left
              · exact AllReadyH.nil
              go_simp
              go_wp2_with fail
              refine (HXB.out _).mono ?_
              rintro e w5 ⟨rfl, h5⟩
              subst w5
              refine hK.out _ _ trivial (fun hHeld => ?_)
              clear hK K
              refine wpAnyH_take (i := 6) (oi := { dst := some 4, op := Op.assign (Operand.tmp 26), type := 3, pos := "words.go:119", after := #[{ on := 2, ground := Ground.data }, { on := 5, ground := Ground.chain }, { on := 0, ground := Ground.phase }, { on := 1, ground := Ground.phase }, { on := 2, ground := Ground.phase }, { on := 3, ground := Ground.textOnly Departure.lateStores }, { on := 4, ground := Ground.textOnly Departure.lateStores }, { on := 5, ground := Ground.textOnly Departure.lateStoresUnsure }], guard := none }) (v := ?_) rfl (by kernel_rfl) (by kernel_rfl) (by kernel_rfl) (fun _ _ _ h => h) (Or.inl ⟨by rfl, ?_⟩) (by assumption) ?_
              rotate_left
              · (intro w hSw; (try dsimp only at hSw); go_simp); first | done | with_reducible rfl
              simp only [Act.put, List.setIfInBounds_toArray, List.set_cons_zero, List.set_cons_succ]
              refine wpAnyH_take (i := 7) (oi := { dst := some 5, op := Op.assign (Operand.tmp 29), type := 3, pos := "words.go:119", after := #[{ on := 5, ground := Ground.data }, { on := 6, ground := Ground.chain }, { on := 0, ground := Ground.phase }, { on := 1, ground := Ground.phase }, { on := 2, ground := Ground.phase }, { on := 3, ground := Ground.phase }, { on := 4, ground := Ground.phase }, { on := 5, ground := Ground.phase }, { on := 6, ground := Ground.phase }], guard := none }) (v := ?_) rfl (by kernel_rfl) (by kernel_rfl) (by kernel_rfl) (fun _ _ _ h => h) (Or.inl ⟨by rfl, ?_⟩) (by assumption) ?_
              rotate_left
              · (intro w hSw; (try dsimp only at hSw); go_simp); first | done | with_reducible rfl
              simp only [Act.put, List.setIfInBounds_toArray, List.set_cons_zero, List.set_cons_succ]
              refine wpAnyH_done (by kernel_rfl) ?_ _
              clear hHeld
              go_wp2_with fail
              go_ret2
              exact ⟨ret_ui (by rw [HF.out]; rfl) (by rw [HF.out]; rfl), Hse.out⟩
            · have HF : Hid (fbP (c :: t) = (UInt8.ofNat (16 * p.toNat + q.toNat), 4)) := by show _ = _; rw [hfb, if_pos ⟨h4t, h92, h120, by omega, by omega⟩]
              have HV : Hid (16 * p + q = ((UInt8.ofNat (16 * p.toNat + q.toNat)).toNat : Int)) := by
                show _ = _
                rw [UInt8.toNat_ofNat']
                omega
              clear hfb
              rw [← h0] at HS
              have HC0 := hide h0
              clear h0
              go_enter Tryz.func64, Tryz.ntmps64
              go_wp2_with (go_at_call 46; refine (HS.out _).mono ?_; rintro e w1 ⟨rfl, h1⟩; subst w1)
              refine wp_region_held_drew (S := fun _ => True) (by kernel_rfl) (trivial) (fun hHeld => ?_)
              refine wpAnyH_take (i := 0) (oi := { dst := some 24, op := Op.move (Operand.tmp 0), type := 9, pos := "words.go:119", after := #[], guard := none }) (v := ?_) rfl (by kernel_rfl) (by kernel_rfl) (by kernel_rfl) (fun _ _ _ h => h) (Or.inl ⟨by rfl, ?_⟩) (by assumption) ?_
              rotate_left
              · (intro w hSw; (try dsimp only at hSw); go_simp); first | done | with_reducible rfl
              simp only [Act.put, List.setIfInBounds_toArray, List.set_cons_zero, List.set_cons_succ]
              refine wpAnyH_take (i := 1) (oi := { dst := some 25, op := Op.index 9 (Operand.tmp 24) (Operand.const (Value.int IntKind.i64 2)), type := 5, pos := "words.go:119", after := #[{ on := 0, ground := Ground.data }], guard := none }) (v := ?_) rfl (by kernel_rfl) (by kernel_rfl) (by kernel_rfl) (fun _ _ _ h => h) (Or.inl ⟨by rfl, ?_⟩) (by assumption) ?_
              rotate_left
              · (intro w hSw; (try dsimp only at hSw); go_simp; (try simp only [ha]); go_simp); first | done | with_reducible rfl
              simp only [Act.put, List.setIfInBounds_toArray, List.set_cons_zero, List.set_cons_succ]
              refine wpAnyH_take (i := 3) (oi := { dst := some 27, op := Op.move (Operand.tmp 0), type := 9, pos := "words.go:119", after := #[], guard := none }) (v := ?_) rfl (by kernel_rfl) (by kernel_rfl) (by kernel_rfl) (fun _ _ _ h => h) (Or.inl ⟨by rfl, ?_⟩) (by assumption) ?_
              rotate_left
              · (intro w hSw; (try dsimp only at hSw); go_simp); first | done | with_reducible rfl
              simp only [Act.put, List.setIfInBounds_toArray, List.set_cons_zero, List.set_cons_succ]
              refine wpAnyH_take (i := 4) (oi := { dst := some 28, op := Op.index 9 (Operand.tmp 27) (Operand.const (Value.int IntKind.i64 3)), type := 5, pos := "words.go:119", after := #[{ on := 3, ground := Ground.data }], guard := none }) (v := ?_) rfl (by kernel_rfl) (by kernel_rfl) (by kernel_rfl) (fun _ _ _ h => h) (Or.inl ⟨by rfl, ?_⟩) (by assumption) ?_
              rotate_left
              · (intro w hSw; (try dsimp only at hSw); go_simp; (try simp only [hb]); go_simp); first | done | with_reducible rfl
              simp only [Act.put, List.setIfInBounds_toArray, List.set_cons_zero, List.set_cons_succ]
              refine wpAnyH_ready (rs := [2]) (by kernel_rfl) (by simp) ?_
              refine AllReadyH.cons rfl (fun K hK => ?_) ?_
              rotate_left
              · exact AllReadyH.nil
              go_simp
              go_wp2_with fail
              refine (HXA.out _).mono ?_
              rintro e w5 ⟨rfl, h5⟩
              subst w5
              refine hK.out _ _ trivial (fun hHeld => ?_)
              clear hK K
              refine wpAnyH_ready (rs := [5]) (by kernel_rfl) (by simp) ?_
              refine AllReadyH.cons rfl (fun K hK => ?_) ?_
              rotate_left
              · exact AllReadyH.nil
              go_simp
              go_wp2_with fail
              refine (HXB.out _).mono ?_
              rintro e w5 ⟨rfl, h5⟩
              subst w5
              refine hK.out _ _ trivial (fun hHeld => ?_)
              clear hK K
              refine wpAnyH_take (i := 6) (oi := { dst := some 4, op := Op.assign (Operand.tmp 26), type := 3, pos := "words.go:119", after := #[{ on := 2, ground := Ground.data }, { on := 5, ground := Ground.chain }, { on := 0, ground := Ground.phase }, { on := 1, ground := Ground.phase }, { on := 2, ground := Ground.phase }, { on := 3, ground := Ground.textOnly Departure.lateStores }, { on := 4, ground := Ground.textOnly Departure.lateStores }, { on := 5, ground := Ground.textOnly Departure.lateStoresUnsure }], guard := none }) (v := ?_) rfl (by kernel_rfl) (by kernel_rfl) (by kernel_rfl) (fun _ _ _ h => h) (Or.inl ⟨by rfl, ?_⟩) (by assumption) ?_
              rotate_left
              · (intro w hSw; (try dsimp only at hSw); go_simp); first | done | with_reducible rfl
              simp only [Act.put, List.setIfInBounds_toArray, List.set_cons_zero, List.set_cons_succ]
              refine wpAnyH_take (i := 7) (oi := { dst := some 5, op := Op.assign (Operand.tmp 29), type := 3, pos := "words.go:119", after := #[{ on := 5, ground := Ground.data }, { on := 6, ground := Ground.chain }, { on := 0, ground := Ground.phase }, { on := 1, ground := Ground.phase }, { on := 2, ground := Ground.phase }, { on := 3, ground := Ground.phase }, { on := 4, ground := Ground.phase }, { on := 5, ground := Ground.phase }, { on := 6, ground := Ground.phase }], guard := none }) (v := ?_) rfl (by kernel_rfl) (by kernel_rfl) (by kernel_rfl) (fun _ _ _ h => h) (Or.inl ⟨by rfl, ?_⟩) (by assumption) ?_
              rotate_left
              · (intro w hSw; (try dsimp only at hSw); go_simp); first | done | with_reducible rfl
              simp only [Act.put, List.setIfInBounds_toArray, List.set_cons_zero, List.set_cons_succ]
              refine wpAnyH_done (by kernel_rfl) ?_ _
              clear hHeld
              go_wp2_with fail
              go_ret2
              exact ⟨ret_ui (by rw [HF.out]; exact HV.out) (by rw [HF.out]; rfl), Hse.out⟩
        · have e120 : ((s[1].toNat : Int) == 120) = false := ne_beq (n := 120) (by decide) h120
          have f120 : ((s[1].toNat : Int) != 120) = true := by rw [bne, e120]; rfl
          have HF : Hid (fbP (c :: t) = (0, 0)) := by show _ = _; rw [hfb, if_neg (fun h => h120 h.2.2.1)]
          clear hfb hget hsz h120
          rw [← h0] at HS
          have HC0 := hide h0
          clear h0
          go_enter Tryz.func64, Tryz.ntmps64
          go_wp2_with (go_at_call 46; refine (HS.out _).mono ?_; rintro e w1 ⟨rfl, h1⟩; subst w1)
          go_ret2
          exact ⟨ret_ui (by rw [HF.out]; rfl) (by rw [HF.out]; rfl), Below.refl _ _⟩
      · have e92 : ((s[0].toNat : Int) == 92) = false := by rw [h0]; exact ne_beq (n := 92) (by decide) h92
        have f92 : ((s[0].toNat : Int) != 92) = true := by rw [bne, e92]; rfl
        have HF : Hid (fbP (c :: t) = (0, 0)) := by show _ = _; rw [hfb, if_neg (fun h => h92 h.2.1)]
        clear hfb hget hsz h92
        rw [← h0] at HS
        have HC0 := hide h0
        clear h0
        go_enter Tryz.func64, Tryz.ntmps64
        go_wp2_with (go_at_call 46; refine (HS.out _).mono ?_; rintro e w1 ⟨rfl, h1⟩; subst w1)
        go_ret2
        exact ⟨ret_ui (by rw [HF.out]; rfl) (by rw [HF.out]; rfl), Below.refl _ _⟩
end Go.Proofs.YtpnnlfhknnnfhaaGreatDoor
