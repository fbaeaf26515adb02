/- SettleReachGrows: the law. -/
import Derived.Test.YtckehmhieigglaaEHs
namespace Go.Proofs.Ytckehmhieigglaa
open Go.RowKit
variable {w w' w2 w0 wr : World} {g n : Nat}

theorem IR.lit (w : World) : IR (w.alloc (.cells #[] 3)) (some ⟨w.heap.size, 0, none⟩) 0 0 [] :=
  ⟨by simp [ics], .inr ⟨w.heap.size, 0, _, rfl, Nat.zero_le _, heap_alloc_new w _, Nat.le_refl _, by unfold maxLen; omega, by simp, by simp [ics]⟩⟩
/-- a row of numbers that grows -/
structure GrI (w wr : World) (ao : Option Addr) (m c : Nat) (L : List Int) : Prop where
  r : IR wr ao m c L
  a : NewB w wr ao
theorem GrI.lit (w : World) : GrI w (w.alloc (.cells #[] 3)) (some ⟨w.heap.size, 0, none⟩) 0 0 [] := ⟨IR.lit w, below_new w _, fun _ hk => Nat.le_of_eq (Option.some.inj hk)⟩
theorem GrI.app {ao bo : Option Addr} {m c c2 k : Nat} {L M : List Int} (h : GrI w wr ao m c L) (hr : IR w2 bo (m + k) c2 (L ++ M)) (ha : Ap wr w2 ao bo) : GrI w w2 bo (m + k) c2 (L ++ M) := ⟨hr, h.a.ap ha⟩
theorem rl_next (f : Nat → Bool) (k : Nat) (h : f k = true) : rl f (k + 1) = rl f k ++ [(k : Int)] := by rw [rl, if_pos h]
theorem rl_stay (f : Nat → Bool) (k : Nat) (h : f k = false) : rl f (k + 1) = rl f k := by rw [rl, if_neg (by rw [h]; simp)]
attribute [local go_sem ↓] ldP_eq stP_eq
set_option maxRecDepth 100000 in
set_option maxHeartbeats 1600000 in
theorem settleReachGrows_any (r : Int) (ao : Option Addr) (n c : Nat) (L : List Pr) (f t : Int) (w : World) (S : PSrc w ao n c L) (hn : n ≤ 8796093021952) : Calls Try.prog 6 #[.int .i64 r, .slice ao n c, .agg #[.int .i64 f, .int .i64 t]] w fun e w' => e = .returned (.bool true) ∧ Below w.heap.size w w' := by
  have H4 : Hid (∀ w, Calls Try.prog 15 #[.int .i64 4, .slice none 0 0] w fun e w' => ∃ g F, e = .returned (.slice (some ⟨g, 0, none⟩) 4 4) ∧ Mat w w' g 4 F (fun i => rl (knw 4 [] i) 4)) := fun w => reach_any 4 none 0 0 [] w (PSrc.empty w) (by omega)
  have H1 : Hid (∀ w, Calls Try.prog 15 #[.int .i64 0, .slice none 0 0] w fun e w' => ∃ g F, e = .returned (.slice (some ⟨g, 0, none⟩) 1 1) ∧ Mat w w' g 1 F (fun i => rl (knw 1 [] i) 1)) := fun w => reach_any 0 none 0 0 [] w (PSrc.empty w) (by omega)
  obtain ⟨m0, hm0⟩ : ∃ m0, min 16 r = m0 := ⟨_, rfl⟩
  have hmn : ∀ (ts : Array TypeId) (t : TypeId) (w : World), (Builtin.min_ ts t #[.int .i64 16, .int .i64 r]).run Try.prog w = .ok (.int .i64 m0) w := fun ts t w => by rw [← hm0]; exact Lib.run_min_ints w ts t .i64 .i64 16 r
  have hmx : ∀ (ts : Array TypeId) (t : TypeId) (w : World), (Builtin.max_ ts t #[.int .i64 1, .int .i64 m0]).run Try.prog w = .ok (.int .i64 (clN r : Int)) w := fun ts t w => by rw [← clN_mm r m0 hm0]; exact Lib.run_max_ints w ts t .i64 .i64 1 m0
  have HR := hide (reach_any r)
  have hk := (clN_le r).2
  obtain ⟨k, hkk⟩ : ∃ k, clN r = k := ⟨_, rfl⟩
  rw [hkk] at HR hk hmx
  clear hm0 hkk
  have HPa : Hid (PBox (w.alloc (.cells #[.int .i64 f, .int .i64 t] 28)) w.heap.size ⟨f, t⟩) := PBox_new w ⟨f, t⟩
  have HBa := hide (below_new w (.cells #[.int .i64 f, .int .i64 t] 28))
  have HSa := hide (S.below (below_new w (.cells #[.int .i64 f, .int .i64 t] 28)))
  obtain ⟨gp, hgp⟩ : ∃ gp, w.heap.size = gp := ⟨_, rfl⟩
  rw [hgp] at HPa
  clear S
  go_enter Try.func6, Try.ntmps6
  go_wp2_with (first
    | (go_at_call_of 15 (Value.int .i64 4); refine (H4.out _).mono ?_; rintro e w1 ⟨g1, F1, rfl, M1⟩; have HB1 := hide (HBa.out.trans (M1.bel.mono HBa.out.size)); have HS1 := hide (HSa.out.below M1.bel); have HP1 := hide (HPa.out.below M1.bel); clear M1 H4 HBa HSa HPa)
    | (go_at_call_of 15 (Value.int .i64 0); refine (H1.out _).mono ?_; rintro e w2 ⟨g2, F2, rfl, M2⟩; have HB2 := hide (HB1.out.trans (M2.bel.mono HB1.out.size)); have HS2 := hide (HS1.out.below M2.bel); have HP2 := hide (HP1.out.below M2.bel); clear M2 H1 HB1 HS1 HP1)
    | (go_at_call 15; refine (HR.out _ _ _ _ _ HR3.out.src (by omega)).mono ?_; rintro e w4 ⟨g4, F4, rfl, M4⟩; have HM4 := hide M4.src; have HB4 := hide (HB3.out.trans (M4.bel.mono HB3.out.size)); have HS4 := hide (HS3.out.below M4.bel); have HP4 := hide (HP3.out.below M4.bel); clear M4 HB3 HS3 HP3 HR3)
    | (go_at_call 16; refine (copyPairs_any _ _ _ _ _ HS2.out (by omega)).mono ?_; rintro e w3 ⟨b3, c3, rfl, R3, N3⟩; have HR3 := hide R3; have HB3 := hide (HB2.out.trans (N3.1.mono HB2.out.size)); have HS3 := hide (HS2.out.below N3.1); have HP3 := hide (HP2.out.below N3.1); clear R3 N3 HB2 HS2 HP2))
  have HB5 := hide (HB4.out.trans ((below_drew1 w4).mono HB4.out.size))
  have HP5 := hide (HP4.out.below (below_drew1 w4))
  have HS5 := hide (HS4.out.below (below_drew1 w4))
  have HM5 := hide (HM4.out.below (below_drew1 w4))
  clear HB4 HP4 HS4 HM4 hmn hmx
  refine wp_region_held_drew (S := fun W => PBox W gp ⟨f, t⟩) (by kernel_rfl) (HP5.out) (fun hHeld => ?_)
  refine wpAnyH_take (i := 0) (oi := { dst := some 29, op := Op.move (Operand.tmp 0), type := 3, pos := "law.go:160", after := #[], guard := none }) (v := ?_) rfl (by kernel_rfl) (by kernel_rfl) (by kernel_rfl) (fun _ _ _ h => h) (Or.inl ⟨by rfl, ?_⟩) (by assumption) ?_
  rotate_left
  · (intro w hSw; (try dsimp only at hSw); go_simp); first | done | with_reducible rfl
  simp only [Act.put, List.setIfInBounds_toArray, List.set_cons_zero, List.set_cons_succ]
  refine wpAnyH_take (i := 1) (oi := { dst := some 30, op := Op.move (Operand.tmp 1), type := 22, pos := "law.go:160", after := #[], guard := none }) (v := ?_) rfl (by kernel_rfl) (by kernel_rfl) (by kernel_rfl) (fun _ _ _ h => h) (Or.inl ⟨by rfl, ?_⟩) (by assumption) ?_
  rotate_left
  · (intro w hSw; (try dsimp only at hSw); go_simp); first | done | with_reducible rfl
  simp only [Act.put, List.setIfInBounds_toArray, List.set_cons_zero, List.set_cons_succ]
  refine wpAnyH_take (i := 3) (oi := { dst := some 32, op := Op.load 28 (Operand.tmp 5), type := 28, pos := "law.go:160", after := #[], guard := none }) (v := .agg #[.int .i64 f, .int .i64 t]) rfl (by kernel_rfl) (by kernel_rfl) (by kernel_rfl) (fun _ _ _ h => h) (Or.inl ⟨by rfl, ?_⟩) (by assumption) ?_
  skip
  · (intro w hSw; (try dsimp only at hSw); have hl : (ldP (.pointer (some ⟨gp, 0, none⟩))).run Try.prog w = .ok (.agg #[.int .i64 f, .int .i64 t]) w := run_ldP hSw; go_simp); first | done | with_reducible rfl
  simp only [Act.put, List.setIfInBounds_toArray, List.set_cons_zero, List.set_cons_succ]
  refine wpAnyH_ready (rs := [2, 4]) (by kernel_rfl) (by simp) ?_
  refine AllReadyH.cons rfl (fun K hK => ?_) (AllReadyH.cons rfl (fun K hK => ?_) AllReadyH.nil)
  · go_simp
    go_wp2_with fail
    refine (copyPairs_any _ _ _ _ _ HS5.out (by omega)).mono ?_
    rintro e w6 ⟨b6, c6, rfl, R6, N6⟩
    have HR6 := hide R6
    have HP6 := hide (HP5.out.below N6.1)
    have HN6 := hide N6
    skip
    clear R6 N6
    refine hK.out _ _ HP6.out (fun hHeld => ?_)
    clear hK K
    have HL7 := hide (PSrc.lit1 w6 f t)
    have HR7 := hide (HR6.out.below (below_new w6 (.cells #[.int .i64 f, .int .i64 t] 28)))
    have HP7 := hide (HP6.out.below (below_new w6 (.cells #[.int .i64 f, .int .i64 t] 28)))
    have HN7 := hide (HN6.out.below (below_new w6 (.cells #[.int .i64 f, .int .i64 t] 28)))
    refine wpAnyH_ready (rs := [4]) (by kernel_rfl) (by simp) ?_
    refine AllReadyH.cons rfl (fun K hK => ?_) ?_
    rotate_left
    · exact AllReadyH.nil
    go_simp
    refine hK.out _ _ HP7.out (fun hHeld => ?_)
    clear hK K
    obtain ⟨b8, c8, w8, hrun, R8, A8⟩ := HR7.out.runsS HL7.out (by omega) (by simp) 22
    have HR8 := hide R8
    have N8 := HN7.out.ap A8
    have HB8 := hide (HB5.out.trans (N8.1.mono HB5.out.size))
    have HP8 := hide (HP5.out.below N8.1)
    have HM8 := hide (HM5.out.below N8.1)
    clear R8 A8 N8
    refine wpAnyH_ready (rs := [5]) (by kernel_rfl) (by simp) ?_
    refine AllReadyH.cons rfl (fun K hK => ?_) ?_
    rotate_left
    · exact AllReadyH.nil
    refine step_appP (by rfl) (.tmp 31) (.tmp 33) (by rfl) (by rfl) (by rfl) hrun ?_
    simp only [Act.put, List.setIfInBounds_toArray]
    refine hK.out _ _ HP8.out (fun hHeld => ?_)
    clear hK K
    refine wpAnyH_ready (rs := [6]) (by kernel_rfl) (by simp) ?_
    refine AllReadyH.cons rfl (fun K hK => ?_) ?_
    rotate_left
    · exact AllReadyH.nil
    go_simp
    go_wp2_with fail
    refine (HR.out _ _ _ _ _ HR8.out.src (by omega)).mono ?_
    rintro e w9 ⟨g9, F9, rfl, M9⟩
    rw [knw_snoc] at M9
    have HMi := hide M9.src
    have HB9 := hide (HB8.out.trans (M9.bel.mono HB8.out.size))
    have HP9 := hide (HP8.out.below M9.bel)
    have HMw := hide (HM8.out.below M9.bel)
    clear M9
    refine hK.out _ _ HP9.out (fun hHeld => ?_)
    clear hK K
    refine wpAnyH_take (i := 7) (oi := { dst := some 9, op := Op.assign (Operand.tmp 35), type := 35, pos := "law.go:160", after := #[{ on := 6, ground := Ground.data }, { on := 6, ground := Ground.chain }, { on := 0, ground := Ground.phase }, { on := 1, ground := Ground.phase }, { on := 2, ground := Ground.phase }, { on := 3, ground := Ground.phase }, { on := 4, ground := Ground.phase }, { on := 5, ground := Ground.phase }, { on := 6, ground := Ground.phase }], guard := none }) (v := ?_) rfl (by kernel_rfl) (by kernel_rfl) (by kernel_rfl) (fun _ _ _ h => h) (Or.inl ⟨by rfl, ?_⟩) (by assumption) ?_
    rotate_left
    · (intro w hSw; (try dsimp only at hSw); go_simp); first | done | with_reducible rfl
    simp only [Act.put, List.setIfInBounds_toArray, List.set_cons_zero, List.set_cons_succ]
    refine wpAnyH_done (by kernel_rfl) ?_ _
    clear hHeld
    have HXl : Hid (∀ i, (rl (knw k L i) k).length ≤ 16) := fun i => Nat.le_trans (rl_len _ _) (by omega)
    clear HB8 HP8 HM8 HR8 HR7 HL7 HN7 HB5 HP5 HS5 HM5 hrun HR
    by_cases h1 : 0 ≤ f
    · skip
      by_cases h2 : f < k
      · skip
        by_cases h3 : 0 ≤ t
        · skip
          by_cases h4 : t < k
          · skip
            by_cases h5 : f = t
            · skip
              subst h5
              have HE : Hid (kstep k (knw k L) ⟨f, f⟩ = knw k L) := by show _ = _; unfold kstep; rw [if_neg]; unfold goodB; simp; (try omega)
              rw [HE.out] at HMi
              clear HE
              have c0 := HP9.out.c0
              have c1 := HP9.out.c1
              simp only at c0 c1
              go_wp2_with fail
              go_loopw [11] (fun i wr => ∃ q : Nat, q ≤ k ∧ i = .int .i64 q ∧ Hid (Below w9.heap.size w9 wr)) (fun i _ => k - (intOf i).toNat)
              case atStart => exact ⟨0, Nat.zero_le _, rfl, Below.refl _ _⟩
              case round =>
                obtain ⟨q, hq, rfl, HBw⟩ := hrel
                by_cases hlt : q < k
                · skip
                  have HB15 := hide (HBw.out.trans ((below_drew1 wr).mono HBw.out.size))
                  obtain ⟨ad, fa, fn, fc, ead, c1, s1⟩ := (HMw.out.below HB15.out).at' q hlt
                  obtain ⟨bd, ha, hb, hc, ebd, c2, s2⟩ := (HMi.out.below HB15.out).at' q hlt
                  skip
                  have HS1 := hide s1
                  have HS2 := hide s2
                  have HC1 := hide c1
                  have HC2 := hide c2
                  obtain rfl := Option.some.inj ead
                  obtain rfl := Option.some.inj ebd
                  clear s1 s2 c1 c2 ead ebd
                  go_wp2_with fail
                  have HD1 : Hid (wr.drew.cell? ⟨g4, q, none⟩ = some (.slice fa fn fc)) := by have := HC1.out; rw [Addr.add_lit, Nat.zero_add] at this; exact this
                  have HD2 : Hid (wr.drew.cell? ⟨g9, q, none⟩ = some (.slice ha hb hc)) := by have := HC2.out; rw [Addr.add_lit, Nat.zero_add] at this; exact this
                  clear HC1 HC2
                  refine wp_region_held_drew (S := fun W => W.cell? ⟨g4, q, none⟩ = some (.slice fa fn fc) ∧ W.cell? ⟨g9, q, none⟩ = some (.slice ha hb hc)) (by kernel_rfl) (⟨HD1.out, HD2.out⟩) (fun hHeld => ?_)
                  refine wpAnyH_take (i := 0) (oi := { dst := some 86, op := Op.move (Operand.tmp 8), type := 35, pos := "law.go:167", after := #[], guard := none }) (v := ?_) rfl (by kernel_rfl) (by kernel_rfl) (by kernel_rfl) (fun _ _ _ h => h) (Or.inl ⟨by rfl, ?_⟩) (by assumption) ?_
                  rotate_left
                  · (intro w hSw; (try dsimp only at hSw); go_simp); first | done | with_reducible rfl
                  simp only [Act.put, List.setIfInBounds_toArray, List.set_cons_zero, List.set_cons_succ]
                  refine wpAnyH_take (i := 1) (oi := { dst := some 87, op := Op.move (Operand.tmp 11), type := 3, pos := "law.go:167", after := #[], guard := none }) (v := ?_) rfl (by kernel_rfl) (by kernel_rfl) (by kernel_rfl) (fun _ _ _ h => h) (Or.inl ⟨by rfl, ?_⟩) (by assumption) ?_
                  rotate_left
                  · (intro w hSw; (try dsimp only at hSw); go_simp); first | done | with_reducible rfl
                  simp only [Act.put, List.setIfInBounds_toArray, List.set_cons_zero, List.set_cons_succ]
                  refine wpAnyH_take (i := 2) (oi := { dst := some 88, op := Op.indexAddr 35 (Operand.tmp 86) (Operand.tmp 87), type := 0, pos := "law.go:167", after := #[{ on := 0, ground := Ground.data }, { on := 1, ground := Ground.data }], guard := none }) (v := ?_) rfl (by kernel_rfl) (by kernel_rfl) (by kernel_rfl) (fun _ _ _ h => h) (Or.inl ⟨by rfl, ?_⟩) (by assumption) ?_
                  rotate_left
                  · (intro w hSw; (try dsimp only at hSw); go_simp); first | done | with_reducible rfl
                  simp only [Act.put, List.setIfInBounds_toArray, List.set_cons_zero, List.set_cons_succ]
                  refine wpAnyH_take (i := 3) (oi := { dst := some 89, op := Op.load 37 (Operand.tmp 88), type := 37, pos := "law.go:167", after := #[{ on := 2, ground := Ground.data }], guard := none }) (v := ?_) rfl (by kernel_rfl) (by kernel_rfl) (by kernel_rfl) (fun _ _ _ h => h) (Or.inl ⟨by rfl, ?_⟩) (by assumption) ?_
                  rotate_left
                  · (intro w hSw; (try dsimp only at hSw); go_simp); first | done | with_reducible rfl
                  simp only [Act.put, List.setIfInBounds_toArray, List.set_cons_zero, List.set_cons_succ]
                  refine wpAnyH_take (i := 4) (oi := { dst := some 90, op := Op.move (Operand.tmp 9), type := 35, pos := "law.go:167", after := #[], guard := none }) (v := ?_) rfl (by kernel_rfl) (by kernel_rfl) (by kernel_rfl) (fun _ _ _ h => h) (Or.inl ⟨by rfl, ?_⟩) (by assumption) ?_
                  rotate_left
                  · (intro w hSw; (try dsimp only at hSw); go_simp); first | done | with_reducible rfl
                  simp only [Act.put, List.setIfInBounds_toArray, List.set_cons_zero, List.set_cons_succ]
                  refine wpAnyH_take (i := 5) (oi := { dst := some 91, op := Op.move (Operand.tmp 11), type := 3, pos := "law.go:167", after := #[], guard := none }) (v := ?_) rfl (by kernel_rfl) (by kernel_rfl) (by kernel_rfl) (fun _ _ _ h => h) (Or.inl ⟨by rfl, ?_⟩) (by assumption) ?_
                  rotate_left
                  · (intro w hSw; (try dsimp only at hSw); go_simp); first | done | with_reducible rfl
                  simp only [Act.put, List.setIfInBounds_toArray, List.set_cons_zero, List.set_cons_succ]
                  refine wpAnyH_take (i := 6) (oi := { dst := some 92, op := Op.indexAddr 35 (Operand.tmp 90) (Operand.tmp 91), type := 0, pos := "law.go:167", after := #[{ on := 4, ground := Ground.data }, { on := 5, ground := Ground.data }], guard := none }) (v := ?_) rfl (by kernel_rfl) (by kernel_rfl) (by kernel_rfl) (fun _ _ _ h => h) (Or.inl ⟨by rfl, ?_⟩) (by assumption) ?_
                  rotate_left
                  · (intro w hSw; (try dsimp only at hSw); go_simp); first | done | with_reducible rfl
                  simp only [Act.put, List.setIfInBounds_toArray, List.set_cons_zero, List.set_cons_succ]
                  refine wpAnyH_take (i := 7) (oi := { dst := some 93, op := Op.load 37 (Operand.tmp 92), type := 37, pos := "law.go:167", after := #[{ on := 6, ground := Ground.data }], guard := none }) (v := ?_) rfl (by kernel_rfl) (by kernel_rfl) (by kernel_rfl) (fun _ _ _ h => h) (Or.inl ⟨by rfl, ?_⟩) (by assumption) ?_
                  rotate_left
                  · (intro w hSw; (try dsimp only at hSw); go_simp); first | done | with_reducible rfl
                  simp only [Act.put, List.setIfInBounds_toArray, List.set_cons_zero, List.set_cons_succ]
                  refine wpAnyH_ready (rs := [8]) (by kernel_rfl) (by simp) ?_
                  refine AllReadyH.cons rfl (fun K hK => ?_) ?_
                  rotate_left
                  · exact AllReadyH.nil
                  go_simp
                  go_wp2_with fail
                  refine (sameInts_true fa fn fc _ ha hb hc _ HS1.out HS2.out (by have := HS1.out.len; have := HXl.out q; omega)).mono ?_
                  rintro e w16 ⟨rfl, b16⟩
                  have HB16 := hide (HB15.out.trans (b16.mono HB15.out.size))
                  refine hK.out _ _ ⟨(b16.cell (World.block_lt_of_cell? _ _ HD1.out)).trans HD1.out, (b16.cell (World.block_lt_of_cell? _ _ HD2.out)).trans HD2.out⟩ (fun hHeld => ?_)
                  clear hK K b16
                  refine wpAnyH_take (i := 9) (oi := { dst := some 95, op := Op.unOp UnOp.not 4 (Operand.tmp 94), type := 4, pos := "law.go:167", after := #[{ on := 8, ground := Ground.data }], guard := none }) (v := ?_) rfl (by kernel_rfl) (by kernel_rfl) (by kernel_rfl) (fun _ _ _ h => h) (Or.inl ⟨by rfl, ?_⟩) (by assumption) ?_
                  rotate_left
                  · (intro w hSw; (try dsimp only at hSw); go_simp); first | done | with_reducible rfl
                  simp only [Act.put, List.setIfInBounds_toArray, List.set_cons_zero, List.set_cons_succ]
                  refine wpAnyH_done (by kernel_rfl) ?_ _
                  clear hHeld
                  clear HBw HB15 HS1 HS2 HD1 HD2
                  go_wp2_with fail
                  go_roundw
                  case rel => exact ⟨q + 1, by omega, by go_num, HB16⟩
                  case measure => simp [intOf]; omega
                · go_wp2_with fail
                  go_ret
                  exact ⟨rfl, HB9.out.trans (HBw.out.mono HB9.out.size)⟩
            · skip
              obtain ⟨a, b, rfl, rfl, ha, hb, hab⟩ : ∃ a b : Nat, f = (a : Int) ∧ t = (b : Int) ∧ a < k ∧ b < k ∧ a ≠ b := ⟨f.toNat, t.toNat, by omega, by omega, by omega, by omega, by omega⟩
              have hgd : goodB k (a : Int) (b : Int) = true := by unfold goodB; simp; omega
              have HE : Hid (kstep k (knw k L) ⟨(a : Int), (b : Int)⟩ = kup (knw k L) b (knw k L a) 16) := by show _ = _; unfold kstep; rw [if_pos hgd]; rfl
              rw [HE.out] at HMi
              clear HE hgd h1 h2 h3 h4 h5
              have HDg := hide (knw_diag k L b hb)
              obtain ⟨M, hM⟩ : ∃ M, knw k L = M := ⟨_, rfl⟩
              rw [hM] at HMi HMw HXl HDg
              clear hM
              have ha' : (a : Int) < k := by omega
              have hb' : (b : Int) < k := by omega
              have hab' : ((a : Int) != (b : Int)) = true := by simp; omega
              have c0 := HP9.out.c0
              have c1 := HP9.out.c1
              simp only at c0 c1
              go_wp2_with fail
              clear c0 c1
              go_loopw [11] (fun i wr => ∃ q : Nat, q ≤ k ∧ i = .int .i64 q ∧ Hid (Below w9.heap.size w9 wr)) (fun i _ => k - (intOf i).toNat)
              case atStart => exact ⟨0, Nat.zero_le _, rfl, Below.refl _ _⟩
              case round =>
                obtain ⟨q, hq, rfl, HBw⟩ := hrel
                by_cases hlt : q < k
                · have hPx := HP9.out.below HBw.out
                  have c0 := hPx.c0
                  have c1 := hPx.c1
                  simp only at c0 c1
                  clear hPx
                  by_cases hqb : q = b
                  · subst hqb
                    have HI := hide ((HMi.out.below HBw.out).congr (Y := fun i => rl (kup M q (M a) 16 i) k) (fun i _ => rfl))
                    obtain ⟨ad, fa, fn, fc, ead, d1, s1⟩ := (HMw.out.below HBw.out).at' q hlt
                    obtain ⟨bd, ga, gn, gc, ebd, d2, s2⟩ := (HMw.out.below HBw.out).at' a ha
                    obtain ⟨cd, ia, in_, ic, ecd, d3, s3⟩ := HI.out.at' q hlt
                    obtain rfl := Option.some.inj ead
                    obtain rfl := Option.some.inj ebd
                    obtain rfl := Option.some.inj ecd
                    rw [Addr.add_lit, Nat.zero_add] at d1 d2 d3
                    have s3' : NSrc wr ia in_ ic (rl (fun o => M q o || M a o) k) := by rw [← kup_row M q (M a) k hk]; exact s3
                    have HD1 := hide d1
                    have HD2 := hide d2
                    have HD3 := hide d3
                    have HS1 := hide s1
                    have HS2 := hide s2
                    have HS3 := hide s3'
                    have HC0 := hide c0
                    have HAq : Hid (∀ w9, Below wr.heap.size wr w9 → Calls Try.prog 21 #[.slice fa fn fc, .int .i64 (q : Int)] w9 fun e w' => e = .returned (.bool true) ∧ w9 = w') := fun w9 b9 => by have := has_rl fa fn fc (M q) k q w9 (HS1.out.below b9) hk hlt; rw [HDg.out] at this; exact this
                    have HBe := hide (below_new wr (.cells #[] 3))
                    clear s1 s2 s3 s3' d1 d2 d3 ead ebd ecd HI
                    go_wp2_with fail
                    clear c0 c1
                    go_loopw [12, 13] (fun p i wi => ∃ (o : Nat) (eo : Option Addr) (m cc : Nat), o ≤ k ∧ i = .int .i64 o ∧ p = .slice eo m cc ∧ Hid (GrI wr wi eo m cc (rl (fun o => M q o || M a o) o))) (fun _ i _ => k - (intOf i).toNat)
                    case atStart => exact ⟨0, _, 0, 0, Nat.zero_le _, rfl, rfl, GrI.lit wr⟩
                    case round =>
                      clear HBe
                      obtain ⟨o, eo, m, cc, ho, rfl, rfl, HG⟩ := hrel
                      by_cases hl2 : o < k
                      · have d1 := (HG.out.a.1.cell (World.block_lt_of_cell? _ _ HD1.out)).trans HD1.out
                        have d2 := (HG.out.a.1.cell (World.block_lt_of_cell? _ _ HD2.out)).trans HD2.out
                        have d4 := (HG.out.a.1.cell (World.block_lt_of_cell? _ _ HC0.out)).trans HC0.out
                        have HA1 := hide (has_rl fa fn fc (M q) k o _ (HS1.out.below HG.out.a.1) hk hl2)
                        have HA2 := hide (has_rl ga gn gc (M a) k o _ (HS2.out.below HG.out.a.1) hk hl2)
                        have HR := hide HG.out.r
                        have HN : Hid (m + 1 ≤ 17592186044316) := by
                          show _ ≤ _
                          have h1 := HR.out.len
                          have h2 := rl_len (fun o => M q o || M a o) o
                          omega
                        cases hx : M q o
                        · cases hy : M a o
                          · have HQ := hide (rl_stay (fun o => M q o || M a o) o (by rw [hx, hy]; rfl))
                            rw [hx] at HA1
                            rw [hy] at HA2
                            clear hx hy
                            go_wp2_with (first
                              | (go_at_call 21; refine HA1.out.mono ?_; rintro e wx ⟨rfl, rfl⟩; clear HA1)
                              | (go_at_call 21; refine HA2.out.mono ?_; rintro e wx ⟨rfl, rfl⟩; clear HA2))
                            go_roundw
                            case rel => exact ⟨o + 1, eo, m, cc, by omega, by go_num, rfl, by show GrI _ _ _ _ _ _; rw [HQ.out]; exact HG.out⟩
                            case measure => simp [intOf]; omega
                          · have HQ := hide (rl_next (fun o => M q o || M a o) o (by rw [hx, hy]; rfl))
                            rw [hx] at HA1
                            rw [hy] at HA2
                            clear hx hy
                            go_wp2_with (first
                              | (go_at_call 21; refine HA1.out.mono ?_; rintro e wx ⟨rfl, rfl⟩; clear HA1)
                              | (go_at_call 21; refine HA2.out.mono ?_; rintro e wx ⟨rfl, rfl⟩; clear HA2)
                              | (at_builtin; refine HR.out.app1 (o : Int) HN.out rfl (.tmp 117) (.tmp 119) rfl rfl rfl ?_; intro b4 c4 w4 R4 A4; have HG4 := hide (HG.out.app R4 A4); clear R4 A4))
                            go_roundw
                            case rel => exact ⟨o + 1, b4, m + 1, c4, by omega, by go_num, rfl, by show GrI _ _ _ _ _ _; rw [HQ.out]; exact HG4.out⟩
                            case measure => simp [intOf]; omega
                        · have HQ := hide (rl_next (fun o => M q o || M a o) o (by rw [hx]; rfl))
                          rw [hx] at HA1
                          clear hx HA2
                          go_wp2_with (first
                            | (go_at_call 21; refine HA1.out.mono ?_; rintro e wx ⟨rfl, rfl⟩; clear HA1)
                            | (at_builtin; refine HR.out.app1 (o : Int) HN.out rfl (.tmp 117) (.tmp 119) rfl rfl rfl ?_; intro b4 c4 w4 R4 A4; have HG4 := hide (HG.out.app R4 A4); clear R4 A4))
                          go_roundw
                          case rel => exact ⟨o + 1, b4, m + 1, c4, by omega, by go_num, rfl, by show GrI _ _ _ _ _ _; rw [HQ.out]; exact HG4.out⟩
                          case measure => simp [intOf]; omega
                      · obtain rfl : o = k := by omega
                        have d1 := (HG.out.a.1.cell (World.block_lt_of_cell? _ _ HD1.out)).trans HD1.out
                        have d3 := (HG.out.a.1.cell (World.block_lt_of_cell? _ _ HD3.out)).trans HD3.out
                        have HI1 := hide (sameInts_true ia in_ ic _ eo m cc _ (HS3.out.below HG.out.a.1) HG.out.r.src (by have := HS3.out.len; have := rl_len (fun i => M q i || M a i) o; omega))
                        go_wp2_with (first
                          | (go_at_call 20; refine HI1.out.mono ?_; rintro e w17 ⟨rfl, b17⟩; have hb17 := HG.out.a.1.trans (b17.mono HG.out.a.1.size); have HB17 := hide hb17; have d5 := (hb17.cell (World.block_lt_of_cell? _ _ HD1.out)).trans HD1.out; clear b17 HI1 hb17)
                          | (go_at_call 21; refine (HAq.out _ HB17.out).mono ?_; rintro e wx ⟨rfl, rfl⟩))
                        go_roundw
                        case rel => exact ⟨q + 1, by omega, by go_num, HBw.out.trans (HB17.out.mono HBw.out.size)⟩
                        case measure => simp [intOf]; omega
                  · have hqb' : ((q : Int) != (b : Int)) = true := by simp; omega
                    have HB15 := hide (HBw.out.trans ((below_drew1 wr).mono HBw.out.size))
                    obtain ⟨ad, fa, fn, fc, ead, c1, s1⟩ := (HMw.out.below HB15.out).at' q hlt
                    obtain ⟨bd, ha, hb, hc, ebd, c2, s2⟩ := (HMi.out.below HB15.out).at' q hlt
                    have s2 := (by have := s2; rw [kup_other M b q (M a) hqb] at this; exact this : NSrc wr.drew ha hb hc (rl (M q) k))
                    have HS1 := hide s1
                    have HS2 := hide s2
                    have HC1 := hide c1
                    have HC2 := hide c2
                    obtain rfl := Option.some.inj ead
                    obtain rfl := Option.some.inj ebd
                    clear s1 s2 c1 c2 ead ebd
                    go_wp2_with fail
                    have HD1 : Hid (wr.drew.cell? ⟨g4, q, none⟩ = some (.slice fa fn fc)) := by have := HC1.out; rw [Addr.add_lit, Nat.zero_add] at this; exact this
                    have HD2 : Hid (wr.drew.cell? ⟨g9, q, none⟩ = some (.slice ha hb hc)) := by have := HC2.out; rw [Addr.add_lit, Nat.zero_add] at this; exact this
                    clear HC1 HC2
                    refine wp_region_held_drew (S := fun W => W.cell? ⟨g4, q, none⟩ = some (.slice fa fn fc) ∧ W.cell? ⟨g9, q, none⟩ = some (.slice ha hb hc)) (by kernel_rfl) (⟨HD1.out, HD2.out⟩) (fun hHeld => ?_)
                    refine wpAnyH_take (i := 0) (oi := { dst := some 86, op := Op.move (Operand.tmp 8), type := 35, pos := "law.go:167", after := #[], guard := none }) (v := ?_) rfl (by kernel_rfl) (by kernel_rfl) (by kernel_rfl) (fun _ _ _ h => h) (Or.inl ⟨by rfl, ?_⟩) (by assumption) ?_
                    rotate_left
                    · (intro w hSw; (try dsimp only at hSw); go_simp); first | done | with_reducible rfl
                    simp only [Act.put, List.setIfInBounds_toArray, List.set_cons_zero, List.set_cons_succ]
                    refine wpAnyH_take (i := 1) (oi := { dst := some 87, op := Op.move (Operand.tmp 11), type := 3, pos := "law.go:167", after := #[], guard := none }) (v := ?_) rfl (by kernel_rfl) (by kernel_rfl) (by kernel_rfl) (fun _ _ _ h => h) (Or.inl ⟨by rfl, ?_⟩) (by assumption) ?_
                    rotate_left
                    · (intro w hSw; (try dsimp only at hSw); go_simp); first | done | with_reducible rfl
                    simp only [Act.put, List.setIfInBounds_toArray, List.set_cons_zero, List.set_cons_succ]
                    refine wpAnyH_take (i := 2) (oi := { dst := some 88, op := Op.indexAddr 35 (Operand.tmp 86) (Operand.tmp 87), type := 0, pos := "law.go:167", after := #[{ on := 0, ground := Ground.data }, { on := 1, ground := Ground.data }], guard := none }) (v := ?_) rfl (by kernel_rfl) (by kernel_rfl) (by kernel_rfl) (fun _ _ _ h => h) (Or.inl ⟨by rfl, ?_⟩) (by assumption) ?_
                    rotate_left
                    · (intro w hSw; (try dsimp only at hSw); go_simp); first | done | with_reducible rfl
                    simp only [Act.put, List.setIfInBounds_toArray, List.set_cons_zero, List.set_cons_succ]
                    refine wpAnyH_take (i := 3) (oi := { dst := some 89, op := Op.load 37 (Operand.tmp 88), type := 37, pos := "law.go:167", after := #[{ on := 2, ground := Ground.data }], guard := none }) (v := ?_) rfl (by kernel_rfl) (by kernel_rfl) (by kernel_rfl) (fun _ _ _ h => h) (Or.inl ⟨by rfl, ?_⟩) (by assumption) ?_
                    rotate_left
                    · (intro w hSw; (try dsimp only at hSw); go_simp); first | done | with_reducible rfl
                    simp only [Act.put, List.setIfInBounds_toArray, List.set_cons_zero, List.set_cons_succ]
                    refine wpAnyH_take (i := 4) (oi := { dst := some 90, op := Op.move (Operand.tmp 9), type := 35, pos := "law.go:167", after := #[], guard := none }) (v := ?_) rfl (by kernel_rfl) (by kernel_rfl) (by kernel_rfl) (fun _ _ _ h => h) (Or.inl ⟨by rfl, ?_⟩) (by assumption) ?_
                    rotate_left
                    · (intro w hSw; (try dsimp only at hSw); go_simp); first | done | with_reducible rfl
                    simp only [Act.put, List.setIfInBounds_toArray, List.set_cons_zero, List.set_cons_succ]
                    refine wpAnyH_take (i := 5) (oi := { dst := some 91, op := Op.move (Operand.tmp 11), type := 3, pos := "law.go:167", after := #[], guard := none }) (v := ?_) rfl (by kernel_rfl) (by kernel_rfl) (by kernel_rfl) (fun _ _ _ h => h) (Or.inl ⟨by rfl, ?_⟩) (by assumption) ?_
                    rotate_left
                    · (intro w hSw; (try dsimp only at hSw); go_simp); first | done | with_reducible rfl
                    simp only [Act.put, List.setIfInBounds_toArray, List.set_cons_zero, List.set_cons_succ]
                    refine wpAnyH_take (i := 6) (oi := { dst := some 92, op := Op.indexAddr 35 (Operand.tmp 90) (Operand.tmp 91), type := 0, pos := "law.go:167", after := #[{ on := 4, ground := Ground.data }, { on := 5, ground := Ground.data }], guard := none }) (v := ?_) rfl (by kernel_rfl) (by kernel_rfl) (by kernel_rfl) (fun _ _ _ h => h) (Or.inl ⟨by rfl, ?_⟩) (by assumption) ?_
                    rotate_left
                    · (intro w hSw; (try dsimp only at hSw); go_simp); first | done | with_reducible rfl
                    simp only [Act.put, List.setIfInBounds_toArray, List.set_cons_zero, List.set_cons_succ]
                    refine wpAnyH_take (i := 7) (oi := { dst := some 93, op := Op.load 37 (Operand.tmp 92), type := 37, pos := "law.go:167", after := #[{ on := 6, ground := Ground.data }], guard := none }) (v := ?_) rfl (by kernel_rfl) (by kernel_rfl) (by kernel_rfl) (fun _ _ _ h => h) (Or.inl ⟨by rfl, ?_⟩) (by assumption) ?_
                    rotate_left
                    · (intro w hSw; (try dsimp only at hSw); go_simp); first | done | with_reducible rfl
                    simp only [Act.put, List.setIfInBounds_toArray, List.set_cons_zero, List.set_cons_succ]
                    refine wpAnyH_ready (rs := [8]) (by kernel_rfl) (by simp) ?_
                    refine AllReadyH.cons rfl (fun K hK => ?_) ?_
                    rotate_left
                    · exact AllReadyH.nil
                    go_simp
                    go_wp2_with fail
                    refine (sameInts_true fa fn fc _ ha hb hc _ HS1.out HS2.out (by have := HS1.out.len; have := HXl.out q; omega)).mono ?_
                    rintro e w16 ⟨rfl, b16⟩
                    have HB16 := hide (HB15.out.trans (b16.mono HB15.out.size))
                    refine hK.out _ _ ⟨(b16.cell (World.block_lt_of_cell? _ _ HD1.out)).trans HD1.out, (b16.cell (World.block_lt_of_cell? _ _ HD2.out)).trans HD2.out⟩ (fun hHeld => ?_)
                    clear hK K b16
                    refine wpAnyH_take (i := 9) (oi := { dst := some 95, op := Op.unOp UnOp.not 4 (Operand.tmp 94), type := 4, pos := "law.go:167", after := #[{ on := 8, ground := Ground.data }], guard := none }) (v := ?_) rfl (by kernel_rfl) (by kernel_rfl) (by kernel_rfl) (fun _ _ _ h => h) (Or.inl ⟨by rfl, ?_⟩) (by assumption) ?_
                    rotate_left
                    · (intro w hSw; (try dsimp only at hSw); go_simp); first | done | with_reducible rfl
                    simp only [Act.put, List.setIfInBounds_toArray, List.set_cons_zero, List.set_cons_succ]
                    refine wpAnyH_done (by kernel_rfl) ?_ _
                    clear hHeld
                    clear HBw HB15 HS1 HS2 HD1 HD2
                    go_wp2_with fail
                    go_roundw
                    case rel => exact ⟨q + 1, by omega, by go_num, HB16⟩
                    case measure => simp [intOf]; omega
                · go_wp2_with fail
                  go_ret
                  exact ⟨rfl, HB9.out.trans (HBw.out.mono HB9.out.size)⟩
          · skip
            have HE : Hid (kstep k (knw k L) ⟨f, t⟩ = knw k L) := by show _ = _; unfold kstep; rw [if_neg]; unfold goodB; simp; (try omega)
            rw [HE.out] at HMi
            clear HE
            have c0 := HP9.out.c0
            have c1 := HP9.out.c1
            simp only at c0 c1
            go_wp2_with fail
            go_loopw [11] (fun i wr => ∃ q : Nat, q ≤ k ∧ i = .int .i64 q ∧ Hid (Below w9.heap.size w9 wr)) (fun i _ => k - (intOf i).toNat)
            case atStart => exact ⟨0, Nat.zero_le _, rfl, Below.refl _ _⟩
            case round =>
              obtain ⟨q, hq, rfl, HBw⟩ := hrel
              by_cases hlt : q < k
              · skip
                have HB15 := hide (HBw.out.trans ((below_drew1 wr).mono HBw.out.size))
                obtain ⟨ad, fa, fn, fc, ead, c1, s1⟩ := (HMw.out.below HB15.out).at' q hlt
                obtain ⟨bd, ha, hb, hc, ebd, c2, s2⟩ := (HMi.out.below HB15.out).at' q hlt
                skip
                have HS1 := hide s1
                have HS2 := hide s2
                have HC1 := hide c1
                have HC2 := hide c2
                obtain rfl := Option.some.inj ead
                obtain rfl := Option.some.inj ebd
                clear s1 s2 c1 c2 ead ebd
                go_wp2_with fail
                have HD1 : Hid (wr.drew.cell? ⟨g4, q, none⟩ = some (.slice fa fn fc)) := by have := HC1.out; rw [Addr.add_lit, Nat.zero_add] at this; exact this
                have HD2 : Hid (wr.drew.cell? ⟨g9, q, none⟩ = some (.slice ha hb hc)) := by have := HC2.out; rw [Addr.add_lit, Nat.zero_add] at this; exact this
                clear HC1 HC2
                refine wp_region_held_drew (S := fun W => W.cell? ⟨g4, q, none⟩ = some (.slice fa fn fc) ∧ W.cell? ⟨g9, q, none⟩ = some (.slice ha hb hc)) (by kernel_rfl) (⟨HD1.out, HD2.out⟩) (fun hHeld => ?_)
                refine wpAnyH_take (i := 0) (oi := { dst := some 86, op := Op.move (Operand.tmp 8), type := 35, pos := "law.go:167", after := #[], guard := none }) (v := ?_) rfl (by kernel_rfl) (by kernel_rfl) (by kernel_rfl) (fun _ _ _ h => h) (Or.inl ⟨by rfl, ?_⟩) (by assumption) ?_
                rotate_left
                · (intro w hSw; (try dsimp only at hSw); go_simp); first | done | with_reducible rfl
                simp only [Act.put, List.setIfInBounds_toArray, List.set_cons_zero, List.set_cons_succ]
                refine wpAnyH_take (i := 1) (oi := { dst := some 87, op := Op.move (Operand.tmp 11), type := 3, pos := "law.go:167", after := #[], guard := none }) (v := ?_) rfl (by kernel_rfl) (by kernel_rfl) (by kernel_rfl) (fun _ _ _ h => h) (Or.inl ⟨by rfl, ?_⟩) (by assumption) ?_
                rotate_left
                · (intro w hSw; (try dsimp only at hSw); go_simp); first | done | with_reducible rfl
                simp only [Act.put, List.setIfInBounds_toArray, List.set_cons_zero, List.set_cons_succ]
                refine wpAnyH_take (i := 2) (oi := { dst := some 88, op := Op.indexAddr 35 (Operand.tmp 86) (Operand.tmp 87), type := 0, pos := "law.go:167", after := #[{ on := 0, ground := Ground.data }, { on := 1, ground := Ground.data }], guard := none }) (v := ?_) rfl (by kernel_rfl) (by kernel_rfl) (by kernel_rfl) (fun _ _ _ h => h) (Or.inl ⟨by rfl, ?_⟩) (by assumption) ?_
                rotate_left
                · (intro w hSw; (try dsimp only at hSw); go_simp); first | done | with_reducible rfl
                simp only [Act.put, List.setIfInBounds_toArray, List.set_cons_zero, List.set_cons_succ]
                refine wpAnyH_take (i := 3) (oi := { dst := some 89, op := Op.load 37 (Operand.tmp 88), type := 37, pos := "law.go:167", after := #[{ on := 2, ground := Ground.data }], guard := none }) (v := ?_) rfl (by kernel_rfl) (by kernel_rfl) (by kernel_rfl) (fun _ _ _ h => h) (Or.inl ⟨by rfl, ?_⟩) (by assumption) ?_
                rotate_left
                · (intro w hSw; (try dsimp only at hSw); go_simp); first | done | with_reducible rfl
                simp only [Act.put, List.setIfInBounds_toArray, List.set_cons_zero, List.set_cons_succ]
                refine wpAnyH_take (i := 4) (oi := { dst := some 90, op := Op.move (Operand.tmp 9), type := 35, pos := "law.go:167", after := #[], guard := none }) (v := ?_) rfl (by kernel_rfl) (by kernel_rfl) (by kernel_rfl) (fun _ _ _ h => h) (Or.inl ⟨by rfl, ?_⟩) (by assumption) ?_
                rotate_left
                · (intro w hSw; (try dsimp only at hSw); go_simp); first | done | with_reducible rfl
                simp only [Act.put, List.setIfInBounds_toArray, List.set_cons_zero, List.set_cons_succ]
                refine wpAnyH_take (i := 5) (oi := { dst := some 91, op := Op.move (Operand.tmp 11), type := 3, pos := "law.go:167", after := #[], guard := none }) (v := ?_) rfl (by kernel_rfl) (by kernel_rfl) (by kernel_rfl) (fun _ _ _ h => h) (Or.inl ⟨by rfl, ?_⟩) (by assumption) ?_
                rotate_left
                · (intro w hSw; (try dsimp only at hSw); go_simp); first | done | with_reducible rfl
                simp only [Act.put, List.setIfInBounds_toArray, List.set_cons_zero, List.set_cons_succ]
                refine wpAnyH_take (i := 6) (oi := { dst := some 92, op := Op.indexAddr 35 (Operand.tmp 90) (Operand.tmp 91), type := 0, pos := "law.go:167", after := #[{ on := 4, ground := Ground.data }, { on := 5, ground := Ground.data }], guard := none }) (v := ?_) rfl (by kernel_rfl) (by kernel_rfl) (by kernel_rfl) (fun _ _ _ h => h) (Or.inl ⟨by rfl, ?_⟩) (by assumption) ?_
                rotate_left
                · (intro w hSw; (try dsimp only at hSw); go_simp); first | done | with_reducible rfl
                simp only [Act.put, List.setIfInBounds_toArray, List.set_cons_zero, List.set_cons_succ]
                refine wpAnyH_take (i := 7) (oi := { dst := some 93, op := Op.load 37 (Operand.tmp 92), type := 37, pos := "law.go:167", after := #[{ on := 6, ground := Ground.data }], guard := none }) (v := ?_) rfl (by kernel_rfl) (by kernel_rfl) (by kernel_rfl) (fun _ _ _ h => h) (Or.inl ⟨by rfl, ?_⟩) (by assumption) ?_
                rotate_left
                · (intro w hSw; (try dsimp only at hSw); go_simp); first | done | with_reducible rfl
                simp only [Act.put, List.setIfInBounds_toArray, List.set_cons_zero, List.set_cons_succ]
                refine wpAnyH_ready (rs := [8]) (by kernel_rfl) (by simp) ?_
                refine AllReadyH.cons rfl (fun K hK => ?_) ?_
                rotate_left
                · exact AllReadyH.nil
                go_simp
                go_wp2_with fail
                refine (sameInts_true fa fn fc _ ha hb hc _ HS1.out HS2.out (by have := HS1.out.len; have := HXl.out q; omega)).mono ?_
                rintro e w16 ⟨rfl, b16⟩
                have HB16 := hide (HB15.out.trans (b16.mono HB15.out.size))
                refine hK.out _ _ ⟨(b16.cell (World.block_lt_of_cell? _ _ HD1.out)).trans HD1.out, (b16.cell (World.block_lt_of_cell? _ _ HD2.out)).trans HD2.out⟩ (fun hHeld => ?_)
                clear hK K b16
                refine wpAnyH_take (i := 9) (oi := { dst := some 95, op := Op.unOp UnOp.not 4 (Operand.tmp 94), type := 4, pos := "law.go:167", after := #[{ on := 8, ground := Ground.data }], guard := none }) (v := ?_) rfl (by kernel_rfl) (by kernel_rfl) (by kernel_rfl) (fun _ _ _ h => h) (Or.inl ⟨by rfl, ?_⟩) (by assumption) ?_
                rotate_left
                · (intro w hSw; (try dsimp only at hSw); go_simp); first | done | with_reducible rfl
                simp only [Act.put, List.setIfInBounds_toArray, List.set_cons_zero, List.set_cons_succ]
                refine wpAnyH_done (by kernel_rfl) ?_ _
                clear hHeld
                clear HBw HB15 HS1 HS2 HD1 HD2
                go_wp2_with fail
                go_roundw
                case rel => exact ⟨q + 1, by omega, by go_num, HB16⟩
                case measure => simp [intOf]; omega
              · go_wp2_with fail
                go_ret
                exact ⟨rfl, HB9.out.trans (HBw.out.mono HB9.out.size)⟩
        · skip
          have HE : Hid (kstep k (knw k L) ⟨f, t⟩ = knw k L) := by show _ = _; unfold kstep; rw [if_neg]; unfold goodB; simp; (try omega)
          rw [HE.out] at HMi
          clear HE
          have c0 := HP9.out.c0
          have c1 := HP9.out.c1
          simp only at c0 c1
          go_wp2_with fail
          go_loopw [11] (fun i wr => ∃ q : Nat, q ≤ k ∧ i = .int .i64 q ∧ Hid (Below w9.heap.size w9 wr)) (fun i _ => k - (intOf i).toNat)
          case atStart => exact ⟨0, Nat.zero_le _, rfl, Below.refl _ _⟩
          case round =>
            obtain ⟨q, hq, rfl, HBw⟩ := hrel
            by_cases hlt : q < k
            · skip
              have HB15 := hide (HBw.out.trans ((below_drew1 wr).mono HBw.out.size))
              obtain ⟨ad, fa, fn, fc, ead, c1, s1⟩ := (HMw.out.below HB15.out).at' q hlt
              obtain ⟨bd, ha, hb, hc, ebd, c2, s2⟩ := (HMi.out.below HB15.out).at' q hlt
              skip
              have HS1 := hide s1
              have HS2 := hide s2
              have HC1 := hide c1
              have HC2 := hide c2
              obtain rfl := Option.some.inj ead
              obtain rfl := Option.some.inj ebd
              clear s1 s2 c1 c2 ead ebd
              go_wp2_with fail
              have HD1 : Hid (wr.drew.cell? ⟨g4, q, none⟩ = some (.slice fa fn fc)) := by have := HC1.out; rw [Addr.add_lit, Nat.zero_add] at this; exact this
              have HD2 : Hid (wr.drew.cell? ⟨g9, q, none⟩ = some (.slice ha hb hc)) := by have := HC2.out; rw [Addr.add_lit, Nat.zero_add] at this; exact this
              clear HC1 HC2
              refine wp_region_held_drew (S := fun W => W.cell? ⟨g4, q, none⟩ = some (.slice fa fn fc) ∧ W.cell? ⟨g9, q, none⟩ = some (.slice ha hb hc)) (by kernel_rfl) (⟨HD1.out, HD2.out⟩) (fun hHeld => ?_)
              refine wpAnyH_take (i := 0) (oi := { dst := some 86, op := Op.move (Operand.tmp 8), type := 35, pos := "law.go:167", after := #[], guard := none }) (v := ?_) rfl (by kernel_rfl) (by kernel_rfl) (by kernel_rfl) (fun _ _ _ h => h) (Or.inl ⟨by rfl, ?_⟩) (by assumption) ?_
              rotate_left
              · (intro w hSw; (try dsimp only at hSw); go_simp); first | done | with_reducible rfl
              simp only [Act.put, List.setIfInBounds_toArray, List.set_cons_zero, List.set_cons_succ]
              refine wpAnyH_take (i := 1) (oi := { dst := some 87, op := Op.move (Operand.tmp 11), type := 3, pos := "law.go:167", after := #[], guard := none }) (v := ?_) rfl (by kernel_rfl) (by kernel_rfl) (by kernel_rfl) (fun _ _ _ h => h) (Or.inl ⟨by rfl, ?_⟩) (by assumption) ?_
              rotate_left
              · (intro w hSw; (try dsimp only at hSw); go_simp); first | done | with_reducible rfl
              simp only [Act.put, List.setIfInBounds_toArray, List.set_cons_zero, List.set_cons_succ]
              refine wpAnyH_take (i := 2) (oi := { dst := some 88, op := Op.indexAddr 35 (Operand.tmp 86) (Operand.tmp 87), type := 0, pos := "law.go:167", after := #[{ on := 0, ground := Ground.data }, { on := 1, ground := Ground.data }], guard := none }) (v := ?_) rfl (by kernel_rfl) (by kernel_rfl) (by kernel_rfl) (fun _ _ _ h => h) (Or.inl ⟨by rfl, ?_⟩) (by assumption) ?_
              rotate_left
              · (intro w hSw; (try dsimp only at hSw); go_simp); first | done | with_reducible rfl
              simp only [Act.put, List.setIfInBounds_toArray, List.set_cons_zero, List.set_cons_succ]
              refine wpAnyH_take (i := 3) (oi := { dst := some 89, op := Op.load 37 (Operand.tmp 88), type := 37, pos := "law.go:167", after := #[{ on := 2, ground := Ground.data }], guard := none }) (v := ?_) rfl (by kernel_rfl) (by kernel_rfl) (by kernel_rfl) (fun _ _ _ h => h) (Or.inl ⟨by rfl, ?_⟩) (by assumption) ?_
              rotate_left
              · (intro w hSw; (try dsimp only at hSw); go_simp); first | done | with_reducible rfl
              simp only [Act.put, List.setIfInBounds_toArray, List.set_cons_zero, List.set_cons_succ]
              refine wpAnyH_take (i := 4) (oi := { dst := some 90, op := Op.move (Operand.tmp 9), type := 35, pos := "law.go:167", after := #[], guard := none }) (v := ?_) rfl (by kernel_rfl) (by kernel_rfl) (by kernel_rfl) (fun _ _ _ h => h) (Or.inl ⟨by rfl, ?_⟩) (by assumption) ?_
              rotate_left
              · (intro w hSw; (try dsimp only at hSw); go_simp); first | done | with_reducible rfl
              simp only [Act.put, List.setIfInBounds_toArray, List.set_cons_zero, List.set_cons_succ]
              refine wpAnyH_take (i := 5) (oi := { dst := some 91, op := Op.move (Operand.tmp 11), type := 3, pos := "law.go:167", after := #[], guard := none }) (v := ?_) rfl (by kernel_rfl) (by kernel_rfl) (by kernel_rfl) (fun _ _ _ h => h) (Or.inl ⟨by rfl, ?_⟩) (by assumption) ?_
              rotate_left
              · (intro w hSw; (try dsimp only at hSw); go_simp); first | done | with_reducible rfl
              simp only [Act.put, List.setIfInBounds_toArray, List.set_cons_zero, List.set_cons_succ]
              refine wpAnyH_take (i := 6) (oi := { dst := some 92, op := Op.indexAddr 35 (Operand.tmp 90) (Operand.tmp 91), type := 0, pos := "law.go:167", after := #[{ on := 4, ground := Ground.data }, { on := 5, ground := Ground.data }], guard := none }) (v := ?_) rfl (by kernel_rfl) (by kernel_rfl) (by kernel_rfl) (fun _ _ _ h => h) (Or.inl ⟨by rfl, ?_⟩) (by assumption) ?_
              rotate_left
              · (intro w hSw; (try dsimp only at hSw); go_simp); first | done | with_reducible rfl
              simp only [Act.put, List.setIfInBounds_toArray, List.set_cons_zero, List.set_cons_succ]
              refine wpAnyH_take (i := 7) (oi := { dst := some 93, op := Op.load 37 (Operand.tmp 92), type := 37, pos := "law.go:167", after := #[{ on := 6, ground := Ground.data }], guard := none }) (v := ?_) rfl (by kernel_rfl) (by kernel_rfl) (by kernel_rfl) (fun _ _ _ h => h) (Or.inl ⟨by rfl, ?_⟩) (by assumption) ?_
              rotate_left
              · (intro w hSw; (try dsimp only at hSw); go_simp); first | done | with_reducible rfl
              simp only [Act.put, List.setIfInBounds_toArray, List.set_cons_zero, List.set_cons_succ]
              refine wpAnyH_ready (rs := [8]) (by kernel_rfl) (by simp) ?_
              refine AllReadyH.cons rfl (fun K hK => ?_) ?_
              rotate_left
              · exact AllReadyH.nil
              go_simp
              go_wp2_with fail
              refine (sameInts_true fa fn fc _ ha hb hc _ HS1.out HS2.out (by have := HS1.out.len; have := HXl.out q; omega)).mono ?_
              rintro e w16 ⟨rfl, b16⟩
              have HB16 := hide (HB15.out.trans (b16.mono HB15.out.size))
              refine hK.out _ _ ⟨(b16.cell (World.block_lt_of_cell? _ _ HD1.out)).trans HD1.out, (b16.cell (World.block_lt_of_cell? _ _ HD2.out)).trans HD2.out⟩ (fun hHeld => ?_)
              clear hK K b16
              refine wpAnyH_take (i := 9) (oi := { dst := some 95, op := Op.unOp UnOp.not 4 (Operand.tmp 94), type := 4, pos := "law.go:167", after := #[{ on := 8, ground := Ground.data }], guard := none }) (v := ?_) rfl (by kernel_rfl) (by kernel_rfl) (by kernel_rfl) (fun _ _ _ h => h) (Or.inl ⟨by rfl, ?_⟩) (by assumption) ?_
              rotate_left
              · (intro w hSw; (try dsimp only at hSw); go_simp); first | done | with_reducible rfl
              simp only [Act.put, List.setIfInBounds_toArray, List.set_cons_zero, List.set_cons_succ]
              refine wpAnyH_done (by kernel_rfl) ?_ _
              clear hHeld
              clear HBw HB15 HS1 HS2 HD1 HD2
              go_wp2_with fail
              go_roundw
              case rel => exact ⟨q + 1, by omega, by go_num, HB16⟩
              case measure => simp [intOf]; omega
            · go_wp2_with fail
              go_ret
              exact ⟨rfl, HB9.out.trans (HBw.out.mono HB9.out.size)⟩
      · skip
        have HE : Hid (kstep k (knw k L) ⟨f, t⟩ = knw k L) := by show _ = _; unfold kstep; rw [if_neg]; unfold goodB; simp; (try omega)
        rw [HE.out] at HMi
        clear HE
        have c0 := HP9.out.c0
        have c1 := HP9.out.c1
        simp only at c0 c1
        go_wp2_with fail
        go_loopw [11] (fun i wr => ∃ q : Nat, q ≤ k ∧ i = .int .i64 q ∧ Hid (Below w9.heap.size w9 wr)) (fun i _ => k - (intOf i).toNat)
        case atStart => exact ⟨0, Nat.zero_le _, rfl, Below.refl _ _⟩
        case round =>
          obtain ⟨q, hq, rfl, HBw⟩ := hrel
          by_cases hlt : q < k
          · skip
            have HB15 := hide (HBw.out.trans ((below_drew1 wr).mono HBw.out.size))
            obtain ⟨ad, fa, fn, fc, ead, c1, s1⟩ := (HMw.out.below HB15.out).at' q hlt
            obtain ⟨bd, ha, hb, hc, ebd, c2, s2⟩ := (HMi.out.below HB15.out).at' q hlt
            skip
            have HS1 := hide s1
            have HS2 := hide s2
            have HC1 := hide c1
            have HC2 := hide c2
            obtain rfl := Option.some.inj ead
            obtain rfl := Option.some.inj ebd
            clear s1 s2 c1 c2 ead ebd
            go_wp2_with fail
            have HD1 : Hid (wr.drew.cell? ⟨g4, q, none⟩ = some (.slice fa fn fc)) := by have := HC1.out; rw [Addr.add_lit, Nat.zero_add] at this; exact this
            have HD2 : Hid (wr.drew.cell? ⟨g9, q, none⟩ = some (.slice ha hb hc)) := by have := HC2.out; rw [Addr.add_lit, Nat.zero_add] at this; exact this
            clear HC1 HC2
            refine wp_region_held_drew (S := fun W => W.cell? ⟨g4, q, none⟩ = some (.slice fa fn fc) ∧ W.cell? ⟨g9, q, none⟩ = some (.slice ha hb hc)) (by kernel_rfl) (⟨HD1.out, HD2.out⟩) (fun hHeld => ?_)
            refine wpAnyH_take (i := 0) (oi := { dst := some 86, op := Op.move (Operand.tmp 8), type := 35, pos := "law.go:167", after := #[], guard := none }) (v := ?_) rfl (by kernel_rfl) (by kernel_rfl) (by kernel_rfl) (fun _ _ _ h => h) (Or.inl ⟨by rfl, ?_⟩) (by assumption) ?_
            rotate_left
            · (intro w hSw; (try dsimp only at hSw); go_simp); first | done | with_reducible rfl
            simp only [Act.put, List.setIfInBounds_toArray, List.set_cons_zero, List.set_cons_succ]
            refine wpAnyH_take (i := 1) (oi := { dst := some 87, op := Op.move (Operand.tmp 11), type := 3, pos := "law.go:167", after := #[], guard := none }) (v := ?_) rfl (by kernel_rfl) (by kernel_rfl) (by kernel_rfl) (fun _ _ _ h => h) (Or.inl ⟨by rfl, ?_⟩) (by assumption) ?_
            rotate_left
            · (intro w hSw; (try dsimp only at hSw); go_simp); first | done | with_reducible rfl
            simp only [Act.put, List.setIfInBounds_toArray, List.set_cons_zero, List.set_cons_succ]
            refine wpAnyH_take (i := 2) (oi := { dst := some 88, op := Op.indexAddr 35 (Operand.tmp 86) (Operand.tmp 87), type := 0, pos := "law.go:167", after := #[{ on := 0, ground := Ground.data }, { on := 1, ground := Ground.data }], guard := none }) (v := ?_) rfl (by kernel_rfl) (by kernel_rfl) (by kernel_rfl) (fun _ _ _ h => h) (Or.inl ⟨by rfl, ?_⟩) (by assumption) ?_
            rotate_left
            · (intro w hSw; (try dsimp only at hSw); go_simp); first | done | with_reducible rfl
            simp only [Act.put, List.setIfInBounds_toArray, List.set_cons_zero, List.set_cons_succ]
            refine wpAnyH_take (i := 3) (oi := { dst := some 89, op := Op.load 37 (Operand.tmp 88), type := 37, pos := "law.go:167", after := #[{ on := 2, ground := Ground.data }], guard := none }) (v := ?_) rfl (by kernel_rfl) (by kernel_rfl) (by kernel_rfl) (fun _ _ _ h => h) (Or.inl ⟨by rfl, ?_⟩) (by assumption) ?_
            rotate_left
            · (intro w hSw; (try dsimp only at hSw); go_simp); first | done | with_reducible rfl
            simp only [Act.put, List.setIfInBounds_toArray, List.set_cons_zero, List.set_cons_succ]
            refine wpAnyH_take (i := 4) (oi := { dst := some 90, op := Op.move (Operand.tmp 9), type := 35, pos := "law.go:167", after := #[], guard := none }) (v := ?_) rfl (by kernel_rfl) (by kernel_rfl) (by kernel_rfl) (fun _ _ _ h => h) (Or.inl ⟨by rfl, ?_⟩) (by assumption) ?_
            rotate_left
            · (intro w hSw; (try dsimp only at hSw); go_simp); first | done | with_reducible rfl
            simp only [Act.put, List.setIfInBounds_toArray, List.set_cons_zero, List.set_cons_succ]
            refine wpAnyH_take (i := 5) (oi := { dst := some 91, op := Op.move (Operand.tmp 11), type := 3, pos := "law.go:167", after := #[], guard := none }) (v := ?_) rfl (by kernel_rfl) (by kernel_rfl) (by kernel_rfl) (fun _ _ _ h => h) (Or.inl ⟨by rfl, ?_⟩) (by assumption) ?_
            rotate_left
            · (intro w hSw; (try dsimp only at hSw); go_simp); first | done | with_reducible rfl
            simp only [Act.put, List.setIfInBounds_toArray, List.set_cons_zero, List.set_cons_succ]
            refine wpAnyH_take (i := 6) (oi := { dst := some 92, op := Op.indexAddr 35 (Operand.tmp 90) (Operand.tmp 91), type := 0, pos := "law.go:167", after := #[{ on := 4, ground := Ground.data }, { on := 5, ground := Ground.data }], guard := none }) (v := ?_) rfl (by kernel_rfl) (by kernel_rfl) (by kernel_rfl) (fun _ _ _ h => h) (Or.inl ⟨by rfl, ?_⟩) (by assumption) ?_
            rotate_left
            · (intro w hSw; (try dsimp only at hSw); go_simp); first | done | with_reducible rfl
            simp only [Act.put, List.setIfInBounds_toArray, List.set_cons_zero, List.set_cons_succ]
            refine wpAnyH_take (i := 7) (oi := { dst := some 93, op := Op.load 37 (Operand.tmp 92), type := 37, pos := "law.go:167", after := #[{ on := 6, ground := Ground.data }], guard := none }) (v := ?_) rfl (by kernel_rfl) (by kernel_rfl) (by kernel_rfl) (fun _ _ _ h => h) (Or.inl ⟨by rfl, ?_⟩) (by assumption) ?_
            rotate_left
            · (intro w hSw; (try dsimp only at hSw); go_simp); first | done | with_reducible rfl
            simp only [Act.put, List.setIfInBounds_toArray, List.set_cons_zero, List.set_cons_succ]
            refine wpAnyH_ready (rs := [8]) (by kernel_rfl) (by simp) ?_
            refine AllReadyH.cons rfl (fun K hK => ?_) ?_
            rotate_left
            · exact AllReadyH.nil
            go_simp
            go_wp2_with fail
            refine (sameInts_true fa fn fc _ ha hb hc _ HS1.out HS2.out (by have := HS1.out.len; have := HXl.out q; omega)).mono ?_
            rintro e w16 ⟨rfl, b16⟩
            have HB16 := hide (HB15.out.trans (b16.mono HB15.out.size))
            refine hK.out _ _ ⟨(b16.cell (World.block_lt_of_cell? _ _ HD1.out)).trans HD1.out, (b16.cell (World.block_lt_of_cell? _ _ HD2.out)).trans HD2.out⟩ (fun hHeld => ?_)
            clear hK K b16
            refine wpAnyH_take (i := 9) (oi := { dst := some 95, op := Op.unOp UnOp.not 4 (Operand.tmp 94), type := 4, pos := "law.go:167", after := #[{ on := 8, ground := Ground.data }], guard := none }) (v := ?_) rfl (by kernel_rfl) (by kernel_rfl) (by kernel_rfl) (fun _ _ _ h => h) (Or.inl ⟨by rfl, ?_⟩) (by assumption) ?_
            rotate_left
            · (intro w hSw; (try dsimp only at hSw); go_simp); first | done | with_reducible rfl
            simp only [Act.put, List.setIfInBounds_toArray, List.set_cons_zero, List.set_cons_succ]
            refine wpAnyH_done (by kernel_rfl) ?_ _
            clear hHeld
            clear HBw HB15 HS1 HS2 HD1 HD2
            go_wp2_with fail
            go_roundw
            case rel => exact ⟨q + 1, by omega, by go_num, HB16⟩
            case measure => simp [intOf]; omega
          · go_wp2_with fail
            go_ret
            exact ⟨rfl, HB9.out.trans (HBw.out.mono HB9.out.size)⟩
    · skip
      have HE : Hid (kstep k (knw k L) ⟨f, t⟩ = knw k L) := by show _ = _; unfold kstep; rw [if_neg]; unfold goodB; simp; (try omega)
      rw [HE.out] at HMi
      clear HE
      have c0 := HP9.out.c0
      have c1 := HP9.out.c1
      simp only at c0 c1
      go_wp2_with fail
      go_loopw [11] (fun i wr => ∃ q : Nat, q ≤ k ∧ i = .int .i64 q ∧ Hid (Below w9.heap.size w9 wr)) (fun i _ => k - (intOf i).toNat)
      case atStart => exact ⟨0, Nat.zero_le _, rfl, Below.refl _ _⟩
      case round =>
        obtain ⟨q, hq, rfl, HBw⟩ := hrel
        by_cases hlt : q < k
        · skip
          have HB15 := hide (HBw.out.trans ((below_drew1 wr).mono HBw.out.size))
          obtain ⟨ad, fa, fn, fc, ead, c1, s1⟩ := (HMw.out.below HB15.out).at' q hlt
          obtain ⟨bd, ha, hb, hc, ebd, c2, s2⟩ := (HMi.out.below HB15.out).at' q hlt
          skip
          have HS1 := hide s1
          have HS2 := hide s2
          have HC1 := hide c1
          have HC2 := hide c2
          obtain rfl := Option.some.inj ead
          obtain rfl := Option.some.inj ebd
          clear s1 s2 c1 c2 ead ebd
          go_wp2_with fail
          have HD1 : Hid (wr.drew.cell? ⟨g4, q, none⟩ = some (.slice fa fn fc)) := by have := HC1.out; rw [Addr.add_lit, Nat.zero_add] at this; exact this
          have HD2 : Hid (wr.drew.cell? ⟨g9, q, none⟩ = some (.slice ha hb hc)) := by have := HC2.out; rw [Addr.add_lit, Nat.zero_add] at this; exact this
          clear HC1 HC2
          refine wp_region_held_drew (S := fun W => W.cell? ⟨g4, q, none⟩ = some (.slice fa fn fc) ∧ W.cell? ⟨g9, q, none⟩ = some (.slice ha hb hc)) (by kernel_rfl) (⟨HD1.out, HD2.out⟩) (fun hHeld => ?_)
          refine wpAnyH_take (i := 0) (oi := { dst := some 86, op := Op.move (Operand.tmp 8), type := 35, pos := "law.go:167", after := #[], guard := none }) (v := ?_) rfl (by kernel_rfl) (by kernel_rfl) (by kernel_rfl) (fun _ _ _ h => h) (Or.inl ⟨by rfl, ?_⟩) (by assumption) ?_
          rotate_left
          · (intro w hSw; (try dsimp only at hSw); go_simp); first | done | with_reducible rfl
          simp only [Act.put, List.setIfInBounds_toArray, List.set_cons_zero, List.set_cons_succ]
          refine wpAnyH_take (i := 1) (oi := { dst := some 87, op := Op.move (Operand.tmp 11), type := 3, pos := "law.go:167", after := #[], guard := none }) (v := ?_) rfl (by kernel_rfl) (by kernel_rfl) (by kernel_rfl) (fun _ _ _ h => h) (Or.inl ⟨by rfl, ?_⟩) (by assumption) ?_
          rotate_left
          · (intro w hSw; (try dsimp only at hSw); go_simp); first | done | with_reducible rfl
          simp only [Act.put, List.setIfInBounds_toArray, List.set_cons_zero, List.set_cons_succ]
          refine wpAnyH_take (i := 2) (oi := { dst := some 88, op := Op.indexAddr 35 (Operand.tmp 86) (Operand.tmp 87), type := 0, pos := "law.go:167", after := #[{ on := 0, ground := Ground.data }, { on := 1, ground := Ground.data }], guard := none }) (v := ?_) rfl (by kernel_rfl) (by kernel_rfl) (by kernel_rfl) (fun _ _ _ h => h) (Or.inl ⟨by rfl, ?_⟩) (by assumption) ?_
          rotate_left
          · (intro w hSw; (try dsimp only at hSw); go_simp); first | done | with_reducible rfl
          simp only [Act.put, List.setIfInBounds_toArray, List.set_cons_zero, List.set_cons_succ]
          refine wpAnyH_take (i := 3) (oi := { dst := some 89, op := Op.load 37 (Operand.tmp 88), type := 37, pos := "law.go:167", after := #[{ on := 2, ground := Ground.data }], guard := none }) (v := ?_) rfl (by kernel_rfl) (by kernel_rfl) (by kernel_rfl) (fun _ _ _ h => h) (Or.inl ⟨by rfl, ?_⟩) (by assumption) ?_
          rotate_left
          · (intro w hSw; (try dsimp only at hSw); go_simp); first | done | with_reducible rfl
          simp only [Act.put, List.setIfInBounds_toArray, List.set_cons_zero, List.set_cons_succ]
          refine wpAnyH_take (i := 4) (oi := { dst := some 90, op := Op.move (Operand.tmp 9), type := 35, pos := "law.go:167", after := #[], guard := none }) (v := ?_) rfl (by kernel_rfl) (by kernel_rfl) (by kernel_rfl) (fun _ _ _ h => h) (Or.inl ⟨by rfl, ?_⟩) (by assumption) ?_
          rotate_left
          · (intro w hSw; (try dsimp only at hSw); go_simp); first | done | with_reducible rfl
          simp only [Act.put, List.setIfInBounds_toArray, List.set_cons_zero, List.set_cons_succ]
          refine wpAnyH_take (i := 5) (oi := { dst := some 91, op := Op.move (Operand.tmp 11), type := 3, pos := "law.go:167", after := #[], guard := none }) (v := ?_) rfl (by kernel_rfl) (by kernel_rfl) (by kernel_rfl) (fun _ _ _ h => h) (Or.inl ⟨by rfl, ?_⟩) (by assumption) ?_
          rotate_left
          · (intro w hSw; (try dsimp only at hSw); go_simp); first | done | with_reducible rfl
          simp only [Act.put, List.setIfInBounds_toArray, List.set_cons_zero, List.set_cons_succ]
          refine wpAnyH_take (i := 6) (oi := { dst := some 92, op := Op.indexAddr 35 (Operand.tmp 90) (Operand.tmp 91), type := 0, pos := "law.go:167", after := #[{ on := 4, ground := Ground.data }, { on := 5, ground := Ground.data }], guard := none }) (v := ?_) rfl (by kernel_rfl) (by kernel_rfl) (by kernel_rfl) (fun _ _ _ h => h) (Or.inl ⟨by rfl, ?_⟩) (by assumption) ?_
          rotate_left
          · (intro w hSw; (try dsimp only at hSw); go_simp); first | done | with_reducible rfl
          simp only [Act.put, List.setIfInBounds_toArray, List.set_cons_zero, List.set_cons_succ]
          refine wpAnyH_take (i := 7) (oi := { dst := some 93, op := Op.load 37 (Operand.tmp 92), type := 37, pos := "law.go:167", after := #[{ on := 6, ground := Ground.data }], guard := none }) (v := ?_) rfl (by kernel_rfl) (by kernel_rfl) (by kernel_rfl) (fun _ _ _ h => h) (Or.inl ⟨by rfl, ?_⟩) (by assumption) ?_
          rotate_left
          · (intro w hSw; (try dsimp only at hSw); go_simp); first | done | with_reducible rfl
          simp only [Act.put, List.setIfInBounds_toArray, List.set_cons_zero, List.set_cons_succ]
          refine wpAnyH_ready (rs := [8]) (by kernel_rfl) (by simp) ?_
          refine AllReadyH.cons rfl (fun K hK => ?_) ?_
          rotate_left
          · exact AllReadyH.nil
          go_simp
          go_wp2_with fail
          refine (sameInts_true fa fn fc _ ha hb hc _ HS1.out HS2.out (by have := HS1.out.len; have := HXl.out q; omega)).mono ?_
          rintro e w16 ⟨rfl, b16⟩
          have HB16 := hide (HB15.out.trans (b16.mono HB15.out.size))
          refine hK.out _ _ ⟨(b16.cell (World.block_lt_of_cell? _ _ HD1.out)).trans HD1.out, (b16.cell (World.block_lt_of_cell? _ _ HD2.out)).trans HD2.out⟩ (fun hHeld => ?_)
          clear hK K b16
          refine wpAnyH_take (i := 9) (oi := { dst := some 95, op := Op.unOp UnOp.not 4 (Operand.tmp 94), type := 4, pos := "law.go:167", after := #[{ on := 8, ground := Ground.data }], guard := none }) (v := ?_) rfl (by kernel_rfl) (by kernel_rfl) (by kernel_rfl) (fun _ _ _ h => h) (Or.inl ⟨by rfl, ?_⟩) (by assumption) ?_
          rotate_left
          · (intro w hSw; (try dsimp only at hSw); go_simp); first | done | with_reducible rfl
          simp only [Act.put, List.setIfInBounds_toArray, List.set_cons_zero, List.set_cons_succ]
          refine wpAnyH_done (by kernel_rfl) ?_ _
          clear hHeld
          clear HBw HB15 HS1 HS2 HD1 HD2
          go_wp2_with fail
          go_roundw
          case rel => exact ⟨q + 1, by omega, by go_num, HB16⟩
          case measure => simp [intOf]; omega
        · go_wp2_with fail
          go_ret
          exact ⟨rfl, HB9.out.trans (HBw.out.mono HB9.out.size)⟩
  · go_simp
    have HL5 := hide (PSrc.lit1 w4.drew f t)
    have HB5l := hide (HB5.out.trans ((below_new w4.drew (.cells #[.int .i64 f, .int .i64 t] 28)).mono HB5.out.size))
    have HP5l := hide (HP5.out.below (below_new w4.drew (.cells #[.int .i64 f, .int .i64 t] 28)))
    have HM5l := hide (HM5.out.below (below_new w4.drew (.cells #[.int .i64 f, .int .i64 t] 28)))
    have HS5l := hide (HS5.out.below (below_new w4.drew (.cells #[.int .i64 f, .int .i64 t] 28)))
    refine hK.out _ _ HP5l.out (fun hHeld => ?_)
    clear hK K
    refine wpAnyH_ready (rs := [2]) (by kernel_rfl) (by simp) ?_
    refine AllReadyH.cons rfl (fun K hK => ?_) ?_
    rotate_left
    · exact AllReadyH.nil
    go_simp
    go_wp2_with fail
    refine (copyPairs_any _ _ _ _ _ HS5l.out (by omega)).mono ?_
    rintro e w6 ⟨b6, c6, rfl, R6, N6⟩
    have HR6 := hide R6
    have HP6 := hide (HP5l.out.below N6.1)
    have HN6 := hide N6
    have HL7 := hide (HL5.out.below N6.1)
    clear R6 N6
    refine hK.out _ _ HP6.out (fun hHeld => ?_)
    clear hK K
    have HR7 := HR6
    have HN7 := HN6
    obtain ⟨b8, c8, w8, hrun, R8, A8⟩ := HR7.out.runsS HL7.out (by omega) (by simp) 22
    have HR8 := hide R8
    have N8 := HN7.out.ap A8
    have HB8 := hide (HB5l.out.trans (N8.1.mono HB5l.out.size))
    have HP8 := hide (HP5l.out.below N8.1)
    have HM8 := hide (HM5l.out.below N8.1)
    clear R8 A8 N8
    refine wpAnyH_ready (rs := [5]) (by kernel_rfl) (by simp) ?_
    refine AllReadyH.cons rfl (fun K hK => ?_) ?_
    rotate_left
    · exact AllReadyH.nil
    refine step_appP (by rfl) (.tmp 31) (.tmp 33) (by rfl) (by rfl) (by rfl) hrun ?_
    simp only [Act.put, List.setIfInBounds_toArray]
    refine hK.out _ _ HP8.out (fun hHeld => ?_)
    clear hK K
    refine wpAnyH_ready (rs := [6]) (by kernel_rfl) (by simp) ?_
    refine AllReadyH.cons rfl (fun K hK => ?_) ?_
    rotate_left
    · exact AllReadyH.nil
    go_simp
    go_wp2_with fail
    refine (HR.out _ _ _ _ _ HR8.out.src (by omega)).mono ?_
    rintro e w9 ⟨g9, F9, rfl, M9⟩
    rw [knw_snoc] at M9
    have HMi := hide M9.src
    have HB9 := hide (HB8.out.trans (M9.bel.mono HB8.out.size))
    have HP9 := hide (HP8.out.below M9.bel)
    have HMw := hide (HM8.out.below M9.bel)
    clear M9
    refine hK.out _ _ HP9.out (fun hHeld => ?_)
    clear hK K
    refine wpAnyH_take (i := 7) (oi := { dst := some 9, op := Op.assign (Operand.tmp 35), type := 35, pos := "law.go:160", after := #[{ on := 6, ground := Ground.data }, { on := 6, ground := Ground.chain }, { on := 0, ground := Ground.phase }, { on := 1, ground := Ground.phase }, { on := 2, ground := Ground.phase }, { on := 3, ground := Ground.phase }, { on := 4, ground := Ground.phase }, { on := 5, ground := Ground.phase }, { on := 6, ground := Ground.phase }], guard := none }) (v := ?_) rfl (by kernel_rfl) (by kernel_rfl) (by kernel_rfl) (fun _ _ _ h => h) (Or.inl ⟨by rfl, ?_⟩) (by assumption) ?_
    rotate_left
    · (intro w hSw; (try dsimp only at hSw); go_simp); first | done | with_reducible rfl
    simp only [Act.put, List.setIfInBounds_toArray, List.set_cons_zero, List.set_cons_succ]
    refine wpAnyH_done (by kernel_rfl) ?_ _
    clear hHeld
    have HXl : Hid (∀ i, (rl (knw k L i) k).length ≤ 16) := fun i => Nat.le_trans (rl_len _ _) (by omega)
    clear HB8 HP8 HM8 HR8 HR7 HL7 HN7 HB5 HP5 HS5 HM5 hrun HR
    by_cases h1 : 0 ≤ f
    · skip
      by_cases h2 : f < k
      · skip
        by_cases h3 : 0 ≤ t
        · skip
          by_cases h4 : t < k
          · skip
            by_cases h5 : f = t
            · skip
              subst h5
              have HE : Hid (kstep k (knw k L) ⟨f, f⟩ = knw k L) := by show _ = _; unfold kstep; rw [if_neg]; unfold goodB; simp; (try omega)
              rw [HE.out] at HMi
              clear HE
              have c0 := HP9.out.c0
              have c1 := HP9.out.c1
              simp only at c0 c1
              go_wp2_with fail
              go_loopw [11] (fun i wr => ∃ q : Nat, q ≤ k ∧ i = .int .i64 q ∧ Hid (Below w9.heap.size w9 wr)) (fun i _ => k - (intOf i).toNat)
              case atStart => exact ⟨0, Nat.zero_le _, rfl, Below.refl _ _⟩
              case round =>
                obtain ⟨q, hq, rfl, HBw⟩ := hrel
                by_cases hlt : q < k
                · skip
                  have HB15 := hide (HBw.out.trans ((below_drew1 wr).mono HBw.out.size))
                  obtain ⟨ad, fa, fn, fc, ead, c1, s1⟩ := (HMw.out.below HB15.out).at' q hlt
                  obtain ⟨bd, ha, hb, hc, ebd, c2, s2⟩ := (HMi.out.below HB15.out).at' q hlt
                  skip
                  have HS1 := hide s1
                  have HS2 := hide s2
                  have HC1 := hide c1
                  have HC2 := hide c2
                  obtain rfl := Option.some.inj ead
                  obtain rfl := Option.some.inj ebd
                  clear s1 s2 c1 c2 ead ebd
                  go_wp2_with fail
                  have HD1 : Hid (wr.drew.cell? ⟨g4, q, none⟩ = some (.slice fa fn fc)) := by have := HC1.out; rw [Addr.add_lit, Nat.zero_add] at this; exact this
                  have HD2 : Hid (wr.drew.cell? ⟨g9, q, none⟩ = some (.slice ha hb hc)) := by have := HC2.out; rw [Addr.add_lit, Nat.zero_add] at this; exact this
                  clear HC1 HC2
                  refine wp_region_held_drew (S := fun W => W.cell? ⟨g4, q, none⟩ = some (.slice fa fn fc) ∧ W.cell? ⟨g9, q, none⟩ = some (.slice ha hb hc)) (by kernel_rfl) (⟨HD1.out, HD2.out⟩) (fun hHeld => ?_)
                  refine wpAnyH_take (i := 0) (oi := { dst := some 86, op := Op.move (Operand.tmp 8), type := 35, pos := "law.go:167", after := #[], guard := none }) (v := ?_) rfl (by kernel_rfl) (by kernel_rfl) (by kernel_rfl) (fun _ _ _ h => h) (Or.inl ⟨by rfl, ?_⟩) (by assumption) ?_
                  rotate_left
                  · (intro w hSw; (try dsimp only at hSw); go_simp); first | done | with_reducible rfl
                  simp only [Act.put, List.setIfInBounds_toArray, List.set_cons_zero, List.set_cons_succ]
                  refine wpAnyH_take (i := 1) (oi := { dst := some 87, op := Op.move (Operand.tmp 11), type := 3, pos := "law.go:167", after := #[], guard := none }) (v := ?_) rfl (by kernel_rfl) (by kernel_rfl) (by kernel_rfl) (fun _ _ _ h => h) (Or.inl ⟨by rfl, ?_⟩) (by assumption) ?_
                  rotate_left
                  · (intro w hSw; (try dsimp only at hSw); go_simp); first | done | with_reducible rfl
                  simp only [Act.put, List.setIfInBounds_toArray, List.set_cons_zero, List.set_cons_succ]
                  refine wpAnyH_take (i := 2) (oi := { dst := some 88, op := Op.indexAddr 35 (Operand.tmp 86) (Operand.tmp 87), type := 0, pos := "law.go:167", after := #[{ on := 0, ground := Ground.data }, { on := 1, ground := Ground.data }], guard := none }) (v := ?_) rfl (by kernel_rfl) (by kernel_rfl) (by kernel_rfl) (fun _ _ _ h => h) (Or.inl ⟨by rfl, ?_⟩) (by assumption) ?_
                  rotate_left
                  · (intro w hSw; (try dsimp only at hSw); go_simp); first | done | with_reducible rfl
                  simp only [Act.put, List.setIfInBounds_toArray, List.set_cons_zero, List.set_cons_succ]
                  refine wpAnyH_take (i := 3) (oi := { dst := some 89, op := Op.load 37 (Operand.tmp 88), type := 37, pos := "law.go:167", after := #[{ on := 2, ground := Ground.data }], guard := none }) (v := ?_) rfl (by kernel_rfl) (by kernel_rfl) (by kernel_rfl) (fun _ _ _ h => h) (Or.inl ⟨by rfl, ?_⟩) (by assumption) ?_
                  rotate_left
                  · (intro w hSw; (try dsimp only at hSw); go_simp); first | done | with_reducible rfl
                  simp only [Act.put, List.setIfInBounds_toArray, List.set_cons_zero, List.set_cons_succ]
                  refine wpAnyH_take (i := 4) (oi := { dst := some 90, op := Op.move (Operand.tmp 9), type := 35, pos := "law.go:167", after := #[], guard := none }) (v := ?_) rfl (by kernel_rfl) (by kernel_rfl) (by kernel_rfl) (fun _ _ _ h => h) (Or.inl ⟨by rfl, ?_⟩) (by assumption) ?_
                  rotate_left
                  · (intro w hSw; (try dsimp only at hSw); go_simp); first | done | with_reducible rfl
                  simp only [Act.put, List.setIfInBounds_toArray, List.set_cons_zero, List.set_cons_succ]
                  refine wpAnyH_take (i := 5) (oi := { dst := some 91, op := Op.move (Operand.tmp 11), type := 3, pos := "law.go:167", after := #[], guard := none }) (v := ?_) rfl (by kernel_rfl) (by kernel_rfl) (by kernel_rfl) (fun _ _ _ h => h) (Or.inl ⟨by rfl, ?_⟩) (by assumption) ?_
                  rotate_left
                  · (intro w hSw; (try dsimp only at hSw); go_simp); first | done | with_reducible rfl
                  simp only [Act.put, List.setIfInBounds_toArray, List.set_cons_zero, List.set_cons_succ]
                  refine wpAnyH_take (i := 6) (oi := { dst := some 92, op := Op.indexAddr 35 (Operand.tmp 90) (Operand.tmp 91), type := 0, pos := "law.go:167", after := #[{ on := 4, ground := Ground.data }, { on := 5, ground := Ground.data }], guard := none }) (v := ?_) rfl (by kernel_rfl) (by kernel_rfl) (by kernel_rfl) (fun _ _ _ h => h) (Or.inl ⟨by rfl, ?_⟩) (by assumption) ?_
                  rotate_left
                  · (intro w hSw; (try dsimp only at hSw); go_simp); first | done | with_reducible rfl
                  simp only [Act.put, List.setIfInBounds_toArray, List.set_cons_zero, List.set_cons_succ]
                  refine wpAnyH_take (i := 7) (oi := { dst := some 93, op := Op.load 37 (Operand.tmp 92), type := 37, pos := "law.go:167", after := #[{ on := 6, ground := Ground.data }], guard := none }) (v := ?_) rfl (by kernel_rfl) (by kernel_rfl) (by kernel_rfl) (fun _ _ _ h => h) (Or.inl ⟨by rfl, ?_⟩) (by assumption) ?_
                  rotate_left
                  · (intro w hSw; (try dsimp only at hSw); go_simp); first | done | with_reducible rfl
                  simp only [Act.put, List.setIfInBounds_toArray, List.set_cons_zero, List.set_cons_succ]
                  refine wpAnyH_ready (rs := [8]) (by kernel_rfl) (by simp) ?_
                  refine AllReadyH.cons rfl (fun K hK => ?_) ?_
                  rotate_left
                  · exact AllReadyH.nil
                  go_simp
                  go_wp2_with fail
                  refine (sameInts_true fa fn fc _ ha hb hc _ HS1.out HS2.out (by have := HS1.out.len; have := HXl.out q; omega)).mono ?_
                  rintro e w16 ⟨rfl, b16⟩
                  have HB16 := hide (HB15.out.trans (b16.mono HB15.out.size))
                  refine hK.out _ _ ⟨(b16.cell (World.block_lt_of_cell? _ _ HD1.out)).trans HD1.out, (b16.cell (World.block_lt_of_cell? _ _ HD2.out)).trans HD2.out⟩ (fun hHeld => ?_)
                  clear hK K b16
                  refine wpAnyH_take (i := 9) (oi := { dst := some 95, op := Op.unOp UnOp.not 4 (Operand.tmp 94), type := 4, pos := "law.go:167", after := #[{ on := 8, ground := Ground.data }], guard := none }) (v := ?_) rfl (by kernel_rfl) (by kernel_rfl) (by kernel_rfl) (fun _ _ _ h => h) (Or.inl ⟨by rfl, ?_⟩) (by assumption) ?_
                  rotate_left
                  · (intro w hSw; (try dsimp only at hSw); go_simp); first | done | with_reducible rfl
                  simp only [Act.put, List.setIfInBounds_toArray, List.set_cons_zero, List.set_cons_succ]
                  refine wpAnyH_done (by kernel_rfl) ?_ _
                  clear hHeld
                  clear HBw HB15 HS1 HS2 HD1 HD2
                  go_wp2_with fail
                  go_roundw
                  case rel => exact ⟨q + 1, by omega, by go_num, HB16⟩
                  case measure => simp [intOf]; omega
                · go_wp2_with fail
                  go_ret
                  exact ⟨rfl, HB9.out.trans (HBw.out.mono HB9.out.size)⟩
            · skip
              obtain ⟨a, b, rfl, rfl, ha, hb, hab⟩ : ∃ a b : Nat, f = (a : Int) ∧ t = (b : Int) ∧ a < k ∧ b < k ∧ a ≠ b := ⟨f.toNat, t.toNat, by omega, by omega, by omega, by omega, by omega⟩
              have hgd : goodB k (a : Int) (b : Int) = true := by unfold goodB; simp; omega
              have HE : Hid (kstep k (knw k L) ⟨(a : Int), (b : Int)⟩ = kup (knw k L) b (knw k L a) 16) := by show _ = _; unfold kstep; rw [if_pos hgd]; rfl
              rw [HE.out] at HMi
              clear HE hgd h1 h2 h3 h4 h5
              have HDg := hide (knw_diag k L b hb)
              obtain ⟨M, hM⟩ : ∃ M, knw k L = M := ⟨_, rfl⟩
              rw [hM] at HMi HMw HXl HDg
              clear hM
              have ha' : (a : Int) < k := by omega
              have hb' : (b : Int) < k := by omega
              have hab' : ((a : Int) != (b : Int)) = true := by simp; omega
              have c0 := HP9.out.c0
              have c1 := HP9.out.c1
              simp only at c0 c1
              go_wp2_with fail
              clear c0 c1
              go_loopw [11] (fun i wr => ∃ q : Nat, q ≤ k ∧ i = .int .i64 q ∧ Hid (Below w9.heap.size w9 wr)) (fun i _ => k - (intOf i).toNat)
              case atStart => exact ⟨0, Nat.zero_le _, rfl, Below.refl _ _⟩
              case round =>
                obtain ⟨q, hq, rfl, HBw⟩ := hrel
                by_cases hlt : q < k
                · have hPx := HP9.out.below HBw.out
                  have c0 := hPx.c0
                  have c1 := hPx.c1
                  simp only at c0 c1
                  clear hPx
                  by_cases hqb : q = b
                  · subst hqb
                    have HI := hide ((HMi.out.below HBw.out).congr (Y := fun i => rl (kup M q (M a) 16 i) k) (fun i _ => rfl))
                    obtain ⟨ad, fa, fn, fc, ead, d1, s1⟩ := (HMw.out.below HBw.out).at' q hlt
                    obtain ⟨bd, ga, gn, gc, ebd, d2, s2⟩ := (HMw.out.below HBw.out).at' a ha
                    obtain ⟨cd, ia, in_, ic, ecd, d3, s3⟩ := HI.out.at' q hlt
                    obtain rfl := Option.some.inj ead
                    obtain rfl := Option.some.inj ebd
                    obtain rfl := Option.some.inj ecd
                    rw [Addr.add_lit, Nat.zero_add] at d1 d2 d3
                    have s3' : NSrc wr ia in_ ic (rl (fun o => M q o || M a o) k) := by rw [← kup_row M q (M a) k hk]; exact s3
                    have HD1 := hide d1
                    have HD2 := hide d2
                    have HD3 := hide d3
                    have HS1 := hide s1
                    have HS2 := hide s2
                    have HS3 := hide s3'
                    have HC0 := hide c0
                    have HAq : Hid (∀ w9, Below wr.heap.size wr w9 → Calls Try.prog 21 #[.slice fa fn fc, .int .i64 (q : Int)] w9 fun e w' => e = .returned (.bool true) ∧ w9 = w') := fun w9 b9 => by have := has_rl fa fn fc (M q) k q w9 (HS1.out.below b9) hk hlt; rw [HDg.out] at this; exact this
                    have HBe := hide (below_new wr (.cells #[] 3))
                    clear s1 s2 s3 s3' d1 d2 d3 ead ebd ecd HI
                    go_wp2_with fail
                    clear c0 c1
                    go_loopw [12, 13] (fun p i wi => ∃ (o : Nat) (eo : Option Addr) (m cc : Nat), o ≤ k ∧ i = .int .i64 o ∧ p = .slice eo m cc ∧ Hid (GrI wr wi eo m cc (rl (fun o => M q o || M a o) o))) (fun _ i _ => k - (intOf i).toNat)
                    case atStart => exact ⟨0, _, 0, 0, Nat.zero_le _, rfl, rfl, GrI.lit wr⟩
                    case round =>
                      clear HBe
                      obtain ⟨o, eo, m, cc, ho, rfl, rfl, HG⟩ := hrel
                      by_cases hl2 : o < k
                      · have d1 := (HG.out.a.1.cell (World.block_lt_of_cell? _ _ HD1.out)).trans HD1.out
                        have d2 := (HG.out.a.1.cell (World.block_lt_of_cell? _ _ HD2.out)).trans HD2.out
                        have d4 := (HG.out.a.1.cell (World.block_lt_of_cell? _ _ HC0.out)).trans HC0.out
                        have HA1 := hide (has_rl fa fn fc (M q) k o _ (HS1.out.below HG.out.a.1) hk hl2)
                        have HA2 := hide (has_rl ga gn gc (M a) k o _ (HS2.out.below HG.out.a.1) hk hl2)
                        have HR := hide HG.out.r
                        have HN : Hid (m + 1 ≤ 17592186044316) := by
                          show _ ≤ _
                          have h1 := HR.out.len
                          have h2 := rl_len (fun o => M q o || M a o) o
                          omega
                        cases hx : M q o
                        · cases hy : M a o
                          · have HQ := hide (rl_stay (fun o => M q o || M a o) o (by rw [hx, hy]; rfl))
                            rw [hx] at HA1
                            rw [hy] at HA2
                            clear hx hy
                            go_wp2_with (first
                              | (go_at_call 21; refine HA1.out.mono ?_; rintro e wx ⟨rfl, rfl⟩; clear HA1)
                              | (go_at_call 21; refine HA2.out.mono ?_; rintro e wx ⟨rfl, rfl⟩; clear HA2))
                            go_roundw
                            case rel => exact ⟨o + 1, eo, m, cc, by omega, by go_num, rfl, by show GrI _ _ _ _ _ _; rw [HQ.out]; exact HG.out⟩
                            case measure => simp [intOf]; omega
                          · have HQ := hide (rl_next (fun o => M q o || M a o) o (by rw [hx, hy]; rfl))
                            rw [hx] at HA1
                            rw [hy] at HA2
                            clear hx hy
                            go_wp2_with (first
                              | (go_at_call 21; refine HA1.out.mono ?_; rintro e wx ⟨rfl, rfl⟩; clear HA1)
                              | (go_at_call 21; refine HA2.out.mono ?_; rintro e wx ⟨rfl, rfl⟩; clear HA2)
                              | (at_builtin; refine HR.out.app1 (o : Int) HN.out rfl (.tmp 117) (.tmp 119) rfl rfl rfl ?_; intro b4 c4 w4 R4 A4; have HG4 := hide (HG.out.app R4 A4); clear R4 A4))
                            go_roundw
                            case rel => exact ⟨o + 1, b4, m + 1, c4, by omega, by go_num, rfl, by show GrI _ _ _ _ _ _; rw [HQ.out]; exact HG4.out⟩
                            case measure => simp [intOf]; omega
                        · have HQ := hide (rl_next (fun o => M q o || M a o) o (by rw [hx]; rfl))
                          rw [hx] at HA1
                          clear hx HA2
                          go_wp2_with (first
                            | (go_at_call 21; refine HA1.out.mono ?_; rintro e wx ⟨rfl, rfl⟩; clear HA1)
                            | (at_builtin; refine HR.out.app1 (o : Int) HN.out rfl (.tmp 117) (.tmp 119) rfl rfl rfl ?_; intro b4 c4 w4 R4 A4; have HG4 := hide (HG.out.app R4 A4); clear R4 A4))
                          go_roundw
                          case rel => exact ⟨o + 1, b4, m + 1, c4, by omega, by go_num, rfl, by show GrI _ _ _ _ _ _; rw [HQ.out]; exact HG4.out⟩
                          case measure => simp [intOf]; omega
                      · obtain rfl : o = k := by omega
                        have d1 := (HG.out.a.1.cell (World.block_lt_of_cell? _ _ HD1.out)).trans HD1.out
                        have d3 := (HG.out.a.1.cell (World.block_lt_of_cell? _ _ HD3.out)).trans HD3.out
                        have HI1 := hide (sameInts_true ia in_ ic _ eo m cc _ (HS3.out.below HG.out.a.1) HG.out.r.src (by have := HS3.out.len; have := rl_len (fun i => M q i || M a i) o; omega))
                        go_wp2_with (first
                          | (go_at_call 20; refine HI1.out.mono ?_; rintro e w17 ⟨rfl, b17⟩; have hb17 := HG.out.a.1.trans (b17.mono HG.out.a.1.size); have HB17 := hide hb17; have d5 := (hb17.cell (World.block_lt_of_cell? _ _ HD1.out)).trans HD1.out; clear b17 HI1 hb17)
                          | (go_at_call 21; refine (HAq.out _ HB17.out).mono ?_; rintro e wx ⟨rfl, rfl⟩))
                        go_roundw
                        case rel => exact ⟨q + 1, by omega, by go_num, HBw.out.trans (HB17.out.mono HBw.out.size)⟩
                        case measure => simp [intOf]; omega
                  · have hqb' : ((q : Int) != (b : Int)) = true := by simp; omega
                    have HB15 := hide (HBw.out.trans ((below_drew1 wr).mono HBw.out.size))
                    obtain ⟨ad, fa, fn, fc, ead, c1, s1⟩ := (HMw.out.below HB15.out).at' q hlt
                    obtain ⟨bd, ha, hb, hc, ebd, c2, s2⟩ := (HMi.out.below HB15.out).at' q hlt
                    have s2 := (by have := s2; rw [kup_other M b q (M a) hqb] at this; exact this : NSrc wr.drew ha hb hc (rl (M q) k))
                    have HS1 := hide s1
                    have HS2 := hide s2
                    have HC1 := hide c1
                    have HC2 := hide c2
                    obtain rfl := Option.some.inj ead
                    obtain rfl := Option.some.inj ebd
                    clear s1 s2 c1 c2 ead ebd
                    go_wp2_with fail
                    have HD1 : Hid (wr.drew.cell? ⟨g4, q, none⟩ = some (.slice fa fn fc)) := by have := HC1.out; rw [Addr.add_lit, Nat.zero_add] at this; exact this
                    have HD2 : Hid (wr.drew.cell? ⟨g9, q, none⟩ = some (.slice ha hb hc)) := by have := HC2.out; rw [Addr.add_lit, Nat.zero_add] at this; exact this
                    clear HC1 HC2
                    refine wp_region_held_drew (S := fun W => W.cell? ⟨g4, q, none⟩ = some (.slice fa fn fc) ∧ W.cell? ⟨g9, q, none⟩ = some (.slice ha hb hc)) (by kernel_rfl) (⟨HD1.out, HD2.out⟩) (fun hHeld => ?_)
                    refine wpAnyH_take (i := 0) (oi := { dst := some 86, op := Op.move (Operand.tmp 8), type := 35, pos := "law.go:167", after := #[], guard := none }) (v := ?_) rfl (by kernel_rfl) (by kernel_rfl) (by kernel_rfl) (fun _ _ _ h => h) (Or.inl ⟨by rfl, ?_⟩) (by assumption) ?_
                    rotate_left
                    · (intro w hSw; (try dsimp only at hSw); go_simp); first | done | with_reducible rfl
                    simp only [Act.put, List.setIfInBounds_toArray, List.set_cons_zero, List.set_cons_succ]
                    refine wpAnyH_take (i := 1) (oi := { dst := some 87, op := Op.move (Operand.tmp 11), type := 3, pos := "law.go:167", after := #[], guard := none }) (v := ?_) rfl (by kernel_rfl) (by kernel_rfl) (by kernel_rfl) (fun _ _ _ h => h) (Or.inl ⟨by rfl, ?_⟩) (by assumption) ?_
                    rotate_left
                    · (intro w hSw; (try dsimp only at hSw); go_simp); first | done | with_reducible rfl
                    simp only [Act.put, List.setIfInBounds_toArray, List.set_cons_zero, List.set_cons_succ]
                    refine wpAnyH_take (i := 2) (oi := { dst := some 88, op := Op.indexAddr 35 (Operand.tmp 86) (Operand.tmp 87), type := 0, pos := "law.go:167", after := #[{ on := 0, ground := Ground.data }, { on := 1, ground := Ground.data }], guard := none }) (v := ?_) rfl (by kernel_rfl) (by kernel_rfl) (by kernel_rfl) (fun _ _ _ h => h) (Or.inl ⟨by rfl, ?_⟩) (by assumption) ?_
                    rotate_left
                    · (intro w hSw; (try dsimp only at hSw); go_simp); first | done | with_reducible rfl
                    simp only [Act.put, List.setIfInBounds_toArray, List.set_cons_zero, List.set_cons_succ]
                    refine wpAnyH_take (i := 3) (oi := { dst := some 89, op := Op.load 37 (Operand.tmp 88), type := 37, pos := "law.go:167", after := #[{ on := 2, ground := Ground.data }], guard := none }) (v := ?_) rfl (by kernel_rfl) (by kernel_rfl) (by kernel_rfl) (fun _ _ _ h => h) (Or.inl ⟨by rfl, ?_⟩) (by assumption) ?_
                    rotate_left
                    · (intro w hSw; (try dsimp only at hSw); go_simp); first | done | with_reducible rfl
                    simp only [Act.put, List.setIfInBounds_toArray, List.set_cons_zero, List.set_cons_succ]
                    refine wpAnyH_take (i := 4) (oi := { dst := some 90, op := Op.move (Operand.tmp 9), type := 35, pos := "law.go:167", after := #[], guard := none }) (v := ?_) rfl (by kernel_rfl) (by kernel_rfl) (by kernel_rfl) (fun _ _ _ h => h) (Or.inl ⟨by rfl, ?_⟩) (by assumption) ?_
                    rotate_left
                    · (intro w hSw; (try dsimp only at hSw); go_simp); first | done | with_reducible rfl
                    simp only [Act.put, List.setIfInBounds_toArray, List.set_cons_zero, List.set_cons_succ]
                    refine wpAnyH_take (i := 5) (oi := { dst := some 91, op := Op.move (Operand.tmp 11), type := 3, pos := "law.go:167", after := #[], guard := none }) (v := ?_) rfl (by kernel_rfl) (by kernel_rfl) (by kernel_rfl) (fun _ _ _ h => h) (Or.inl ⟨by rfl, ?_⟩) (by assumption) ?_
                    rotate_left
                    · (intro w hSw; (try dsimp only at hSw); go_simp); first | done | with_reducible rfl
                    simp only [Act.put, List.setIfInBounds_toArray, List.set_cons_zero, List.set_cons_succ]
                    refine wpAnyH_take (i := 6) (oi := { dst := some 92, op := Op.indexAddr 35 (Operand.tmp 90) (Operand.tmp 91), type := 0, pos := "law.go:167", after := #[{ on := 4, ground := Ground.data }, { on := 5, ground := Ground.data }], guard := none }) (v := ?_) rfl (by kernel_rfl) (by kernel_rfl) (by kernel_rfl) (fun _ _ _ h => h) (Or.inl ⟨by rfl, ?_⟩) (by assumption) ?_
                    rotate_left
                    · (intro w hSw; (try dsimp only at hSw); go_simp); first | done | with_reducible rfl
                    simp only [Act.put, List.setIfInBounds_toArray, List.set_cons_zero, List.set_cons_succ]
                    refine wpAnyH_take (i := 7) (oi := { dst := some 93, op := Op.load 37 (Operand.tmp 92), type := 37, pos := "law.go:167", after := #[{ on := 6, ground := Ground.data }], guard := none }) (v := ?_) rfl (by kernel_rfl) (by kernel_rfl) (by kernel_rfl) (fun _ _ _ h => h) (Or.inl ⟨by rfl, ?_⟩) (by assumption) ?_
                    rotate_left
                    · (intro w hSw; (try dsimp only at hSw); go_simp); first | done | with_reducible rfl
                    simp only [Act.put, List.setIfInBounds_toArray, List.set_cons_zero, List.set_cons_succ]
                    refine wpAnyH_ready (rs := [8]) (by kernel_rfl) (by simp) ?_
                    refine AllReadyH.cons rfl (fun K hK => ?_) ?_
                    rotate_left
                    · exact AllReadyH.nil
                    go_simp
                    go_wp2_with fail
                    refine (sameInts_true fa fn fc _ ha hb hc _ HS1.out HS2.out (by have := HS1.out.len; have := HXl.out q; omega)).mono ?_
                    rintro e w16 ⟨rfl, b16⟩
                    have HB16 := hide (HB15.out.trans (b16.mono HB15.out.size))
                    refine hK.out _ _ ⟨(b16.cell (World.block_lt_of_cell? _ _ HD1.out)).trans HD1.out, (b16.cell (World.block_lt_of_cell? _ _ HD2.out)).trans HD2.out⟩ (fun hHeld => ?_)
                    clear hK K b16
                    refine wpAnyH_take (i := 9) (oi := { dst := some 95, op := Op.unOp UnOp.not 4 (Operand.tmp 94), type := 4, pos := "law.go:167", after := #[{ on := 8, ground := Ground.data }], guard := none }) (v := ?_) rfl (by kernel_rfl) (by kernel_rfl) (by kernel_rfl) (fun _ _ _ h => h) (Or.inl ⟨by rfl, ?_⟩) (by assumption) ?_
                    rotate_left
                    · (intro w hSw; (try dsimp only at hSw); go_simp); first | done | with_reducible rfl
                    simp only [Act.put, List.setIfInBounds_toArray, List.set_cons_zero, List.set_cons_succ]
                    refine wpAnyH_done (by kernel_rfl) ?_ _
                    clear hHeld
                    clear HBw HB15 HS1 HS2 HD1 HD2
                    go_wp2_with fail
                    go_roundw
                    case rel => exact ⟨q + 1, by omega, by go_num, HB16⟩
                    case measure => simp [intOf]; omega
                · go_wp2_with fail
                  go_ret
                  exact ⟨rfl, HB9.out.trans (HBw.out.mono HB9.out.size)⟩
          · skip
            have HE : Hid (kstep k (knw k L) ⟨f, t⟩ = knw k L) := by show _ = _; unfold kstep; rw [if_neg]; unfold goodB; simp; (try omega)
            rw [HE.out] at HMi
            clear HE
            have c0 := HP9.out.c0
            have c1 := HP9.out.c1
            simp only at c0 c1
            go_wp2_with fail
            go_loopw [11] (fun i wr => ∃ q : Nat, q ≤ k ∧ i = .int .i64 q ∧ Hid (Below w9.heap.size w9 wr)) (fun i _ => k - (intOf i).toNat)
            case atStart => exact ⟨0, Nat.zero_le _, rfl, Below.refl _ _⟩
            case round =>
              obtain ⟨q, hq, rfl, HBw⟩ := hrel
              by_cases hlt : q < k
              · skip
                have HB15 := hide (HBw.out.trans ((below_drew1 wr).mono HBw.out.size))
                obtain ⟨ad, fa, fn, fc, ead, c1, s1⟩ := (HMw.out.below HB15.out).at' q hlt
                obtain ⟨bd, ha, hb, hc, ebd, c2, s2⟩ := (HMi.out.below HB15.out).at' q hlt
                skip
                have HS1 := hide s1
                have HS2 := hide s2
                have HC1 := hide c1
                have HC2 := hide c2
                obtain rfl := Option.some.inj ead
                obtain rfl := Option.some.inj ebd
                clear s1 s2 c1 c2 ead ebd
                go_wp2_with fail
                have HD1 : Hid (wr.drew.cell? ⟨g4, q, none⟩ = some (.slice fa fn fc)) := by have := HC1.out; rw [Addr.add_lit, Nat.zero_add] at this; exact this
                have HD2 : Hid (wr.drew.cell? ⟨g9, q, none⟩ = some (.slice ha hb hc)) := by have := HC2.out; rw [Addr.add_lit, Nat.zero_add] at this; exact this
                clear HC1 HC2
                refine wp_region_held_drew (S := fun W => W.cell? ⟨g4, q, none⟩ = some (.slice fa fn fc) ∧ W.cell? ⟨g9, q, none⟩ = some (.slice ha hb hc)) (by kernel_rfl) (⟨HD1.out, HD2.out⟩) (fun hHeld => ?_)
                refine wpAnyH_take (i := 0) (oi := { dst := some 86, op := Op.move (Operand.tmp 8), type := 35, pos := "law.go:167", after := #[], guard := none }) (v := ?_) rfl (by kernel_rfl) (by kernel_rfl) (by kernel_rfl) (fun _ _ _ h => h) (Or.inl ⟨by rfl, ?_⟩) (by assumption) ?_
                rotate_left
                · (intro w hSw; (try dsimp only at hSw); go_simp); first | done | with_reducible rfl
                simp only [Act.put, List.setIfInBounds_toArray, List.set_cons_zero, List.set_cons_succ]
                refine wpAnyH_take (i := 1) (oi := { dst := some 87, op := Op.move (Operand.tmp 11), type := 3, pos := "law.go:167", after := #[], guard := none }) (v := ?_) rfl (by kernel_rfl) (by kernel_rfl) (by kernel_rfl) (fun _ _ _ h => h) (Or.inl ⟨by rfl, ?_⟩) (by assumption) ?_
                rotate_left
                · (intro w hSw; (try dsimp only at hSw); go_simp); first | done | with_reducible rfl
                simp only [Act.put, List.setIfInBounds_toArray, List.set_cons_zero, List.set_cons_succ]
                refine wpAnyH_take (i := 2) (oi := { dst := some 88, op := Op.indexAddr 35 (Operand.tmp 86) (Operand.tmp 87), type := 0, pos := "law.go:167", after := #[{ on := 0, ground := Ground.data }, { on := 1, ground := Ground.data }], guard := none }) (v := ?_) rfl (by kernel_rfl) (by kernel_rfl) (by kernel_rfl) (fun _ _ _ h => h) (Or.inl ⟨by rfl, ?_⟩) (by assumption) ?_
                rotate_left
                · (intro w hSw; (try dsimp only at hSw); go_simp); first | done | with_reducible rfl
                simp only [Act.put, List.setIfInBounds_toArray, List.set_cons_zero, List.set_cons_succ]
                refine wpAnyH_take (i := 3) (oi := { dst := some 89, op := Op.load 37 (Operand.tmp 88), type := 37, pos := "law.go:167", after := #[{ on := 2, ground := Ground.data }], guard := none }) (v := ?_) rfl (by kernel_rfl) (by kernel_rfl) (by kernel_rfl) (fun _ _ _ h => h) (Or.inl ⟨by rfl, ?_⟩) (by assumption) ?_
                rotate_left
                · (intro w hSw; (try dsimp only at hSw); go_simp); first | done | with_reducible rfl
                simp only [Act.put, List.setIfInBounds_toArray, List.set_cons_zero, List.set_cons_succ]
                refine wpAnyH_take (i := 4) (oi := { dst := some 90, op := Op.move (Operand.tmp 9), type := 35, pos := "law.go:167", after := #[], guard := none }) (v := ?_) rfl (by kernel_rfl) (by kernel_rfl) (by kernel_rfl) (fun _ _ _ h => h) (Or.inl ⟨by rfl, ?_⟩) (by assumption) ?_
                rotate_left
                · (intro w hSw; (try dsimp only at hSw); go_simp); first | done | with_reducible rfl
                simp only [Act.put, List.setIfInBounds_toArray, List.set_cons_zero, List.set_cons_succ]
                refine wpAnyH_take (i := 5) (oi := { dst := some 91, op := Op.move (Operand.tmp 11), type := 3, pos := "law.go:167", after := #[], guard := none }) (v := ?_) rfl (by kernel_rfl) (by kernel_rfl) (by kernel_rfl) (fun _ _ _ h => h) (Or.inl ⟨by rfl, ?_⟩) (by assumption) ?_
                rotate_left
                · (intro w hSw; (try dsimp only at hSw); go_simp); first | done | with_reducible rfl
                simp only [Act.put, List.setIfInBounds_toArray, List.set_cons_zero, List.set_cons_succ]
                refine wpAnyH_take (i := 6) (oi := { dst := some 92, op := Op.indexAddr 35 (Operand.tmp 90) (Operand.tmp 91), type := 0, pos := "law.go:167", after := #[{ on := 4, ground := Ground.data }, { on := 5, ground := Ground.data }], guard := none }) (v := ?_) rfl (by kernel_rfl) (by kernel_rfl) (by kernel_rfl) (fun _ _ _ h => h) (Or.inl ⟨by rfl, ?_⟩) (by assumption) ?_
                rotate_left
                · (intro w hSw; (try dsimp only at hSw); go_simp); first | done | with_reducible rfl
                simp only [Act.put, List.setIfInBounds_toArray, List.set_cons_zero, List.set_cons_succ]
                refine wpAnyH_take (i := 7) (oi := { dst := some 93, op := Op.load 37 (Operand.tmp 92), type := 37, pos := "law.go:167", after := #[{ on := 6, ground := Ground.data }], guard := none }) (v := ?_) rfl (by kernel_rfl) (by kernel_rfl) (by kernel_rfl) (fun _ _ _ h => h) (Or.inl ⟨by rfl, ?_⟩) (by assumption) ?_
                rotate_left
                · (intro w hSw; (try dsimp only at hSw); go_simp); first | done | with_reducible rfl
                simp only [Act.put, List.setIfInBounds_toArray, List.set_cons_zero, List.set_cons_succ]
                refine wpAnyH_ready (rs := [8]) (by kernel_rfl) (by simp) ?_
                refine AllReadyH.cons rfl (fun K hK => ?_) ?_
                rotate_left
                · exact AllReadyH.nil
                go_simp
                go_wp2_with fail
                refine (sameInts_true fa fn fc _ ha hb hc _ HS1.out HS2.out (by have := HS1.out.len; have := HXl.out q; omega)).mono ?_
                rintro e w16 ⟨rfl, b16⟩
                have HB16 := hide (HB15.out.trans (b16.mono HB15.out.size))
                refine hK.out _ _ ⟨(b16.cell (World.block_lt_of_cell? _ _ HD1.out)).trans HD1.out, (b16.cell (World.block_lt_of_cell? _ _ HD2.out)).trans HD2.out⟩ (fun hHeld => ?_)
                clear hK K b16
                refine wpAnyH_take (i := 9) (oi := { dst := some 95, op := Op.unOp UnOp.not 4 (Operand.tmp 94), type := 4, pos := "law.go:167", after := #[{ on := 8, ground := Ground.data }], guard := none }) (v := ?_) rfl (by kernel_rfl) (by kernel_rfl) (by kernel_rfl) (fun _ _ _ h => h) (Or.inl ⟨by rfl, ?_⟩) (by assumption) ?_
                rotate_left
                · (intro w hSw; (try dsimp only at hSw); go_simp); first | done | with_reducible rfl
                simp only [Act.put, List.setIfInBounds_toArray, List.set_cons_zero, List.set_cons_succ]
                refine wpAnyH_done (by kernel_rfl) ?_ _
                clear hHeld
                clear HBw HB15 HS1 HS2 HD1 HD2
                go_wp2_with fail
                go_roundw
                case rel => exact ⟨q + 1, by omega, by go_num, HB16⟩
                case measure => simp [intOf]; omega
              · go_wp2_with fail
                go_ret
                exact ⟨rfl, HB9.out.trans (HBw.out.mono HB9.out.size)⟩
        · skip
          have HE : Hid (kstep k (knw k L) ⟨f, t⟩ = knw k L) := by show _ = _; unfold kstep; rw [if_neg]; unfold goodB; simp; (try omega)
          rw [HE.out] at HMi
          clear HE
          have c0 := HP9.out.c0
          have c1 := HP9.out.c1
          simp only at c0 c1
          go_wp2_with fail
          go_loopw [11] (fun i wr => ∃ q : Nat, q ≤ k ∧ i = .int .i64 q ∧ Hid (Below w9.heap.size w9 wr)) (fun i _ => k - (intOf i).toNat)
          case atStart => exact ⟨0, Nat.zero_le _, rfl, Below.refl _ _⟩
          case round =>
            obtain ⟨q, hq, rfl, HBw⟩ := hrel
            by_cases hlt : q < k
            · skip
              have HB15 := hide (HBw.out.trans ((below_drew1 wr).mono HBw.out.size))
              obtain ⟨ad, fa, fn, fc, ead, c1, s1⟩ := (HMw.out.below HB15.out).at' q hlt
              obtain ⟨bd, ha, hb, hc, ebd, c2, s2⟩ := (HMi.out.below HB15.out).at' q hlt
              skip
              have HS1 := hide s1
              have HS2 := hide s2
              have HC1 := hide c1
              have HC2 := hide c2
              obtain rfl := Option.some.inj ead
              obtain rfl := Option.some.inj ebd
              clear s1 s2 c1 c2 ead ebd
              go_wp2_with fail
              have HD1 : Hid (wr.drew.cell? ⟨g4, q, none⟩ = some (.slice fa fn fc)) := by have := HC1.out; rw [Addr.add_lit, Nat.zero_add] at this; exact this
              have HD2 : Hid (wr.drew.cell? ⟨g9, q, none⟩ = some (.slice ha hb hc)) := by have := HC2.out; rw [Addr.add_lit, Nat.zero_add] at this; exact this
              clear HC1 HC2
              refine wp_region_held_drew (S := fun W => W.cell? ⟨g4, q, none⟩ = some (.slice fa fn fc) ∧ W.cell? ⟨g9, q, none⟩ = some (.slice ha hb hc)) (by kernel_rfl) (⟨HD1.out, HD2.out⟩) (fun hHeld => ?_)
              refine wpAnyH_take (i := 0) (oi := { dst := some 86, op := Op.move (Operand.tmp 8), type := 35, pos := "law.go:167", after := #[], guard := none }) (v := ?_) rfl (by kernel_rfl) (by kernel_rfl) (by kernel_rfl) (fun _ _ _ h => h) (Or.inl ⟨by rfl, ?_⟩) (by assumption) ?_
              rotate_left
              · (intro w hSw; (try dsimp only at hSw); go_simp); first | done | with_reducible rfl
              simp only [Act.put, List.setIfInBounds_toArray, List.set_cons_zero, List.set_cons_succ]
              refine wpAnyH_take (i := 1) (oi := { dst := some 87, op := Op.move (Operand.tmp 11), type := 3, pos := "law.go:167", after := #[], guard := none }) (v := ?_) rfl (by kernel_rfl) (by kernel_rfl) (by kernel_rfl) (fun _ _ _ h => h) (Or.inl ⟨by rfl, ?_⟩) (by assumption) ?_
              rotate_left
              · (intro w hSw; (try dsimp only at hSw); go_simp); first | done | with_reducible rfl
              simp only [Act.put, List.setIfInBounds_toArray, List.set_cons_zero, List.set_cons_succ]
              refine wpAnyH_take (i := 2) (oi := { dst := some 88, op := Op.indexAddr 35 (Operand.tmp 86) (Operand.tmp 87), type := 0, pos := "law.go:167", after := #[{ on := 0, ground := Ground.data }, { on := 1, ground := Ground.data }], guard := none }) (v := ?_) rfl (by kernel_rfl) (by kernel_rfl) (by kernel_rfl) (fun _ _ _ h => h) (Or.inl ⟨by rfl, ?_⟩) (by assumption) ?_
              rotate_left
              · (intro w hSw; (try dsimp only at hSw); go_simp); first | done | with_reducible rfl
              simp only [Act.put, List.setIfInBounds_toArray, List.set_cons_zero, List.set_cons_succ]
              refine wpAnyH_take (i := 3) (oi := { dst := some 89, op := Op.load 37 (Operand.tmp 88), type := 37, pos := "law.go:167", after := #[{ on := 2, ground := Ground.data }], guard := none }) (v := ?_) rfl (by kernel_rfl) (by kernel_rfl) (by kernel_rfl) (fun _ _ _ h => h) (Or.inl ⟨by rfl, ?_⟩) (by assumption) ?_
              rotate_left
              · (intro w hSw; (try dsimp only at hSw); go_simp); first | done | with_reducible rfl
              simp only [Act.put, List.setIfInBounds_toArray, List.set_cons_zero, List.set_cons_succ]
              refine wpAnyH_take (i := 4) (oi := { dst := some 90, op := Op.move (Operand.tmp 9), type := 35, pos := "law.go:167", after := #[], guard := none }) (v := ?_) rfl (by kernel_rfl) (by kernel_rfl) (by kernel_rfl) (fun _ _ _ h => h) (Or.inl ⟨by rfl, ?_⟩) (by assumption) ?_
              rotate_left
              · (intro w hSw; (try dsimp only at hSw); go_simp); first | done | with_reducible rfl
              simp only [Act.put, List.setIfInBounds_toArray, List.set_cons_zero, List.set_cons_succ]
              refine wpAnyH_take (i := 5) (oi := { dst := some 91, op := Op.move (Operand.tmp 11), type := 3, pos := "law.go:167", after := #[], guard := none }) (v := ?_) rfl (by kernel_rfl) (by kernel_rfl) (by kernel_rfl) (fun _ _ _ h => h) (Or.inl ⟨by rfl, ?_⟩) (by assumption) ?_
              rotate_left
              · (intro w hSw; (try dsimp only at hSw); go_simp); first | done | with_reducible rfl
              simp only [Act.put, List.setIfInBounds_toArray, List.set_cons_zero, List.set_cons_succ]
              refine wpAnyH_take (i := 6) (oi := { dst := some 92, op := Op.indexAddr 35 (Operand.tmp 90) (Operand.tmp 91), type := 0, pos := "law.go:167", after := #[{ on := 4, ground := Ground.data }, { on := 5, ground := Ground.data }], guard := none }) (v := ?_) rfl (by kernel_rfl) (by kernel_rfl) (by kernel_rfl) (fun _ _ _ h => h) (Or.inl ⟨by rfl, ?_⟩) (by assumption) ?_
              rotate_left
              · (intro w hSw; (try dsimp only at hSw); go_simp); first | done | with_reducible rfl
              simp only [Act.put, List.setIfInBounds_toArray, List.set_cons_zero, List.set_cons_succ]
              refine wpAnyH_take (i := 7) (oi := { dst := some 93, op := Op.load 37 (Operand.tmp 92), type := 37, pos := "law.go:167", after := #[{ on := 6, ground := Ground.data }], guard := none }) (v := ?_) rfl (by kernel_rfl) (by kernel_rfl) (by kernel_rfl) (fun _ _ _ h => h) (Or.inl ⟨by rfl, ?_⟩) (by assumption) ?_
              rotate_left
              · (intro w hSw; (try dsimp only at hSw); go_simp); first | done | with_reducible rfl
              simp only [Act.put, List.setIfInBounds_toArray, List.set_cons_zero, List.set_cons_succ]
              refine wpAnyH_ready (rs := [8]) (by kernel_rfl) (by simp) ?_
              refine AllReadyH.cons rfl (fun K hK => ?_) ?_
              rotate_left
              · exact AllReadyH.nil
              go_simp
              go_wp2_with fail
              refine (sameInts_true fa fn fc _ ha hb hc _ HS1.out HS2.out (by have := HS1.out.len; have := HXl.out q; omega)).mono ?_
              rintro e w16 ⟨rfl, b16⟩
              have HB16 := hide (HB15.out.trans (b16.mono HB15.out.size))
              refine hK.out _ _ ⟨(b16.cell (World.block_lt_of_cell? _ _ HD1.out)).trans HD1.out, (b16.cell (World.block_lt_of_cell? _ _ HD2.out)).trans HD2.out⟩ (fun hHeld => ?_)
              clear hK K b16
              refine wpAnyH_take (i := 9) (oi := { dst := some 95, op := Op.unOp UnOp.not 4 (Operand.tmp 94), type := 4, pos := "law.go:167", after := #[{ on := 8, ground := Ground.data }], guard := none }) (v := ?_) rfl (by kernel_rfl) (by kernel_rfl) (by kernel_rfl) (fun _ _ _ h => h) (Or.inl ⟨by rfl, ?_⟩) (by assumption) ?_
              rotate_left
              · (intro w hSw; (try dsimp only at hSw); go_simp); first | done | with_reducible rfl
              simp only [Act.put, List.setIfInBounds_toArray, List.set_cons_zero, List.set_cons_succ]
              refine wpAnyH_done (by kernel_rfl) ?_ _
              clear hHeld
              clear HBw HB15 HS1 HS2 HD1 HD2
              go_wp2_with fail
              go_roundw
              case rel => exact ⟨q + 1, by omega, by go_num, HB16⟩
              case measure => simp [intOf]; omega
            · go_wp2_with fail
              go_ret
              exact ⟨rfl, HB9.out.trans (HBw.out.mono HB9.out.size)⟩
      · skip
        have HE : Hid (kstep k (knw k L) ⟨f, t⟩ = knw k L) := by show _ = _; unfold kstep; rw [if_neg]; unfold goodB; simp; (try omega)
        rw [HE.out] at HMi
        clear HE
        have c0 := HP9.out.c0
        have c1 := HP9.out.c1
        simp only at c0 c1
        go_wp2_with fail
        go_loopw [11] (fun i wr => ∃ q : Nat, q ≤ k ∧ i = .int .i64 q ∧ Hid (Below w9.heap.size w9 wr)) (fun i _ => k - (intOf i).toNat)
        case atStart => exact ⟨0, Nat.zero_le _, rfl, Below.refl _ _⟩
        case round =>
          obtain ⟨q, hq, rfl, HBw⟩ := hrel
          by_cases hlt : q < k
          · skip
            have HB15 := hide (HBw.out.trans ((below_drew1 wr).mono HBw.out.size))
            obtain ⟨ad, fa, fn, fc, ead, c1, s1⟩ := (HMw.out.below HB15.out).at' q hlt
            obtain ⟨bd, ha, hb, hc, ebd, c2, s2⟩ := (HMi.out.below HB15.out).at' q hlt
            skip
            have HS1 := hide s1
            have HS2 := hide s2
            have HC1 := hide c1
            have HC2 := hide c2
            obtain rfl := Option.some.inj ead
            obtain rfl := Option.some.inj ebd
            clear s1 s2 c1 c2 ead ebd
            go_wp2_with fail
            have HD1 : Hid (wr.drew.cell? ⟨g4, q, none⟩ = some (.slice fa fn fc)) := by have := HC1.out; rw [Addr.add_lit, Nat.zero_add] at this; exact this
            have HD2 : Hid (wr.drew.cell? ⟨g9, q, none⟩ = some (.slice ha hb hc)) := by have := HC2.out; rw [Addr.add_lit, Nat.zero_add] at this; exact this
            clear HC1 HC2
            refine wp_region_held_drew (S := fun W => W.cell? ⟨g4, q, none⟩ = some (.slice fa fn fc) ∧ W.cell? ⟨g9, q, none⟩ = some (.slice ha hb hc)) (by kernel_rfl) (⟨HD1.out, HD2.out⟩) (fun hHeld => ?_)
            refine wpAnyH_take (i := 0) (oi := { dst := some 86, op := Op.move (Operand.tmp 8), type := 35, pos := "law.go:167", after := #[], guard := none }) (v := ?_) rfl (by kernel_rfl) (by kernel_rfl) (by kernel_rfl) (fun _ _ _ h => h) (Or.inl ⟨by rfl, ?_⟩) (by assumption) ?_
            rotate_left
            · (intro w hSw; (try dsimp only at hSw); go_simp); first | done | with_reducible rfl
            simp only [Act.put, List.setIfInBounds_toArray, List.set_cons_zero, List.set_cons_succ]
            refine wpAnyH_take (i := 1) (oi := { dst := some 87, op := Op.move (Operand.tmp 11), type := 3, pos := "law.go:167", after := #[], guard := none }) (v := ?_) rfl (by kernel_rfl) (by kernel_rfl) (by kernel_rfl) (fun _ _ _ h => h) (Or.inl ⟨by rfl, ?_⟩) (by assumption) ?_
            rotate_left
            · (intro w hSw; (try dsimp only at hSw); go_simp); first | done | with_reducible rfl
            simp only [Act.put, List.setIfInBounds_toArray, List.set_cons_zero, List.set_cons_succ]
            refine wpAnyH_take (i := 2) (oi := { dst := some 88, op := Op.indexAddr 35 (Operand.tmp 86) (Operand.tmp 87), type := 0, pos := "law.go:167", after := #[{ on := 0, ground := Ground.data }, { on := 1, ground := Ground.data }], guard := none }) (v := ?_) rfl (by kernel_rfl) (by kernel_rfl) (by kernel_rfl) (fun _ _ _ h => h) (Or.inl ⟨by rfl, ?_⟩) (by assumption) ?_
            rotate_left
            · (intro w hSw; (try dsimp only at hSw); go_simp); first | done | with_reducible rfl
            simp only [Act.put, List.setIfInBounds_toArray, List.set_cons_zero, List.set_cons_succ]
            refine wpAnyH_take (i := 3) (oi := { dst := some 89, op := Op.load 37 (Operand.tmp 88), type := 37, pos := "law.go:167", after := #[{ on := 2, ground := Ground.data }], guard := none }) (v := ?_) rfl (by kernel_rfl) (by kernel_rfl) (by kernel_rfl) (fun _ _ _ h => h) (Or.inl ⟨by rfl, ?_⟩) (by assumption) ?_
            rotate_left
            · (intro w hSw; (try dsimp only at hSw); go_simp); first | done | with_reducible rfl
            simp only [Act.put, List.setIfInBounds_toArray, List.set_cons_zero, List.set_cons_succ]
            refine wpAnyH_take (i := 4) (oi := { dst := some 90, op := Op.move (Operand.tmp 9), type := 35, pos := "law.go:167", after := #[], guard := none }) (v := ?_) rfl (by kernel_rfl) (by kernel_rfl) (by kernel_rfl) (fun _ _ _ h => h) (Or.inl ⟨by rfl, ?_⟩) (by assumption) ?_
            rotate_left
            · (intro w hSw; (try dsimp only at hSw); go_simp); first | done | with_reducible rfl
            simp only [Act.put, List.setIfInBounds_toArray, List.set_cons_zero, List.set_cons_succ]
            refine wpAnyH_take (i := 5) (oi := { dst := some 91, op := Op.move (Operand.tmp 11), type := 3, pos := "law.go:167", after := #[], guard := none }) (v := ?_) rfl (by kernel_rfl) (by kernel_rfl) (by kernel_rfl) (fun _ _ _ h => h) (Or.inl ⟨by rfl, ?_⟩) (by assumption) ?_
            rotate_left
            · (intro w hSw; (try dsimp only at hSw); go_simp); first | done | with_reducible rfl
            simp only [Act.put, List.setIfInBounds_toArray, List.set_cons_zero, List.set_cons_succ]
            refine wpAnyH_take (i := 6) (oi := { dst := some 92, op := Op.indexAddr 35 (Operand.tmp 90) (Operand.tmp 91), type := 0, pos := "law.go:167", after := #[{ on := 4, ground := Ground.data }, { on := 5, ground := Ground.data }], guard := none }) (v := ?_) rfl (by kernel_rfl) (by kernel_rfl) (by kernel_rfl) (fun _ _ _ h => h) (Or.inl ⟨by rfl, ?_⟩) (by assumption) ?_
            rotate_left
            · (intro w hSw; (try dsimp only at hSw); go_simp); first | done | with_reducible rfl
            simp only [Act.put, List.setIfInBounds_toArray, List.set_cons_zero, List.set_cons_succ]
            refine wpAnyH_take (i := 7) (oi := { dst := some 93, op := Op.load 37 (Operand.tmp 92), type := 37, pos := "law.go:167", after := #[{ on := 6, ground := Ground.data }], guard := none }) (v := ?_) rfl (by kernel_rfl) (by kernel_rfl) (by kernel_rfl) (fun _ _ _ h => h) (Or.inl ⟨by rfl, ?_⟩) (by assumption) ?_
            rotate_left
            · (intro w hSw; (try dsimp only at hSw); go_simp); first | done | with_reducible rfl
            simp only [Act.put, List.setIfInBounds_toArray, List.set_cons_zero, List.set_cons_succ]
            refine wpAnyH_ready (rs := [8]) (by kernel_rfl) (by simp) ?_
            refine AllReadyH.cons rfl (fun K hK => ?_) ?_
            rotate_left
            · exact AllReadyH.nil
            go_simp
            go_wp2_with fail
            refine (sameInts_true fa fn fc _ ha hb hc _ HS1.out HS2.out (by have := HS1.out.len; have := HXl.out q; omega)).mono ?_
            rintro e w16 ⟨rfl, b16⟩
            have HB16 := hide (HB15.out.trans (b16.mono HB15.out.size))
            refine hK.out _ _ ⟨(b16.cell (World.block_lt_of_cell? _ _ HD1.out)).trans HD1.out, (b16.cell (World.block_lt_of_cell? _ _ HD2.out)).trans HD2.out⟩ (fun hHeld => ?_)
            clear hK K b16
            refine wpAnyH_take (i := 9) (oi := { dst := some 95, op := Op.unOp UnOp.not 4 (Operand.tmp 94), type := 4, pos := "law.go:167", after := #[{ on := 8, ground := Ground.data }], guard := none }) (v := ?_) rfl (by kernel_rfl) (by kernel_rfl) (by kernel_rfl) (fun _ _ _ h => h) (Or.inl ⟨by rfl, ?_⟩) (by assumption) ?_
            rotate_left
            · (intro w hSw; (try dsimp only at hSw); go_simp); first | done | with_reducible rfl
            simp only [Act.put, List.setIfInBounds_toArray, List.set_cons_zero, List.set_cons_succ]
            refine wpAnyH_done (by kernel_rfl) ?_ _
            clear hHeld
            clear HBw HB15 HS1 HS2 HD1 HD2
            go_wp2_with fail
            go_roundw
            case rel => exact ⟨q + 1, by omega, by go_num, HB16⟩
            case measure => simp [intOf]; omega
          · go_wp2_with fail
            go_ret
            exact ⟨rfl, HB9.out.trans (HBw.out.mono HB9.out.size)⟩
    · skip
      have HE : Hid (kstep k (knw k L) ⟨f, t⟩ = knw k L) := by show _ = _; unfold kstep; rw [if_neg]; unfold goodB; simp; (try omega)
      rw [HE.out] at HMi
      clear HE
      have c0 := HP9.out.c0
      have c1 := HP9.out.c1
      simp only at c0 c1
      go_wp2_with fail
      go_loopw [11] (fun i wr => ∃ q : Nat, q ≤ k ∧ i = .int .i64 q ∧ Hid (Below w9.heap.size w9 wr)) (fun i _ => k - (intOf i).toNat)
      case atStart => exact ⟨0, Nat.zero_le _, rfl, Below.refl _ _⟩
      case round =>
        obtain ⟨q, hq, rfl, HBw⟩ := hrel
        by_cases hlt : q < k
        · skip
          have HB15 := hide (HBw.out.trans ((below_drew1 wr).mono HBw.out.size))
          obtain ⟨ad, fa, fn, fc, ead, c1, s1⟩ := (HMw.out.below HB15.out).at' q hlt
          obtain ⟨bd, ha, hb, hc, ebd, c2, s2⟩ := (HMi.out.below HB15.out).at' q hlt
          skip
          have HS1 := hide s1
          have HS2 := hide s2
          have HC1 := hide c1
          have HC2 := hide c2
          obtain rfl := Option.some.inj ead
          obtain rfl := Option.some.inj ebd
          clear s1 s2 c1 c2 ead ebd
          go_wp2_with fail
          have HD1 : Hid (wr.drew.cell? ⟨g4, q, none⟩ = some (.slice fa fn fc)) := by have := HC1.out; rw [Addr.add_lit, Nat.zero_add] at this; exact this
          have HD2 : Hid (wr.drew.cell? ⟨g9, q, none⟩ = some (.slice ha hb hc)) := by have := HC2.out; rw [Addr.add_lit, Nat.zero_add] at this; exact this
          clear HC1 HC2
          refine wp_region_held_drew (S := fun W => W.cell? ⟨g4, q, none⟩ = some (.slice fa fn fc) ∧ W.cell? ⟨g9, q, none⟩ = some (.slice ha hb hc)) (by kernel_rfl) (⟨HD1.out, HD2.out⟩) (fun hHeld => ?_)
          refine wpAnyH_take (i := 0) (oi := { dst := some 86, op := Op.move (Operand.tmp 8), type := 35, pos := "law.go:167", after := #[], guard := none }) (v := ?_) rfl (by kernel_rfl) (by kernel_rfl) (by kernel_rfl) (fun _ _ _ h => h) (Or.inl ⟨by rfl, ?_⟩) (by assumption) ?_
          rotate_left
          · (intro w hSw; (try dsimp only at hSw); go_simp); first | done | with_reducible rfl
          simp only [Act.put, List.setIfInBounds_toArray, List.set_cons_zero, List.set_cons_succ]
          refine wpAnyH_take (i := 1) (oi := { dst := some 87, op := Op.move (Operand.tmp 11), type := 3, pos := "law.go:167", after := #[], guard := none }) (v := ?_) rfl (by kernel_rfl) (by kernel_rfl) (by kernel_rfl) (fun _ _ _ h => h) (Or.inl ⟨by rfl, ?_⟩) (by assumption) ?_
          rotate_left
          · (intro w hSw; (try dsimp only at hSw); go_simp); first | done | with_reducible rfl
          simp only [Act.put, List.setIfInBounds_toArray, List.set_cons_zero, List.set_cons_succ]
          refine wpAnyH_take (i := 2) (oi := { dst := some 88, op := Op.indexAddr 35 (Operand.tmp 86) (Operand.tmp 87), type := 0, pos := "law.go:167", after := #[{ on := 0, ground := Ground.data }, { on := 1, ground := Ground.data }], guard := none }) (v := ?_) rfl (by kernel_rfl) (by kernel_rfl) (by kernel_rfl) (fun _ _ _ h => h) (Or.inl ⟨by rfl, ?_⟩) (by assumption) ?_
          rotate_left
          · (intro w hSw; (try dsimp only at hSw); go_simp); first | done | with_reducible rfl
          simp only [Act.put, List.setIfInBounds_toArray, List.set_cons_zero, List.set_cons_succ]
          refine wpAnyH_take (i := 3) (oi := { dst := some 89, op := Op.load 37 (Operand.tmp 88), type := 37, pos := "law.go:167", after := #[{ on := 2, ground := Ground.data }], guard := none }) (v := ?_) rfl (by kernel_rfl) (by kernel_rfl) (by kernel_rfl) (fun _ _ _ h => h) (Or.inl ⟨by rfl, ?_⟩) (by assumption) ?_
          rotate_left
          · (intro w hSw; (try dsimp only at hSw); go_simp); first | done | with_reducible rfl
          simp only [Act.put, List.setIfInBounds_toArray, List.set_cons_zero, List.set_cons_succ]
          refine wpAnyH_take (i := 4) (oi := { dst := some 90, op := Op.move (Operand.tmp 9), type := 35, pos := "law.go:167", after := #[], guard := none }) (v := ?_) rfl (by kernel_rfl) (by kernel_rfl) (by kernel_rfl) (fun _ _ _ h => h) (Or.inl ⟨by rfl, ?_⟩) (by assumption) ?_
          rotate_left
          · (intro w hSw; (try dsimp only at hSw); go_simp); first | done | with_reducible rfl
          simp only [Act.put, List.setIfInBounds_toArray, List.set_cons_zero, List.set_cons_succ]
          refine wpAnyH_take (i := 5) (oi := { dst := some 91, op := Op.move (Operand.tmp 11), type := 3, pos := "law.go:167", after := #[], guard := none }) (v := ?_) rfl (by kernel_rfl) (by kernel_rfl) (by kernel_rfl) (fun _ _ _ h => h) (Or.inl ⟨by rfl, ?_⟩) (by assumption) ?_
          rotate_left
          · (intro w hSw; (try dsimp only at hSw); go_simp); first | done | with_reducible rfl
          simp only [Act.put, List.setIfInBounds_toArray, List.set_cons_zero, List.set_cons_succ]
          refine wpAnyH_take (i := 6) (oi := { dst := some 92, op := Op.indexAddr 35 (Operand.tmp 90) (Operand.tmp 91), type := 0, pos := "law.go:167", after := #[{ on := 4, ground := Ground.data }, { on := 5, ground := Ground.data }], guard := none }) (v := ?_) rfl (by kernel_rfl) (by kernel_rfl) (by kernel_rfl) (fun _ _ _ h => h) (Or.inl ⟨by rfl, ?_⟩) (by assumption) ?_
          rotate_left
          · (intro w hSw; (try dsimp only at hSw); go_simp); first | done | with_reducible rfl
          simp only [Act.put, List.setIfInBounds_toArray, List.set_cons_zero, List.set_cons_succ]
          refine wpAnyH_take (i := 7) (oi := { dst := some 93, op := Op.load 37 (Operand.tmp 92), type := 37, pos := "law.go:167", after := #[{ on := 6, ground := Ground.data }], guard := none }) (v := ?_) rfl (by kernel_rfl) (by kernel_rfl) (by kernel_rfl) (fun _ _ _ h => h) (Or.inl ⟨by rfl, ?_⟩) (by assumption) ?_
          rotate_left
          · (intro w hSw; (try dsimp only at hSw); go_simp); first | done | with_reducible rfl
          simp only [Act.put, List.setIfInBounds_toArray, List.set_cons_zero, List.set_cons_succ]
          refine wpAnyH_ready (rs := [8]) (by kernel_rfl) (by simp) ?_
          refine AllReadyH.cons rfl (fun K hK => ?_) ?_
          rotate_left
          · exact AllReadyH.nil
          go_simp
          go_wp2_with fail
          refine (sameInts_true fa fn fc _ ha hb hc _ HS1.out HS2.out (by have := HS1.out.len; have := HXl.out q; omega)).mono ?_
          rintro e w16 ⟨rfl, b16⟩
          have HB16 := hide (HB15.out.trans (b16.mono HB15.out.size))
          refine hK.out _ _ ⟨(b16.cell (World.block_lt_of_cell? _ _ HD1.out)).trans HD1.out, (b16.cell (World.block_lt_of_cell? _ _ HD2.out)).trans HD2.out⟩ (fun hHeld => ?_)
          clear hK K b16
          refine wpAnyH_take (i := 9) (oi := { dst := some 95, op := Op.unOp UnOp.not 4 (Operand.tmp 94), type := 4, pos := "law.go:167", after := #[{ on := 8, ground := Ground.data }], guard := none }) (v := ?_) rfl (by kernel_rfl) (by kernel_rfl) (by kernel_rfl) (fun _ _ _ h => h) (Or.inl ⟨by rfl, ?_⟩) (by assumption) ?_
          rotate_left
          · (intro w hSw; (try dsimp only at hSw); go_simp); first | done | with_reducible rfl
          simp only [Act.put, List.setIfInBounds_toArray, List.set_cons_zero, List.set_cons_succ]
          refine wpAnyH_done (by kernel_rfl) ?_ _
          clear hHeld
          clear HBw HB15 HS1 HS2 HD1 HD2
          go_wp2_with fail
          go_roundw
          case rel => exact ⟨q + 1, by omega, by go_num, HB16⟩
          case measure => simp [intOf]; omega
        · go_wp2_with fail
          go_ret
          exact ⟨rfl, HB9.out.trans (HBw.out.mono HB9.out.size)⟩
end Go.Proofs.Ytckehmhieigglaa
