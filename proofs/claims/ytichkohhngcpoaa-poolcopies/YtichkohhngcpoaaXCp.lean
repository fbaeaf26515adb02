/- PoolCopies: the law. -/
import Derived.Test.YtichkohhngcpoaaXSt
namespace Go.Proofs.Ytichkohhngcpoaa
open Go.RowKit Go.Maps
variable {w w' w2 w0 : World} {g mb g1 g3 : Nat}
attribute [local go_sem ↓] ldT_eq stT_eq ldO_eq stO_eq

/-- at the loop's head -/
def LC (w0 w : World) (g mb i : Nat) : Prop := ∃ made K M C, Pl w g mb made K M C ∧ Below w0.heap.size w0 w ∧ made ≤ i ∧ K ≤ 2 * i
set_option maxRecDepth 100000 in
set_option maxHeartbeats 0 in
theorem poolCopies_any (ao : Option Addr) (m c : Nat) (L : List Opr) (Y : Nat → List Int) (w0 : World) (S : OSrc w0 ao m c L Y) : Calls Try.prog 4 #[.slice ao m c] w0 fun r w' => r = .returned (.bool true) ∧ Below w0.heap.size w0 w' := by
  have HS := hide S
  clear S
  go_enter Try.func4, Try.ntmps4
  go_wp2_with fail
  refine (fixed_any w0).mono ?_
  rintro r w1 ⟨rfl, b1⟩
  have HB1 := hide b1
  clear b1
  go_wp2_with fail
  refine (new_any w1).mono ?_
  rintro r w2 ⟨rfl, P2, b2⟩
  obtain ⟨g, hg⟩ : ∃ g, w1.heap.size + 1 = g := ⟨_, rfl⟩
  obtain ⟨mb, hmb⟩ : ∃ mb, w1.heap.size = mb := ⟨_, rfl⟩
  have HG : Hid (w0.heap.size ≤ g ∧ w0.heap.size ≤ mb) := by have := HB1.out.size; exact ⟨by omega, by omega⟩
  rw [hg, hmb] at P2
  rw [hg]
  have HI0 : Hid (LC w0 w2 g mb 0) := ⟨0, 0, _, _, P2, HB1.out.trans (b2.mono HB1.out.size), Nat.le_refl _, Nat.le_refl _⟩
  clear P2 b2 hg hmb HB1
  go_wp2_with fail
  go_loopw [4] (fun i wr => ∃ k : Nat, k ≤ m ∧ i = .int .i64 k ∧ Hid (LC w0 wr g mb k)) (fun i _ => m - (intOf i).toNat)
  case atStart => exact ⟨0, Nat.zero_le _, rfl, HI0⟩
  case round =>
    clear HI0
    obtain ⟨k, hk, rfl, HI⟩ := hrel
    by_cases hlt : k < m
    · have HK1 : Hid (wrap64 ((k : Int) + 1) = ((k + 1 : Nat) : Int)) := by show _ = _; have := HS.out.big; rw [w64 (by omega) (by omega)]; rfl
      have HLT := hide hlt
      obtain ⟨made, K, M, C, P, bel, hma, hKa⟩ := HI.out
      clear HI
      have HBD : Hid (made ≤ k ∧ K ≤ 2 * k ∧ k < 3518437208883) := ⟨hma, hKa, by have := HS.out.big; omega⟩
      obtain ⟨bb, oo, rfl, A0⟩ := (HS.out.below bel).at k hlt
      have hE := HS.out.each k hlt
      obtain ⟨⟨kd, sec, N, X, Yy, ob, on, oc⟩, hop⟩ : ∃ op, L.getD k o0 = op := ⟨_, rfl⟩
      rw [hop] at A0 hE
      simp only at hE
      obtain ⟨hN, hX, SB, hon⟩ := hE
      have HNX : Hid (i64ok N ∧ i64ok X ∧ on ≤ 140737488355328) := ⟨hN, hX, hon⟩
      have HSB := hide (SB.below bel)
      have hld := run_laO A0
      obtain ⟨g1, hg1⟩ : ∃ g1, wr.heap.size = g1 := ⟨_, rfl⟩
      obtain ⟨wq, hst0, O1, bq, zq⟩ := madeO wr ⟨kd, sec, N, X, Yy, ob, on, oc⟩ g1 hg1
      have hst : (stO (.pointer (some ⟨g1, 0, none⟩)) (.agg (OC ⟨kd, sec, N, X, Yy, ob, on, oc⟩))).run Try.prog (wr.alloc (.cells #[.int .i64 0, .bool false, .int .i64 0, .int .i64 0, .int .i64 0, .slice none 0 0] 30)) = .ok () wq := hst0
      have y0 := O1.c0
      simp only at y0
      have HO1 := hide O1
      have HP := hide P
      have HPq := hide (P.below bq)
      have HBQ := hide bq
      have HBL : Hid (Below w0.heap.size w0 wr) := bel
      have HW1 : Hid (w0.heap.size ≤ g1 ∧ g < g1 ∧ mb < g1 ∧ g1 < wq.heap.size ∧ wq.heap.size = g1 + 1) := ⟨by have := bel.size; omega, by have := P.g_lt; omega, by have := P.mb_lt; omega, by omega, by omega⟩
      clear P bel hma hKa A0 hop hN hX SB hon hst0 O1 bq zq
      by_cases h1 : kd = 1
      · subst h1
        have HSX : Hid (∀ W, OBox W g1 ⟨1, sec, N, X, Yy, ob, on, oc⟩ → W.cell? ⟨g1, 3, none⟩ = some (.int .i64 X) ∧ W.cell? ⟨g1, 4, none⟩ = some (.int .i64 Yy) ∧ W.cell? ⟨g1, 5, none⟩ = some (.slice ob on oc)) := fun W h => ⟨h.c3, h.c4, h.c5⟩
        obtain ⟨q, hq⟩ : ∃ q, wq.heap.size = q := ⟨_, rfl⟩
        obtain ⟨wl, hwl⟩ : ∃ wl, wq.drew.alloc (.cells #[] 5) = wl := ⟨_, rfl⟩
        have Bl : BR wl (some ⟨q, 0, none⟩) 0 0 [] := by rw [← hwl, ← hq]; exact BR.lit wq.drew
        have bl : Below wq.heap.size wq wl := by rw [← hwl]; exact (below_drew1 wq).trans (below_new wq.drew _)
        obtain ⟨b5, c5, w5, hrun, B5, A5⟩ := Bl.runs ((HSB.out.below HBQ.out).below bl) (by have := HNX.out.2.2; omega) 28
        rw [Nat.zero_add] at hrun B5
        rw [List.nil_append] at B5
        have hzl : wl.heap.size = q + 1 := by rw [← hwl, ← hq]; simp
        have bl5 : Below wq.heap.size wq w5 := bl.trans ⟨A5.grown.os, A5.grown.tape, A5.grown.output, A5.grown.size, fun i hi => A5.grown.block i (by omega) (fun e => by have : i = q := Option.some.inj e; omega)⟩
        have HOl := hide (HO1.out.below bl)
        have HO5 := hide (HO1.out.below bl5)
        have HPu := hide (put_any (HPq.out.below bl5) X Yy b5 on c5 _ B5.bs (fun i e => by
          have h := HW1.out
          rcases A5.lies with x | ⟨j, x, hj⟩
          · rw [x] at e
            have : q = i := Option.some.inj e
            omega
          · rw [x] at e
            have := Option.some.inj e
            omega) HNX.out.2.2 (by have := HBD.out; omega) (by have := HBD.out; unfold maxLen; omega))
        have HB5 : Hid (Below w0.heap.size w0 w5) := HBL.out.trans ((HBQ.out.trans (bl5.mono HBQ.out.size)).mono HBL.out.size)
        have HSd : Hid (wq.drew.cell? ⟨g1, 3, none⟩ = some (.int .i64 X) ∧ wq.drew.cell? ⟨g1, 4, none⟩ = some (.int .i64 Yy) ∧ wq.drew.cell? ⟨g1, 5, none⟩ = some (.slice ob on oc)) := HSX.out _ (HO1.out.below (below_drew1 _))
        clear Bl bl B5 A5 bl5 hzl HSB HBL HP HPq
        go_wp2_with fail
        refine wp_region_held_drew (S := fun W => W.cell? ⟨g1, 3, none⟩ = some (.int .i64 X) ∧ W.cell? ⟨g1, 4, none⟩ = some (.int .i64 Yy) ∧ W.cell? ⟨g1, 5, none⟩ = some (.slice ob on oc)) (by kernel_rfl) (HSd.out) (fun hHeld => ?_)
        refine wpAnyH_take (i := 0) (oi := { dst := some 32, op := Op.move (Operand.tmp 3), type := 24, pos := "law.go:334", after := #[], guard := none }) (v := ?_) rfl (by kernel_rfl) (by kernel_rfl) (by kernel_rfl) (fun _ _ _ h => h) (Or.inl ⟨by rfl, ?_⟩) (by assumption) ?_
        rotate_left
        · (intro w hSw; (try dsimp only at hSw); go_simp); first | done | with_reducible rfl
        simp only [Act.put, List.setIfInBounds_toArray, List.set_cons_zero, List.set_cons_succ]
        refine wpAnyH_take (i := 1) (oi := { dst := some 33, op := Op.fieldAddr 30 (Operand.tmp 5) 3, type := 0, pos := "law.go:334", after := #[], guard := none }) (v := ?_) rfl (by kernel_rfl) (by kernel_rfl) (by kernel_rfl) (fun _ _ _ h => h) (Or.inl ⟨by rfl, ?_⟩) (by assumption) ?_
        rotate_left
        · (intro w hSw; (try dsimp only at hSw); go_simp); first | done | with_reducible rfl
        simp only [Act.put, List.setIfInBounds_toArray, List.set_cons_zero, List.set_cons_succ]
        refine wpAnyH_take (i := 2) (oi := { dst := some 34, op := Op.load 3 (Operand.tmp 33), type := 3, pos := "law.go:334", after := #[{ on := 1, ground := Ground.data }], guard := none }) (v := ?_) rfl (by kernel_rfl) (by kernel_rfl) (by kernel_rfl) (fun _ _ _ h => h) (Or.inl ⟨by rfl, ?_⟩) (by assumption) ?_
        rotate_left
        · (intro w hSw; (try dsimp only at hSw); go_simp); first | done | with_reducible rfl
        simp only [Act.put, List.setIfInBounds_toArray, List.set_cons_zero, List.set_cons_succ]
        refine wpAnyH_take (i := 3) (oi := { dst := some 35, op := Op.fieldAddr 30 (Operand.tmp 5) 4, type := 0, pos := "law.go:334", after := #[], guard := none }) (v := ?_) rfl (by kernel_rfl) (by kernel_rfl) (by kernel_rfl) (fun _ _ _ h => h) (Or.inl ⟨by rfl, ?_⟩) (by assumption) ?_
        rotate_left
        · (intro w hSw; (try dsimp only at hSw); go_simp); first | done | with_reducible rfl
        simp only [Act.put, List.setIfInBounds_toArray, List.set_cons_zero, List.set_cons_succ]
        refine wpAnyH_take (i := 4) (oi := { dst := some 36, op := Op.load 3 (Operand.tmp 35), type := 3, pos := "law.go:334", after := #[{ on := 3, ground := Ground.data }], guard := none }) (v := ?_) rfl (by kernel_rfl) (by kernel_rfl) (by kernel_rfl) (fun _ _ _ h => h) (Or.inl ⟨by rfl, ?_⟩) (by assumption) ?_
        rotate_left
        · (intro w hSw; (try dsimp only at hSw); go_simp); first | done | with_reducible rfl
        simp only [Act.put, List.setIfInBounds_toArray, List.set_cons_zero, List.set_cons_succ]
        refine wpAnyH_take (i := 6) (oi := { dst := some 38, op := Op.fieldAddr 30 (Operand.tmp 5) 5, type := 0, pos := "law.go:334", after := #[], guard := none }) (v := ?_) rfl (by kernel_rfl) (by kernel_rfl) (by kernel_rfl) (fun _ _ _ h => h) (Or.inl ⟨by rfl, ?_⟩) (by assumption) ?_
        rotate_left
        · (intro w hSw; (try dsimp only at hSw); go_simp); first | done | with_reducible rfl
        simp only [Act.put, List.setIfInBounds_toArray, List.set_cons_zero, List.set_cons_succ]
        refine wpAnyH_take (i := 7) (oi := { dst := some 39, op := Op.load 28 (Operand.tmp 38), type := 28, pos := "law.go:334", after := #[{ on := 6, ground := Ground.data }], guard := none }) (v := ?_) rfl (by kernel_rfl) (by kernel_rfl) (by kernel_rfl) (fun _ _ _ h => h) (Or.inl ⟨by rfl, ?_⟩) (by assumption) ?_
        rotate_left
        · (intro w hSw; (try dsimp only at hSw); go_simp); first | done | with_reducible rfl
        simp only [Act.put, List.setIfInBounds_toArray, List.set_cons_zero, List.set_cons_succ]
        refine wpAnyH_ready (rs := [5]) (by kernel_rfl) (by simp) ?_
        refine AllReadyH.cons rfl (fun K hK => ?_) ?_
        rotate_left
        · exact AllReadyH.nil
        go_simp
        refine hK.out _ _ (HSX.out _ HOl.out) (fun hHeld => ?_)
        clear hK K
        refine wpAnyH_ready (rs := [8]) (by kernel_rfl) (by simp) ?_
        refine AllReadyH.cons rfl (fun K hK => ?_) ?_
        rotate_left
        · exact AllReadyH.nil
        refine step_app rfl (.tmp 37) (.tmp 39) rfl rfl rfl hrun ?_
        simp only [Act.put, List.setIfInBounds_toArray]
        refine hK.out _ _ (HSX.out _ HO5.out) (fun hHeld => ?_)
        clear hK K
        refine wpAnyH_take (i := 9) (oi := { dst := some 41, op := Op.build 33 #[(0, Operand.tmp 34), (1, Operand.tmp 36), (2, Operand.tmp 40)], type := 33, pos := "law.go:334", after := #[{ on := 2, ground := Ground.data }, { on := 4, ground := Ground.data }, { on := 8, ground := Ground.data }], guard := none }) (v := ?_) rfl (by kernel_rfl) (by kernel_rfl) (by kernel_rfl) (fun _ _ _ h => h) (Or.inl ⟨by rfl, ?_⟩) (by assumption) ?_
        rotate_left
        · (intro w hSw; (try dsimp only at hSw); go_simp); first | done | with_reducible rfl
        simp only [Act.put]
        refine wpAnyH_ready (rs := [10]) (by kernel_rfl) (by simp) ?_
        refine AllReadyH.cons rfl (fun K hK => ?_) ?_
        rotate_left
        · exact AllReadyH.nil
        go_simp
        go_wp2_with fail
        refine HPu.out.mono ?_
        rintro r w6 ⟨rfl, b6, c6, P6, F6, -⟩
        have hw := HW1.out
        have O6 := HO5.out.fw F6 (by omega) (by omega)
        have HEND : Hid (LC w0 w6 g mb (k + 1)) := ⟨_, _, _, _, P6, Below.fw HB5.out F6 HG.out.1 HG.out.2, by have := HBD.out; omega, by have := HBD.out; omega⟩
        refine hK.out _ _ (HSX.out _ O6) (fun hHeld => ?_)
        clear hK P6 F6 O6 HPu hw
        refine wpAnyH_done (by kernel_rfl) ?_ _
        clear hHeld
        go_wp2_with fail
        go_roundw
        case rel => exact ⟨k + 1, HLT.out, by rw [HK1.out], HEND⟩
        case measure => rw [HK1.out]; have := HLT.out; simp [intOf]; omega
      · cases hM : M N with
        | none =>
          have HC := hide (look_no HPq.out HNX.out.1 hM)
          have y2 := HO1.out.c2
          simp only at y2
          go_wp2_with fail
          refine HC.out.mono ?_
          rintro r w2 ⟨rfl, b2⟩
          obtain ⟨g3, hg3⟩ : ∃ g3, w2.heap.size = g3 := ⟨_, rfl⟩
          obtain ⟨w3, hst30, T3, b3, z3⟩ := madeT w2 t0 g3 hg3
          have hst3 : (stT (.pointer (some ⟨g3, 0, none⟩)) (.agg (TC t0))).run Try.prog (w2.alloc (.cells #[.int .i64 0, .int .i64 0, .slice none 0 0] 33)) = .ok () w3 := hst30
          have b23 := b2.trans (b3.mono b2.size)
          have P3 := HPq.out.below b23
          have z2 := (HO1.out.below b23).c2
          simp only at z2
          have HMa := hide P3.made_any
          have HCo := hide (copy_no P3 HNX.out.1 hM)
          have HP3 := hide P3
          have HB3 : Hid (Below w0.heap.size w0 w3) := HBL.out.trans ((HBQ.out.trans (b23.mono HBQ.out.size)).mono HBL.out.size)
          clear hst30 T3 b3 z3 b23 P3 b2 HC y2 hM HP HPq HSB
          go_wp2_with fail
          refine HMa.out.mono ?_
          rintro r w3' ⟨rfl, rfl⟩
          go_wp2_with fail
          refine HCo.out.mono ?_
          rintro r w4 ⟨rfl, b4⟩
          have HMb := hide (HP3.out.below b4).made_any
          have HEND : Hid (LC w0 w4 g mb (k + 1)) := ⟨_, _, _, _, HP3.out.below b4, HB3.out.trans (b4.mono HB3.out.size), by have := HBD.out; omega, by have := HBD.out; omega⟩
          clear b4 HMa HCo
          go_wp2_with fail
          refine HMb.out.mono ?_
          rintro r w5 ⟨rfl, rfl⟩
          go_wp2_with fail
          go_roundw
          case rel => exact ⟨k + 1, HLT.out, by rw [HK1.out], HEND⟩
          case measure => rw [HK1.out]; have := HLT.out; simp [intOf]; omega
        | some l =>
          obtain ⟨f, t, o, n, c⟩ := l
          have HC := hide (look_yes HPq.out HNX.out.1 hM)
          have HDM := hide (HP.out.dom N _ hM)
          have y2 := HO1.out.c2
          simp only at y2
          go_wp2_with fail
          refine HC.out.mono ?_
          rintro r w2 ⟨ba, ca, rfl, B2, N2⟩
          simp only at B2
          obtain ⟨g3, hg3⟩ : ∃ g3, w2.heap.size = g3 := ⟨_, rfl⟩
          obtain ⟨w3, hst3, T3, b3, z3⟩ := madeT w2 ⟨f, t, ba, n, ca⟩ g3 hg3
          rw [t0_cells] at hst3
          have b23 := N2.1.trans (b3.mono N2.1.size)
          have P3 := HPq.out.below b23
          have hs2 := N2.1.size
          have X3 : AX w0 w3 g mb g1 g3 ⟨kd, sec, N, X, Yy, ob, on, oc⟩ ⟨f, t, ba, n, ca⟩ (C N) :=
            ⟨HO1.out.below b23, T3, B2.below b3, by have h := HW1.out; constructor <;> omega, by have h := HW1.out; constructor <;> omega, fun i e => by have h1 := N2.2 i e; have h := HW1.out; refine ⟨?_, ?_, ?_⟩ <;> omega, HBL.out.trans ((HBQ.out.trans (b23.mono HBQ.out.size)).mono HBL.out.size), ⟨HG.out.1, HG.out.2, HW1.out.1⟩, by have h := HW1.out; omega⟩
          have z2 := X3.ob.c2
          simp only at z2
          obtain ⟨m2, hm2⟩ : ∃ m2, made + 1 = m2 := ⟨_, rfl⟩
          have HM2 := hide hm2
          have HMa := hide P3.made_any
          have HCo := hide (copy_yes P3 HNX.out.1 hM (by have := HBD.out; omega) (by have := HBD.out; unfold maxLen; omega))
          have HNR0 : Hid (∀ x l, M x = some l → ∀ k, blk l.bo = some k → k ≠ g1) := fun x l e i ei => by have := HP.out.rlt x l e i ei; omega
          rw [hm2] at HCo
          have HX3 := hide X3
          have HZ3 : Hid (g1 < w3.heap.size) := by show _ < _; have h := HW1.out; have := b3.size; omega
          clear T3 b3 z3 b23 P3 B2 N2 HC y2 HP HPq HSB X3 hs2 hm2
          go_wp2_with fail
          refine HMa.out.mono ?_
          rintro r w3' ⟨rfl, rfl⟩
          go_wp2_with fail
          refine HCo.out.mono ?_
          rintro r w4 ⟨rfl, bo, cc, P4, F4, k4⟩
          have mN : mput M (m2 : Int) ⟨f, t, bo, n, cc⟩ N = some ⟨f, t, o, n, c⟩ := by
            unfold mput
            rw [if_neg (by have := HDM.out; have := HM2.out; omega)]
            exact hM
          have mt : mput M (m2 : Int) ⟨f, t, bo, n, cc⟩ (m2 : Int) = some ⟨f, t, bo, n, cc⟩ := by unfold mput; rw [if_pos rfl]
          have dN : cput C (m2 : Int) (C N) N = C N := by
            unfold cput
            rw [if_neg (by have := HDM.out; have := HM2.out; omega)]
          have dt : cput C (m2 : Int) (C N) (m2 : Int) = C N := by unfold cput; rw [if_pos rfl]
          have HNR : Hid (∀ x l, mput M (m2 : Int) ⟨f, t, bo, n, cc⟩ x = some l → ∀ k, blk l.bo = some k → k ≠ g1) := fun x l e i ei => by
            unfold mput at e
            by_cases hx : x = (m2 : Int)
            · rw [if_pos hx] at e
              obtain rfl := Option.some.inj e
              have h1 := k4 i ei
              have h2 := HZ3.out
              omega
            · rw [if_neg hx] at e
              exact HNR0.out x l e i ei
          generalize mput M (m2 : Int) ⟨f, t, bo, n, cc⟩ = M1 at P4 mN mt HNR
          generalize cput C (m2 : Int) (C N) = C1 at P4 dN dt
          have HX4 := hide (HX3.out.fw F4)
          have HP4 := hide P4
          have HC5 := hide (look_yes P4 (x := (m2 : Int)) (by unfold i64ok; have := HBD.out; have := HM2.out; omega) mt)
          clear F4 k4 P4 HX3 HMa HCo hM HNR0
          go_wp2_with fail
          refine HC5.out.mono ?_
          rintro r w5 ⟨bb5, cb5, rfl, B5, N5⟩
          rw [dt] at B5
          simp only at B5
          obtain ⟨g6, hg6⟩ : ∃ g6, w5.heap.size = g6 := ⟨_, rfl⟩
          obtain ⟨w6, hst6, T6, b6, z6⟩ := madeT w5 ⟨f, t, bb5, n, cb5⟩ g6 hg6
          rw [t0_cells] at hst6
          have b56 := N5.1.trans (b6.mono N5.1.size)
          have X6 := HX4.out.below b56
          have P6 := HP4.out.below b56
          have sB := (B5.below b6).bs.str
          have sA := X6.br.bs.str
          have u0 := T6.c0
          have u1 := T6.c1
          have u2 := T6.c2
          have v0 := X6.tb.c0
          have v1 := X6.tb.c1
          have v2 := X6.tb.c2
          have o1 := X6.ob.c1
          have o2 := X6.ob.c2
          have ew : wrap64 ((made : Int) + 1) = (m2 : Int) := by have := HBD.out; have := HM2.out; rw [w64 (by omega) (by omega)]; omega
          simp only at sB sA u0 u1 u2 v0 v1 v2 o1 o2
          clear B5 N5 T6 b6 z6 b56 HX4 HP4 HC5
          cases sec with
          | true =>
            by_cases hX1 : 1 ≤ X
            · by_cases h4 : kd = 4
              · subst h4
                have X7 := X6.set (m2 : Int)
                have P7 := P6.setCell (g1 := g1) 2 (.int .i64 (m2 : Int)) X6.n1.1 X6.n1.2 HNR.out
                obtain ⟨w7, hw7⟩ : ∃ w7, w6.setCell ⟨g1, 2, none⟩ (.int .i64 (m2 : Int)) = w7 := ⟨_, rfl⟩
                rw [hw7] at X7 P7
                simp only at X7
                have f6 : w6.frozen? ⟨g1, 2, none⟩ = false := frozen_of_box X6.ob 2
                have a2 := X7.ob.c2
                have a3 := X7.ob.c3
                have a0 := X7.ob.c0
                simp only at a0 a2 a3
                obtain ⟨lf, hlf⟩ : ∃ lf : Nat, lf = ((n : Int) - X).toNat := ⟨_, rfl⟩
                have HTr := hide (trim_ok P7 (x := (m2 : Int)) (by unfold i64ok; have := HBD.out; have := HM2.out; omega) mt (cut := X) (by omega) (by have h9 := HNX.out.2.1; unfold i64ok at h9; omega) (by have := HBD.out; unfold maxLen; omega) lf hlf)
                have HAX7 := hide X7
                clear X6 P6 X7 P7 hlf
                go_wp2_with fail
                refine HTr.out.mono ?_
                rintro r w8 ⟨rfl, P8, F8⟩
                have X8 := HAX7.out.fw F8
                have m8 : mput M1 (m2 : Int) ⟨f, t, bo, lf, lf⟩ N = some ⟨f, t, o, n, c⟩ := by
                  unfold mput
                  rw [if_neg (by have := HDM.out; have := HM2.out; omega)]
                  exact mN
                have d8 : cput C1 (m2 : Int) ((C1 (m2 : Int)).take lf) N = C N := by
                  unfold cput
                  rw [if_neg (by have := HDM.out; have := HM2.out; omega)]
                  exact dN
                have s8 : mput M1 (m2 : Int) ⟨f, t, bo, lf, lf⟩ (m2 : Int) = some ⟨f, t, bo, lf, lf⟩ := by unfold mput; rw [if_pos rfl]
                generalize mput M1 (m2 : Int) ⟨f, t, bo, lf, lf⟩ = M2 at P8 m8 s8
                generalize cput C1 (m2 : Int) ((C1 (m2 : Int)).take lf) = C2 at P8 d8
                have e0 := X8.ob.c0
                have e2 := X8.ob.c2
                simp only at e0 e2
                have HDr := hide (drop_yes P8 (x := (m2 : Int)) (by unfold i64ok; have := HBD.out; have := HM2.out; omega) s8)
                have HAX8 := hide X8
                clear P8 F8 X8 HTr HAX7 a0 a2 a3 s8
                go_wp2_with fail
                refine HDr.out.mono ?_
                rintro r w9 ⟨rfl, P9, F9⟩
                have X9 := HAX8.out.fw F9
                have m9 : mdel M2 (m2 : Int) N = some ⟨f, t, o, n, c⟩ := by
                  unfold mdel
                  rw [if_neg (by have := HDM.out; have := HM2.out; omega)]
                  exact m8
                have d9 := d8
                generalize mdel M2 (m2 : Int) = M3 at P9 m9
                have HXP : True := trivial
                clear F9 HDr HAX8 e0 e2 m8 d8
                have HC9 := hide (look_yes P9 HNX.out.1 m9)
                have HAX9 := hide X9
                have HP9 := hide P9
                clear P9 X9 m9 HXP
                go_wp2_with fail
                refine HC9.out.mono ?_
                rintro r wA ⟨bA, cA, rfl, BA, NA⟩
                rw [d9] at BA
                simp only at BA
                obtain ⟨gA, hgA⟩ : ∃ gA, wA.heap.size = gA := ⟨_, rfl⟩
                obtain ⟨wB, hstB, TB, bB, zB⟩ := madeT wA ⟨f, t, bA, n, cA⟩ gA hgA
                rw [t0_cells] at hstB
                have hbB := NA.1.trans (bB.mono NA.1.size)
                have XB := HAX9.out.below hbB
                have sB := (BA.below bB).bs.str
                have sA := XB.br.bs.str
                have u1 := TB.c1
                have u2 := TB.c2
                have v1 := XB.tb.c1
                have v2 := XB.tb.c2
                simp only at sB sA u1 u2 v1 v2
                have HEND : Hid (LC w0 wB g mb (k + 1)) := ⟨_, _, _, _, HP9.out.below hbB, XB.bel, by have := HBD.out; have := HM2.out; omega, by have := HBD.out; omega⟩
                clear BA NA TB bB zB hbB XB HC9 HAX9 HP9 d9
                go_wp2_with fail
                go_roundw
                case rel => exact ⟨k + 1, HLT.out, by rw [HK1.out], HEND⟩
                case measure => rw [HK1.out]; have := HLT.out; simp [intOf]; omega
              · have X7 := X6.set (m2 : Int)
                have P7 := P6.setCell (g1 := g1) 2 (.int .i64 (m2 : Int)) X6.n1.1 X6.n1.2 HNR.out
                obtain ⟨w7, hw7⟩ : ∃ w7, w6.setCell ⟨g1, 2, none⟩ (.int .i64 (m2 : Int)) = w7 := ⟨_, rfl⟩
                rw [hw7] at X7 P7
                simp only at X7
                have f6 : w6.frozen? ⟨g1, 2, none⟩ = false := frozen_of_box X6.ob 2
                have a2 := X7.ob.c2
                have a3 := X7.ob.c3
                have a0 := X7.ob.c0
                simp only at a0 a2 a3
                obtain ⟨lf, hlf⟩ : ∃ lf : Nat, lf = ((n : Int) - X).toNat := ⟨_, rfl⟩
                have HTr := hide (trim_ok P7 (x := (m2 : Int)) (by unfold i64ok; have := HBD.out; have := HM2.out; omega) mt (cut := X) (by omega) (by have h9 := HNX.out.2.1; unfold i64ok at h9; omega) (by have := HBD.out; unfold maxLen; omega) lf hlf)
                have HAX7 := hide X7
                clear X6 P6 X7 P7 hlf
                go_wp2_with fail
                refine HTr.out.mono ?_
                rintro r w8 ⟨rfl, P8, F8⟩
                have X8 := HAX7.out.fw F8
                have m8 : mput M1 (m2 : Int) ⟨f, t, bo, lf, lf⟩ N = some ⟨f, t, o, n, c⟩ := by
                  unfold mput
                  rw [if_neg (by have := HDM.out; have := HM2.out; omega)]
                  exact mN
                have d8 : cput C1 (m2 : Int) ((C1 (m2 : Int)).take lf) N = C N := by
                  unfold cput
                  rw [if_neg (by have := HDM.out; have := HM2.out; omega)]
                  exact dN
                have s8 : mput M1 (m2 : Int) ⟨f, t, bo, lf, lf⟩ (m2 : Int) = some ⟨f, t, bo, lf, lf⟩ := by unfold mput; rw [if_pos rfl]
                generalize mput M1 (m2 : Int) ⟨f, t, bo, lf, lf⟩ = M2 at P8 m8 s8
                generalize cput C1 (m2 : Int) ((C1 (m2 : Int)).take lf) = C2 at P8 d8
                have e0 := X8.ob.c0
                have e2 := X8.ob.c2
                simp only at e0 e2
                have P9 := P8
                have X9 := X8
                have m9 := m8
                have d9 := d8
                have HXP : True := trivial
                clear F8 P8 X8 HTr HAX7 a0 a2 a3 s8 m8 d8
                have HC9 := hide (look_yes P9 HNX.out.1 m9)
                have HAX9 := hide X9
                have HP9 := hide P9
                clear P9 X9 m9 HXP
                go_wp2_with fail
                refine HC9.out.mono ?_
                rintro r wA ⟨bA, cA, rfl, BA, NA⟩
                rw [d9] at BA
                simp only at BA
                obtain ⟨gA, hgA⟩ : ∃ gA, wA.heap.size = gA := ⟨_, rfl⟩
                obtain ⟨wB, hstB, TB, bB, zB⟩ := madeT wA ⟨f, t, bA, n, cA⟩ gA hgA
                rw [t0_cells] at hstB
                have hbB := NA.1.trans (bB.mono NA.1.size)
                have XB := HAX9.out.below hbB
                have sB := (BA.below bB).bs.str
                have sA := XB.br.bs.str
                have u1 := TB.c1
                have u2 := TB.c2
                have v1 := XB.tb.c1
                have v2 := XB.tb.c2
                simp only at sB sA u1 u2 v1 v2
                have HEND : Hid (LC w0 wB g mb (k + 1)) := ⟨_, _, _, _, HP9.out.below hbB, XB.bel, by have := HBD.out; have := HM2.out; omega, by have := HBD.out; omega⟩
                clear BA NA TB bB zB hbB XB HC9 HAX9 HP9 d9
                go_wp2_with fail
                go_roundw
                case rel => exact ⟨k + 1, HLT.out, by rw [HK1.out], HEND⟩
                case measure => rw [HK1.out]; have := HLT.out; simp [intOf]; omega
            · by_cases h4 : kd = 4
              · subst h4
                have hX2 : X < 1 := by omega
                have X7 := X6.set (m2 : Int)
                have P7 := P6.setCell (g1 := g1) 2 (.int .i64 (m2 : Int)) X6.n1.1 X6.n1.2 HNR.out
                obtain ⟨w7, hw7⟩ : ∃ w7, w6.setCell ⟨g1, 2, none⟩ (.int .i64 (m2 : Int)) = w7 := ⟨_, rfl⟩
                rw [hw7] at X7 P7
                simp only at X7
                have f6 : w6.frozen? ⟨g1, 2, none⟩ = false := frozen_of_box X6.ob 2
                have a2 := X7.ob.c2
                have a3 := X7.ob.c3
                have a0 := X7.ob.c0
                simp only at a0 a2 a3
                obtain ⟨lf, hlf⟩ : ∃ lf : Nat, lf = ((n : Int) - 1).toNat := ⟨_, rfl⟩
                have HTr := hide (trim_ok P7 (x := (m2 : Int)) (by unfold i64ok; have := HBD.out; have := HM2.out; omega) mt (cut := 1) (by omega) (by have h9 := HNX.out.2.1; unfold i64ok at h9; omega) (by have := HBD.out; unfold maxLen; omega) lf hlf)
                have HAX7 := hide X7
                clear X6 P6 X7 P7 hlf
                go_wp2_with fail
                refine HTr.out.mono ?_
                rintro r w8 ⟨rfl, P8, F8⟩
                have X8 := HAX7.out.fw F8
                have m8 : mput M1 (m2 : Int) ⟨f, t, bo, lf, lf⟩ N = some ⟨f, t, o, n, c⟩ := by
                  unfold mput
                  rw [if_neg (by have := HDM.out; have := HM2.out; omega)]
                  exact mN
                have d8 : cput C1 (m2 : Int) ((C1 (m2 : Int)).take lf) N = C N := by
                  unfold cput
                  rw [if_neg (by have := HDM.out; have := HM2.out; omega)]
                  exact dN
                have s8 : mput M1 (m2 : Int) ⟨f, t, bo, lf, lf⟩ (m2 : Int) = some ⟨f, t, bo, lf, lf⟩ := by unfold mput; rw [if_pos rfl]
                generalize mput M1 (m2 : Int) ⟨f, t, bo, lf, lf⟩ = M2 at P8 m8 s8
                generalize cput C1 (m2 : Int) ((C1 (m2 : Int)).take lf) = C2 at P8 d8
                have e0 := X8.ob.c0
                have e2 := X8.ob.c2
                simp only at e0 e2
                have HDr := hide (drop_yes P8 (x := (m2 : Int)) (by unfold i64ok; have := HBD.out; have := HM2.out; omega) s8)
                have HAX8 := hide X8
                clear P8 F8 X8 HTr HAX7 a0 a2 a3 s8
                go_wp2_with fail
                refine HDr.out.mono ?_
                rintro r w9 ⟨rfl, P9, F9⟩
                have X9 := HAX8.out.fw F9
                have m9 : mdel M2 (m2 : Int) N = some ⟨f, t, o, n, c⟩ := by
                  unfold mdel
                  rw [if_neg (by have := HDM.out; have := HM2.out; omega)]
                  exact m8
                have d9 := d8
                generalize mdel M2 (m2 : Int) = M3 at P9 m9
                have HXP : True := trivial
                clear F9 HDr HAX8 e0 e2 m8 d8
                have HC9 := hide (look_yes P9 HNX.out.1 m9)
                have HAX9 := hide X9
                have HP9 := hide P9
                clear P9 X9 m9 HXP
                go_wp2_with fail
                refine HC9.out.mono ?_
                rintro r wA ⟨bA, cA, rfl, BA, NA⟩
                rw [d9] at BA
                simp only at BA
                obtain ⟨gA, hgA⟩ : ∃ gA, wA.heap.size = gA := ⟨_, rfl⟩
                obtain ⟨wB, hstB, TB, bB, zB⟩ := madeT wA ⟨f, t, bA, n, cA⟩ gA hgA
                rw [t0_cells] at hstB
                have hbB := NA.1.trans (bB.mono NA.1.size)
                have XB := HAX9.out.below hbB
                have sB := (BA.below bB).bs.str
                have sA := XB.br.bs.str
                have u1 := TB.c1
                have u2 := TB.c2
                have v1 := XB.tb.c1
                have v2 := XB.tb.c2
                simp only at sB sA u1 u2 v1 v2
                have HEND : Hid (LC w0 wB g mb (k + 1)) := ⟨_, _, _, _, HP9.out.below hbB, XB.bel, by have := HBD.out; have := HM2.out; omega, by have := HBD.out; omega⟩
                clear BA NA TB bB zB hbB XB HC9 HAX9 HP9 d9
                go_wp2_with fail
                go_roundw
                case rel => exact ⟨k + 1, HLT.out, by rw [HK1.out], HEND⟩
                case measure => rw [HK1.out]; have := HLT.out; simp [intOf]; omega
              · have hX2 : X < 1 := by omega
                have X7 := X6.set (m2 : Int)
                have P7 := P6.setCell (g1 := g1) 2 (.int .i64 (m2 : Int)) X6.n1.1 X6.n1.2 HNR.out
                obtain ⟨w7, hw7⟩ : ∃ w7, w6.setCell ⟨g1, 2, none⟩ (.int .i64 (m2 : Int)) = w7 := ⟨_, rfl⟩
                rw [hw7] at X7 P7
                simp only at X7
                have f6 : w6.frozen? ⟨g1, 2, none⟩ = false := frozen_of_box X6.ob 2
                have a2 := X7.ob.c2
                have a3 := X7.ob.c3
                have a0 := X7.ob.c0
                simp only at a0 a2 a3
                obtain ⟨lf, hlf⟩ : ∃ lf : Nat, lf = ((n : Int) - 1).toNat := ⟨_, rfl⟩
                have HTr := hide (trim_ok P7 (x := (m2 : Int)) (by unfold i64ok; have := HBD.out; have := HM2.out; omega) mt (cut := 1) (by omega) (by have h9 := HNX.out.2.1; unfold i64ok at h9; omega) (by have := HBD.out; unfold maxLen; omega) lf hlf)
                have HAX7 := hide X7
                clear X6 P6 X7 P7 hlf
                go_wp2_with fail
                refine HTr.out.mono ?_
                rintro r w8 ⟨rfl, P8, F8⟩
                have X8 := HAX7.out.fw F8
                have m8 : mput M1 (m2 : Int) ⟨f, t, bo, lf, lf⟩ N = some ⟨f, t, o, n, c⟩ := by
                  unfold mput
                  rw [if_neg (by have := HDM.out; have := HM2.out; omega)]
                  exact mN
                have d8 : cput C1 (m2 : Int) ((C1 (m2 : Int)).take lf) N = C N := by
                  unfold cput
                  rw [if_neg (by have := HDM.out; have := HM2.out; omega)]
                  exact dN
                have s8 : mput M1 (m2 : Int) ⟨f, t, bo, lf, lf⟩ (m2 : Int) = some ⟨f, t, bo, lf, lf⟩ := by unfold mput; rw [if_pos rfl]
                generalize mput M1 (m2 : Int) ⟨f, t, bo, lf, lf⟩ = M2 at P8 m8 s8
                generalize cput C1 (m2 : Int) ((C1 (m2 : Int)).take lf) = C2 at P8 d8
                have e0 := X8.ob.c0
                have e2 := X8.ob.c2
                simp only at e0 e2
                have P9 := P8
                have X9 := X8
                have m9 := m8
                have d9 := d8
                have HXP : True := trivial
                clear F8 P8 X8 HTr HAX7 a0 a2 a3 s8 m8 d8
                have HC9 := hide (look_yes P9 HNX.out.1 m9)
                have HAX9 := hide X9
                have HP9 := hide P9
                clear P9 X9 m9 HXP
                go_wp2_with fail
                refine HC9.out.mono ?_
                rintro r wA ⟨bA, cA, rfl, BA, NA⟩
                rw [d9] at BA
                simp only at BA
                obtain ⟨gA, hgA⟩ : ∃ gA, wA.heap.size = gA := ⟨_, rfl⟩
                obtain ⟨wB, hstB, TB, bB, zB⟩ := madeT wA ⟨f, t, bA, n, cA⟩ gA hgA
                rw [t0_cells] at hstB
                have hbB := NA.1.trans (bB.mono NA.1.size)
                have XB := HAX9.out.below hbB
                have sB := (BA.below bB).bs.str
                have sA := XB.br.bs.str
                have u1 := TB.c1
                have u2 := TB.c2
                have v1 := XB.tb.c1
                have v2 := XB.tb.c2
                simp only at sB sA u1 u2 v1 v2
                have HEND : Hid (LC w0 wB g mb (k + 1)) := ⟨_, _, _, _, HP9.out.below hbB, XB.bel, by have := HBD.out; have := HM2.out; omega, by have := HBD.out; omega⟩
                clear BA NA TB bB zB hbB XB HC9 HAX9 HP9 d9
                go_wp2_with fail
                go_roundw
                case rel => exact ⟨k + 1, HLT.out, by rw [HK1.out], HEND⟩
                case measure => rw [HK1.out]; have := HLT.out; simp [intOf]; omega
          | false =>
            by_cases hX1 : 1 ≤ X
            · by_cases h4 : kd = 4
              · subst h4
                have X7 := X6
                have P7 := P6
                have a2 := X7.ob.c2
                have a3 := X7.ob.c3
                have a0 := X7.ob.c0
                simp only at a0 a2 a3
                obtain ⟨lf, hlf⟩ : ∃ lf : Nat, lf = ((n : Int) - X).toNat := ⟨_, rfl⟩
                have HTr := hide (trim_ok P7 (x := N) HNX.out.1 mN (cut := X) (by omega) (by have h9 := HNX.out.2.1; unfold i64ok at h9; omega) (by have := HBD.out; unfold maxLen; omega) lf hlf)
                have HAX7 := hide X7
                clear X6 P6 X7 P7 hlf
                go_wp2_with fail
                refine HTr.out.mono ?_
                rintro r w8 ⟨rfl, P8, F8⟩
                have X8 := HAX7.out.fw F8
                have m8 : mput M1 N ⟨f, t, o, lf, lf⟩ (m2 : Int) = some ⟨f, t, bo, n, cc⟩ := by
                  unfold mput
                  rw [if_neg (by have := HDM.out; have := HM2.out; omega)]
                  exact mt
                have d8 : cput C1 N ((C1 N).take lf) (m2 : Int) = C N := by
                  unfold cput
                  rw [if_neg (by have := HDM.out; have := HM2.out; omega)]
                  exact dt
                have s8 : mput M1 N ⟨f, t, o, lf, lf⟩ N = some ⟨f, t, o, lf, lf⟩ := by unfold mput; rw [if_pos rfl]
                generalize mput M1 N ⟨f, t, o, lf, lf⟩ = M2 at P8 m8 s8
                generalize cput C1 N ((C1 N).take lf) = C2 at P8 d8
                have e0 := X8.ob.c0
                have e2 := X8.ob.c2
                simp only at e0 e2
                have HDr := hide (drop_yes P8 (x := N) HNX.out.1 s8)
                have HAX8 := hide X8
                clear P8 F8 X8 HTr HAX7 a0 a2 a3 s8
                go_wp2_with fail
                refine HDr.out.mono ?_
                rintro r w9 ⟨rfl, P9, F9⟩
                have X9 := HAX8.out.fw F9
                have m9 : mdel M2 N (m2 : Int) = some ⟨f, t, bo, n, cc⟩ := by
                  unfold mdel
                  rw [if_neg (by have := HDM.out; have := HM2.out; omega)]
                  exact m8
                have d9 := d8
                generalize mdel M2 N = M3 at P9 m9
                have HXP : True := trivial
                clear F9 HDr HAX8 e0 e2 m8 d8
                have HC9 := hide (look_yes P9 (by unfold i64ok; have := HBD.out; have := HM2.out; omega) m9)
                have HAX9 := hide X9
                have HP9 := hide P9
                clear P9 X9 m9 HXP
                go_wp2_with fail
                refine HC9.out.mono ?_
                rintro r wA ⟨bA, cA, rfl, BA, NA⟩
                rw [d9] at BA
                simp only at BA
                obtain ⟨gA, hgA⟩ : ∃ gA, wA.heap.size = gA := ⟨_, rfl⟩
                obtain ⟨wB, hstB, TB, bB, zB⟩ := madeT wA ⟨f, t, bA, n, cA⟩ gA hgA
                rw [t0_cells] at hstB
                have hbB := NA.1.trans (bB.mono NA.1.size)
                have XB := HAX9.out.below hbB
                have sB := (BA.below bB).bs.str
                have sA := XB.br.bs.str
                have u1 := TB.c1
                have u2 := TB.c2
                have v1 := XB.tb.c1
                have v2 := XB.tb.c2
                simp only at sB sA u1 u2 v1 v2
                have HEND : Hid (LC w0 wB g mb (k + 1)) := ⟨_, _, _, _, HP9.out.below hbB, XB.bel, by have := HBD.out; have := HM2.out; omega, by have := HBD.out; omega⟩
                clear BA NA TB bB zB hbB XB HC9 HAX9 HP9 d9
                go_wp2_with fail
                go_roundw
                case rel => exact ⟨k + 1, HLT.out, by rw [HK1.out], HEND⟩
                case measure => rw [HK1.out]; have := HLT.out; simp [intOf]; omega
              · have X7 := X6
                have P7 := P6
                have a2 := X7.ob.c2
                have a3 := X7.ob.c3
                have a0 := X7.ob.c0
                simp only at a0 a2 a3
                obtain ⟨lf, hlf⟩ : ∃ lf : Nat, lf = ((n : Int) - X).toNat := ⟨_, rfl⟩
                have HTr := hide (trim_ok P7 (x := N) HNX.out.1 mN (cut := X) (by omega) (by have h9 := HNX.out.2.1; unfold i64ok at h9; omega) (by have := HBD.out; unfold maxLen; omega) lf hlf)
                have HAX7 := hide X7
                clear X6 P6 X7 P7 hlf
                go_wp2_with fail
                refine HTr.out.mono ?_
                rintro r w8 ⟨rfl, P8, F8⟩
                have X8 := HAX7.out.fw F8
                have m8 : mput M1 N ⟨f, t, o, lf, lf⟩ (m2 : Int) = some ⟨f, t, bo, n, cc⟩ := by
                  unfold mput
                  rw [if_neg (by have := HDM.out; have := HM2.out; omega)]
                  exact mt
                have d8 : cput C1 N ((C1 N).take lf) (m2 : Int) = C N := by
                  unfold cput
                  rw [if_neg (by have := HDM.out; have := HM2.out; omega)]
                  exact dt
                have s8 : mput M1 N ⟨f, t, o, lf, lf⟩ N = some ⟨f, t, o, lf, lf⟩ := by unfold mput; rw [if_pos rfl]
                generalize mput M1 N ⟨f, t, o, lf, lf⟩ = M2 at P8 m8 s8
                generalize cput C1 N ((C1 N).take lf) = C2 at P8 d8
                have e0 := X8.ob.c0
                have e2 := X8.ob.c2
                simp only at e0 e2
                have P9 := P8
                have X9 := X8
                have m9 := m8
                have d9 := d8
                have HXP : True := trivial
                clear F8 P8 X8 HTr HAX7 a0 a2 a3 s8 m8 d8
                have HC9 := hide (look_yes P9 (by unfold i64ok; have := HBD.out; have := HM2.out; omega) m9)
                have HAX9 := hide X9
                have HP9 := hide P9
                clear P9 X9 m9 HXP
                go_wp2_with fail
                refine HC9.out.mono ?_
                rintro r wA ⟨bA, cA, rfl, BA, NA⟩
                rw [d9] at BA
                simp only at BA
                obtain ⟨gA, hgA⟩ : ∃ gA, wA.heap.size = gA := ⟨_, rfl⟩
                obtain ⟨wB, hstB, TB, bB, zB⟩ := madeT wA ⟨f, t, bA, n, cA⟩ gA hgA
                rw [t0_cells] at hstB
                have hbB := NA.1.trans (bB.mono NA.1.size)
                have XB := HAX9.out.below hbB
                have sB := (BA.below bB).bs.str
                have sA := XB.br.bs.str
                have u1 := TB.c1
                have u2 := TB.c2
                have v1 := XB.tb.c1
                have v2 := XB.tb.c2
                simp only at sB sA u1 u2 v1 v2
                have HEND : Hid (LC w0 wB g mb (k + 1)) := ⟨_, _, _, _, HP9.out.below hbB, XB.bel, by have := HBD.out; have := HM2.out; omega, by have := HBD.out; omega⟩
                clear BA NA TB bB zB hbB XB HC9 HAX9 HP9 d9
                go_wp2_with fail
                go_roundw
                case rel => exact ⟨k + 1, HLT.out, by rw [HK1.out], HEND⟩
                case measure => rw [HK1.out]; have := HLT.out; simp [intOf]; omega
            · by_cases h4 : kd = 4
              · subst h4
                have hX2 : X < 1 := by omega
                have X7 := X6
                have P7 := P6
                have a2 := X7.ob.c2
                have a3 := X7.ob.c3
                have a0 := X7.ob.c0
                simp only at a0 a2 a3
                obtain ⟨lf, hlf⟩ : ∃ lf : Nat, lf = ((n : Int) - 1).toNat := ⟨_, rfl⟩
                have HTr := hide (trim_ok P7 (x := N) HNX.out.1 mN (cut := 1) (by omega) (by have h9 := HNX.out.2.1; unfold i64ok at h9; omega) (by have := HBD.out; unfold maxLen; omega) lf hlf)
                have HAX7 := hide X7
                clear X6 P6 X7 P7 hlf
                go_wp2_with fail
                refine HTr.out.mono ?_
                rintro r w8 ⟨rfl, P8, F8⟩
                have X8 := HAX7.out.fw F8
                have m8 : mput M1 N ⟨f, t, o, lf, lf⟩ (m2 : Int) = some ⟨f, t, bo, n, cc⟩ := by
                  unfold mput
                  rw [if_neg (by have := HDM.out; have := HM2.out; omega)]
                  exact mt
                have d8 : cput C1 N ((C1 N).take lf) (m2 : Int) = C N := by
                  unfold cput
                  rw [if_neg (by have := HDM.out; have := HM2.out; omega)]
                  exact dt
                have s8 : mput M1 N ⟨f, t, o, lf, lf⟩ N = some ⟨f, t, o, lf, lf⟩ := by unfold mput; rw [if_pos rfl]
                generalize mput M1 N ⟨f, t, o, lf, lf⟩ = M2 at P8 m8 s8
                generalize cput C1 N ((C1 N).take lf) = C2 at P8 d8
                have e0 := X8.ob.c0
                have e2 := X8.ob.c2
                simp only at e0 e2
                have HDr := hide (drop_yes P8 (x := N) HNX.out.1 s8)
                have HAX8 := hide X8
                clear P8 F8 X8 HTr HAX7 a0 a2 a3 s8
                go_wp2_with fail
                refine HDr.out.mono ?_
                rintro r w9 ⟨rfl, P9, F9⟩
                have X9 := HAX8.out.fw F9
                have m9 : mdel M2 N (m2 : Int) = some ⟨f, t, bo, n, cc⟩ := by
                  unfold mdel
                  rw [if_neg (by have := HDM.out; have := HM2.out; omega)]
                  exact m8
                have d9 := d8
                generalize mdel M2 N = M3 at P9 m9
                have HXP : True := trivial
                clear F9 HDr HAX8 e0 e2 m8 d8
                have HC9 := hide (look_yes P9 (by unfold i64ok; have := HBD.out; have := HM2.out; omega) m9)
                have HAX9 := hide X9
                have HP9 := hide P9
                clear P9 X9 m9 HXP
                go_wp2_with fail
                refine HC9.out.mono ?_
                rintro r wA ⟨bA, cA, rfl, BA, NA⟩
                rw [d9] at BA
                simp only at BA
                obtain ⟨gA, hgA⟩ : ∃ gA, wA.heap.size = gA := ⟨_, rfl⟩
                obtain ⟨wB, hstB, TB, bB, zB⟩ := madeT wA ⟨f, t, bA, n, cA⟩ gA hgA
                rw [t0_cells] at hstB
                have hbB := NA.1.trans (bB.mono NA.1.size)
                have XB := HAX9.out.below hbB
                have sB := (BA.below bB).bs.str
                have sA := XB.br.bs.str
                have u1 := TB.c1
                have u2 := TB.c2
                have v1 := XB.tb.c1
                have v2 := XB.tb.c2
                simp only at sB sA u1 u2 v1 v2
                have HEND : Hid (LC w0 wB g mb (k + 1)) := ⟨_, _, _, _, HP9.out.below hbB, XB.bel, by have := HBD.out; have := HM2.out; omega, by have := HBD.out; omega⟩
                clear BA NA TB bB zB hbB XB HC9 HAX9 HP9 d9
                go_wp2_with fail
                go_roundw
                case rel => exact ⟨k + 1, HLT.out, by rw [HK1.out], HEND⟩
                case measure => rw [HK1.out]; have := HLT.out; simp [intOf]; omega
              · have hX2 : X < 1 := by omega
                have X7 := X6
                have P7 := P6
                have a2 := X7.ob.c2
                have a3 := X7.ob.c3
                have a0 := X7.ob.c0
                simp only at a0 a2 a3
                obtain ⟨lf, hlf⟩ : ∃ lf : Nat, lf = ((n : Int) - 1).toNat := ⟨_, rfl⟩
                have HTr := hide (trim_ok P7 (x := N) HNX.out.1 mN (cut := 1) (by omega) (by have h9 := HNX.out.2.1; unfold i64ok at h9; omega) (by have := HBD.out; unfold maxLen; omega) lf hlf)
                have HAX7 := hide X7
                clear X6 P6 X7 P7 hlf
                go_wp2_with fail
                refine HTr.out.mono ?_
                rintro r w8 ⟨rfl, P8, F8⟩
                have X8 := HAX7.out.fw F8
                have m8 : mput M1 N ⟨f, t, o, lf, lf⟩ (m2 : Int) = some ⟨f, t, bo, n, cc⟩ := by
                  unfold mput
                  rw [if_neg (by have := HDM.out; have := HM2.out; omega)]
                  exact mt
                have d8 : cput C1 N ((C1 N).take lf) (m2 : Int) = C N := by
                  unfold cput
                  rw [if_neg (by have := HDM.out; have := HM2.out; omega)]
                  exact dt
                have s8 : mput M1 N ⟨f, t, o, lf, lf⟩ N = some ⟨f, t, o, lf, lf⟩ := by unfold mput; rw [if_pos rfl]
                generalize mput M1 N ⟨f, t, o, lf, lf⟩ = M2 at P8 m8 s8
                generalize cput C1 N ((C1 N).take lf) = C2 at P8 d8
                have e0 := X8.ob.c0
                have e2 := X8.ob.c2
                simp only at e0 e2
                have P9 := P8
                have X9 := X8
                have m9 := m8
                have d9 := d8
                have HXP : True := trivial
                clear F8 P8 X8 HTr HAX7 a0 a2 a3 s8 m8 d8
                have HC9 := hide (look_yes P9 (by unfold i64ok; have := HBD.out; have := HM2.out; omega) m9)
                have HAX9 := hide X9
                have HP9 := hide P9
                clear P9 X9 m9 HXP
                go_wp2_with fail
                refine HC9.out.mono ?_
                rintro r wA ⟨bA, cA, rfl, BA, NA⟩
                rw [d9] at BA
                simp only at BA
                obtain ⟨gA, hgA⟩ : ∃ gA, wA.heap.size = gA := ⟨_, rfl⟩
                obtain ⟨wB, hstB, TB, bB, zB⟩ := madeT wA ⟨f, t, bA, n, cA⟩ gA hgA
                rw [t0_cells] at hstB
                have hbB := NA.1.trans (bB.mono NA.1.size)
                have XB := HAX9.out.below hbB
                have sB := (BA.below bB).bs.str
                have sA := XB.br.bs.str
                have u1 := TB.c1
                have u2 := TB.c2
                have v1 := XB.tb.c1
                have v2 := XB.tb.c2
                simp only at sB sA u1 u2 v1 v2
                have HEND : Hid (LC w0 wB g mb (k + 1)) := ⟨_, _, _, _, HP9.out.below hbB, XB.bel, by have := HBD.out; have := HM2.out; omega, by have := HBD.out; omega⟩
                clear BA NA TB bB zB hbB XB HC9 HAX9 HP9 d9
                go_wp2_with fail
                go_roundw
                case rel => exact ⟨k + 1, HLT.out, by rw [HK1.out], HEND⟩
                case measure => rw [HK1.out]; have := HLT.out; simp [intOf]; omega
    · obtain ⟨made, K, M, C, P, bel, hma, hKa⟩ := HI.out
      have HMa := hide P.made_any
      have HB := hide bel
      clear HI P bel hma hKa
      go_wp2_with fail
      refine HMa.out.mono ?_
      rintro r w3 ⟨rfl, rfl⟩
      go_wp2_with fail
      go_ret
      exact ⟨rfl, HB.out⟩
end Go.Proofs.Ytichkohhngcpoaa
