/- WireNested: the inner closure. -/
import Derived.Test.YtflinfmhmokfhaaUCj
namespace Go.Proofs.Ytflinfmhmokfhaa
open Go.RowKit
attribute [local go_sem ↓] ldG_eq stG_eq ldK_eq stK_eq
attribute [local go_sem] GC_size KC_size to_GC to_KC fold_GC1 KC_s0 KC_s1
variable {w0 w w' w2 wr : World} {q gin o gg gn gr : Nat} {bz1 bz2 : Option Nat} {roc ro2 so1 so2 lo2 : Option Addr} {rnc rcc rn2 rc2 sn1 sc1 sn2 sc2 ln2 lc2 : Nat} {Zc Z2 : List Int} {G0 : List Got} {P1 P2 : List Ask}

/-- what the second loop keeps -/
def PX (w1 : World) (lo : Option Addr) : Nat → Prop := fun k => k < w1.heap.size ∧ blk lo ≠ some k
def PA (w1 : World) : Nat → Prop := fun k => k < w1.heap.size
/-- what the inner closure leaves -/
def IP (w0 : World) (q gin o gg : Nat) (bz1 bz2 : Option Nat) (P1 P2 : List Ask) (Zc Z2 : List Int) (G0 : List Got) (lo2 : Option Addr) (r : Ending) (w' : World) : Prop :=
  BadJ (PA w0) w0 q gin P1 Zc [] r w' ∨ ∃ w1, GoodJ (PA w0) w0 q gin bz1 P1 Zc [] w1 ∧ (BadJ (PX w1 lo2) w1 o gg P2 Z2 G0 r w' ∨ (r = .returned (.tuple #[]) ∧ GoodJ (PX w1 lo2) w1 o gg bz2 P2 Z2 G0 w'))
set_option maxRecDepth 100000 in
set_option maxHeartbeats 16000000 in
theorem inner_any (hT : TN (PA w0) w0 q gin gn 3 gr o so1 sn1 sc1 P1) (h : CJ (PA w0) w0 w0 q gin bz1 roc rnc rcc Zc none 0 0 [])
    (hX : ∀ w1, Kj (PA w0) w0 w1 q gin → CJ (PX w1 lo2) w1 w1 o gg bz2 ro2 rn2 rc2 Z2 lo2 ln2 lc2 G0 ∧ TN (PX w1 lo2) w1 o gg gn 4 gr o so2 sn2 sc2 P2) (hl : ln2 ≤ 4000000) (hP2 : P2.length = sn2) :
    Calls Try.prog 20 #[ptr q, ptr gn, ptr gin, ptr gg, ptr gr] w0 fun r w' => IP w0 q gin o gg bz1 bz2 P1 P2 Zc Z2 G0 lo2 r w' := by
  have HC : Hid (JL (PA w0) w0 w0 q gin bz1 P1 Zc [] 0) := ⟨roc, rnc, rcc, Zc, none, 0, 0, [], h, Nat.zero_le _, Nat.zero_le _, rfl⟩
  have HS := hide hT
  have HP : Hid (P1.length = sn1) := hT.qs.len
  have HP2 : Hid (P2.length = sn2) := hP2
  have HX := hide hX
  have HL2 : Hid (ln2 ≤ 4000000) := hl
  clear hT h hX hl hP2
  go_enter Try.func20, Try.ntmps20
  go_wp2_with fail
  go_loopw [6] (fun i wr => ∃ k : Nat, k ≤ sn1 ∧ i = .int .i64 k ∧ Hid (JL (PA w0) w0 wr q gin bz1 P1 Zc [] k)) (fun i _ => sn1 - (intOf i).toNat)
  case atStart => exact ⟨0, Nat.zero_le _, rfl, HC⟩
  case round =>
    clear HC
    obtain ⟨ka, hka, rfl, HLa⟩ := hrel
    obtain ⟨roa, rna, rca, Za, loa, lna, lca, Ga, hI, hc, hln, hE⟩ := HLa.out
    have x1a := HS.out.nc' hI.kl.block
    have HIa := hide hI
    have HEa := hide hE
    have HCka := hide hc
    have HLna : Hid (lna ≤ 4000000 + ka) := hln
    clear hI hE hc hln
    by_cases hlt : ka < sn1
    · have HLTa := hide hlt
      obtain ⟨ada, had, -⟩ := HS.out.qs.at ka hlt
      obtain ⟨sa, hs⟩ : ∃ s, (P1).getD ka k0 = s := ⟨_, rfl⟩
      have HSSa : Hid (∀ W : World, (∀ j, (PA w0) j → j ≠ q → j ≠ gin → W.heap[j]? = (w0).heap[j]?) → NS gn 3 gr o (some ada) sn1 sc1 (ada.add (ka * 2)) sa W) := fun W hW => by
        have := HS.out.ss had hlt hW
        rw [hs, had] at this
        exact this
      have HK1a : Hid (wrap64 ((ka : Int) + 1) = ((ka + 1 : Nat) : Int)) := by show _ = _; have := HS.out.big; rw [w64 (by omega) (by omega)]; rfl
      have HBa : Hid (lna + 1 ≤ 4398046511004) := by show _ ≤ _; have := HS.out.big; have := HLna.out; omega
      have hiN : (ka : Int) < (sn1 : Int) := by omega
      subst had
      have ID := HIa.out.below (below_drew1 wr)
      have HIXa := hide ID
      have x0 := ID.v2.c
      clear ID
      by_cases h8 : sa.kind = 8
      · have H8a := hide h8
        have HC8a := hide (calm_eq P1 ka HCka.out (by rw [HP.out]; exact hlt) (by rw [hs]; exact h8))
        clear h8 hs hlt hka
        go_wp2_with fail
        refine wp_region_held_drew (S := NS gn 3 gr o (some ada) sn1 sc1 (ada.add (ka * 2)) sa) (by kernel_rfl) (HSSa.out _ HIXa.out.kl.block) (fun hHeld => ?_)
        refine wpAnyH_take (i := 1) (oi := { dst := some 16, op := Op.move (Operand.tmp 0), type := 25, pos := "law.go:177", after := #[], guard := none }) (v := ?_) rfl (by kernel_rfl) (by kernel_rfl) (by kernel_rfl) (fun _ _ _ h => h) (Or.inl ⟨by rfl, ?_⟩) (by assumption) ?_
        rotate_left
        · (intro w hSw; (try dsimp only at hSw); go_simp); first | done | with_reducible rfl
        simp only [Act.put, List.setIfInBounds_toArray, List.set_cons_zero, List.set_cons_succ]
        refine wpAnyH_take (i := 2) (oi := { dst := some 17, op := Op.fieldAddr 54 (Operand.tmp 1) 3, type := 0, pos := "law.go:177", after := #[], guard := none }) (v := ?_) rfl (by kernel_rfl) (by kernel_rfl) (by kernel_rfl) (fun _ _ _ h => h) (Or.inl ⟨by rfl, ?_⟩) (by assumption) ?_
        rotate_left
        · (intro w hSw; (try dsimp only at hSw); go_simp); first | done | with_reducible rfl
        simp only [Act.put, List.setIfInBounds_toArray, List.set_cons_zero, List.set_cons_succ]
        refine wpAnyH_take (i := 3) (oi := { dst := some 18, op := Op.load 23 (Operand.tmp 17), type := 23, pos := "law.go:177", after := #[{ on := 2, ground := Ground.data }], guard := none }) (v := ?_) rfl (by kernel_rfl) (by kernel_rfl) (by kernel_rfl) (fun _ _ _ h => h) (Or.inl ⟨by rfl, ?_⟩) (by assumption) ?_
        rotate_left
        · (intro w hSw; (try dsimp only at hSw); have h1 := hSw.1; go_simp); first | done | with_reducible rfl
        simp only [Act.put, List.setIfInBounds_toArray, List.set_cons_zero, List.set_cons_succ]
        refine wpAnyH_take (i := 4) (oi := { dst := some 19, op := Op.move (Operand.tmp 6), type := 3, pos := "law.go:177", after := #[], guard := none }) (v := ?_) rfl (by kernel_rfl) (by kernel_rfl) (by kernel_rfl) (fun _ _ _ h => h) (Or.inl ⟨by rfl, ?_⟩) (by assumption) ?_
        rotate_left
        · (intro w hSw; (try dsimp only at hSw); go_simp); first | done | with_reducible rfl
        simp only [Act.put, List.setIfInBounds_toArray, List.set_cons_zero, List.set_cons_succ]
        refine wpAnyH_take (i := 5) (oi := { dst := some 20, op := Op.indexAddr 23 (Operand.tmp 18) (Operand.tmp 19), type := 0, pos := "law.go:177", after := #[{ on := 3, ground := Ground.data }, { on := 4, ground := Ground.data }], guard := none }) (v := ?_) rfl (by kernel_rfl) (by kernel_rfl) (by kernel_rfl) (fun _ _ _ h => h) (Or.inl ⟨by rfl, ?_⟩) (by assumption) ?_
        rotate_left
        · (intro w hSw; (try dsimp only at hSw); go_simp); first | done | with_reducible rfl
        simp only [Act.put, List.setIfInBounds_toArray, List.set_cons_zero, List.set_cons_succ]
        refine wpAnyH_take (i := 6) (oi := { dst := some 21, op := Op.load 32 (Operand.tmp 20), type := 32, pos := "law.go:177", after := #[{ on := 5, ground := Ground.data }], guard := none }) (v := ?_) rfl (by kernel_rfl) (by kernel_rfl) (by kernel_rfl) (fun _ _ _ h => h) (Or.inl ⟨by rfl, ?_⟩) (by assumption) ?_
        rotate_left
        · (intro w hSw; (try dsimp only at hSw); have h3 := run_laK hSw.2.2; go_simp); first | done | with_reducible rfl
        simp only [Act.put, List.setIfInBounds_toArray, List.set_cons_zero, List.set_cons_succ]
        refine wpAnyH_ready (rs := [0, 7]) (by kernel_rfl) (by simp) ?_
        refine AllReadyH.cons rfl (fun K hK => ?_) (AllReadyH.cons rfl (fun K hK => ?_) AllReadyH.nil)
        · go_simp
          refine hK.out _ _ (HSSa.out _ HIXa.out.kl.block) (fun hHeld => ?_)
          clear hK K
          refine wpAnyH_ready (rs := [7]) (by kernel_rfl) (by simp) ?_
          refine AllReadyH.cons rfl (fun K hK => ?_) ?_
          rotate_left
          · exact AllReadyH.nil
          go_simp
          go_wp2_with fail
          have HAk : Hid (Calls Try.prog 8 #[ptr q, .agg (KC sa)] wr.drew fun r w' => (∃ v, r = .panicked (bmE v false)) ∧ Below wr.drew.heap.size wr.drew w') := by
            have := ask8_boom (n := sa.n) HIXa.out.rl
            rw [← H8a.out] at this
            exact this
          refine HAk.out.mono ?_
          rintro r w2 ⟨⟨v, rfl⟩, b2⟩
          have hB := boom_of (v := v) (HIXa.out.below b2) HEa.out HC8a.out (by rw [HP.out]; exact HLTa.out)
          have HFn : Hid (IP w0 q gin o gg bz1 bz2 P1 P2 Zc Z2 G0 lo2 _ _) := Or.inl hB
          clear b2 HAk hB
          go_wp2_with fail
          exact ⟨rfl, HFn.out⟩
        · go_simp
          go_wp2_with fail
          have HAk : Hid (Calls Try.prog 8 #[ptr q, .agg (KC sa)] wr.drew fun r w' => (∃ v, r = .panicked (bmE v false)) ∧ Below wr.drew.heap.size wr.drew w') := by
            have := ask8_boom (n := sa.n) HIXa.out.rl
            rw [← H8a.out] at this
            exact this
          refine HAk.out.mono ?_
          rintro r w2 ⟨⟨v, rfl⟩, b2⟩
          have hB := boom_of (v := v) (HIXa.out.below b2) HEa.out HC8a.out (by rw [HP.out]; exact HLTa.out)
          have HFn : Hid (IP w0 q gin o gg bz1 bz2 P1 P2 Zc Z2 G0 lo2 _ _) := Or.inl hB
          clear b2 HAk hB
          go_wp2_with fail
          exact ⟨rfl, HFn.out⟩
      · have H8a := hide h8
        have hcl := calm_lt P1 ka HCka.out (by rw [HP.out]; exact hlt) (by rw [hs]; exact h8)
        have HDa := hide (rdT_step hcl.1 (hcl.2.trans hs))
        have HCla := hide hcl.1
        clear h8 hs hcl hlt hka
        by_cases hp : aE Za sa.kind sa.n = 0
        · have HPra := hide hp
          clear hp
          go_wp2_with fail
          refine wp_region_held_drew (S := NS gn 3 gr o (some ada) sn1 sc1 (ada.add (ka * 2)) sa) (by kernel_rfl) (HSSa.out _ HIXa.out.kl.block) (fun hHeld => ?_)
          refine wpAnyH_take (i := 1) (oi := { dst := some 16, op := Op.move (Operand.tmp 0), type := 25, pos := "law.go:177", after := #[], guard := none }) (v := ?_) rfl (by kernel_rfl) (by kernel_rfl) (by kernel_rfl) (fun _ _ _ h => h) (Or.inl ⟨by rfl, ?_⟩) (by assumption) ?_
          rotate_left
          · (intro w hSw; (try dsimp only at hSw); go_simp); first | done | with_reducible rfl
          simp only [Act.put, List.setIfInBounds_toArray, List.set_cons_zero, List.set_cons_succ]
          refine wpAnyH_take (i := 2) (oi := { dst := some 17, op := Op.fieldAddr 54 (Operand.tmp 1) 3, type := 0, pos := "law.go:177", after := #[], guard := none }) (v := ?_) rfl (by kernel_rfl) (by kernel_rfl) (by kernel_rfl) (fun _ _ _ h => h) (Or.inl ⟨by rfl, ?_⟩) (by assumption) ?_
          rotate_left
          · (intro w hSw; (try dsimp only at hSw); go_simp); first | done | with_reducible rfl
          simp only [Act.put, List.setIfInBounds_toArray, List.set_cons_zero, List.set_cons_succ]
          refine wpAnyH_take (i := 3) (oi := { dst := some 18, op := Op.load 23 (Operand.tmp 17), type := 23, pos := "law.go:177", after := #[{ on := 2, ground := Ground.data }], guard := none }) (v := ?_) rfl (by kernel_rfl) (by kernel_rfl) (by kernel_rfl) (fun _ _ _ h => h) (Or.inl ⟨by rfl, ?_⟩) (by assumption) ?_
          rotate_left
          · (intro w hSw; (try dsimp only at hSw); have h1 := hSw.1; go_simp); first | done | with_reducible rfl
          simp only [Act.put, List.setIfInBounds_toArray, List.set_cons_zero, List.set_cons_succ]
          refine wpAnyH_take (i := 4) (oi := { dst := some 19, op := Op.move (Operand.tmp 6), type := 3, pos := "law.go:177", after := #[], guard := none }) (v := ?_) rfl (by kernel_rfl) (by kernel_rfl) (by kernel_rfl) (fun _ _ _ h => h) (Or.inl ⟨by rfl, ?_⟩) (by assumption) ?_
          rotate_left
          · (intro w hSw; (try dsimp only at hSw); go_simp); first | done | with_reducible rfl
          simp only [Act.put, List.setIfInBounds_toArray, List.set_cons_zero, List.set_cons_succ]
          refine wpAnyH_take (i := 5) (oi := { dst := some 20, op := Op.indexAddr 23 (Operand.tmp 18) (Operand.tmp 19), type := 0, pos := "law.go:177", after := #[{ on := 3, ground := Ground.data }, { on := 4, ground := Ground.data }], guard := none }) (v := ?_) rfl (by kernel_rfl) (by kernel_rfl) (by kernel_rfl) (fun _ _ _ h => h) (Or.inl ⟨by rfl, ?_⟩) (by assumption) ?_
          rotate_left
          · (intro w hSw; (try dsimp only at hSw); go_simp); first | done | with_reducible rfl
          simp only [Act.put, List.setIfInBounds_toArray, List.set_cons_zero, List.set_cons_succ]
          refine wpAnyH_take (i := 6) (oi := { dst := some 21, op := Op.load 32 (Operand.tmp 20), type := 32, pos := "law.go:177", after := #[{ on := 5, ground := Ground.data }], guard := none }) (v := ?_) rfl (by kernel_rfl) (by kernel_rfl) (by kernel_rfl) (fun _ _ _ h => h) (Or.inl ⟨by rfl, ?_⟩) (by assumption) ?_
          rotate_left
          · (intro w hSw; (try dsimp only at hSw); have h3 := run_laK hSw.2.2; go_simp); first | done | with_reducible rfl
          simp only [Act.put, List.setIfInBounds_toArray, List.set_cons_zero, List.set_cons_succ]
          refine wpAnyH_ready (rs := [0, 7]) (by kernel_rfl) (by simp) ?_
          refine AllReadyH.cons rfl (fun K hK => ?_) (AllReadyH.cons rfl (fun K hK => ?_) AllReadyH.nil)
          · go_simp
            refine hK.out _ _ (HSSa.out _ HIXa.out.kl.block) (fun hHeld => ?_)
            clear hK K
            refine wpAnyH_ready (rs := [7]) (by kernel_rfl) (by simp) ?_
            refine AllReadyH.cons rfl (fun K hK => ?_) ?_
            rotate_left
            · exact AllReadyH.nil
            go_simp
            go_wp2_with fail
            refine (askT_ok HIXa.out.rl HPra.out).mono ?_
            rintro r w2 ⟨rfl, M2⟩
            obtain ⟨so2', sc2', IA⟩ := HIXa.out.ask M2
            have HIAa := hide IA
            have x0a := IA.v2.c
            have IL := IA.below (below_new w2 (.cells (GC (aG Za sa.kind)) 29))
            have HILa := hide IL
            have x0l := IL.v2.c
            obtain ⟨bo, c2, w4, hrun, R4, A4⟩ := IA.gr.runs (L := [aG Za sa.kind]) (cs := GC (aG Za sa.kind)) (m := 1) rfl (gcs_lit _) HBa.out 24
            have IB := HIAa.out.app R4 A4
            have HI4a := hide IB
            have y4 := IB.1.c
            have z4 := IB.1.z
            clear M2 IA IL IB R4 A4
            refine hK.out _ _ (HSSa.out _ HIAa.out.kl.block) (fun hHeld => ?_)
            clear hK K
            refine wpAnyH_ready (rs := [8]) (by kernel_rfl) (by simp) ?_
            refine AllReadyH.cons rfl (fun K hK => ?_) ?_
            rotate_left
            · exact AllReadyH.nil
            go_simp
            refine hK.out _ _ (HSSa.out _ HILa.out.kl.block) (fun hHeld => ?_)
            clear hK K
            refine wpAnyH_ready (rs := [9]) (by kernel_rfl) (by simp) ?_
            refine AllReadyH.cons rfl (fun K hK => ?_) ?_
            rotate_left
            · exact AllReadyH.nil
            refine step_appG rfl (.tmp 15) (.tmp 23) rfl rfl rfl hrun ?_
            simp only [Act.put, List.setIfInBounds_toArray]
            refine hK.out _ _ (HSSa.out _ (fun j h1 h2 h3 => (HI4a.out.2.1 j h1).trans (HIAa.out.kl.block j h1 h2 h3))) (fun hHeld => ?_)
            clear hK K
            refine wpAnyH_ready (rs := [10]) (by kernel_rfl) (by simp) ?_
            refine AllReadyH.cons rfl (fun K hK => ?_) ?_
            rotate_left
            · exact AllReadyH.nil
            go_simp
            refine hK.out _ _ (HSSa.out _ HI4a.out.2.2.kl.block) (fun hHeld => ?_)
            clear hK K
            refine wpAnyH_done (by kernel_rfl) ?_ _
            clear hHeld
            have HI5 := hide HI4a.out.2.2
            clear HIa HIXa HIAa HILa HI4a
            go_wp2_with fail
            go_roundw
            case rel => exact ⟨ka + 1, HLTa.out, (by rw [HK1a.out]), _, _, _, _, _, _, _, Ga ++ [aG Za sa.kind], (by rw [← List.append_assoc]; exact HI5.out), HCla.out, (by have := HLna.out; omega), (by rw [HEa.out, HDa.out, rdT_ok HPra.out]; simp)⟩
            case measure => rw [HK1a.out]; have := HLTa.out; simp [intOf]; omega
          · go_simp
            go_wp2_with fail
            refine (askT_ok HIXa.out.rl HPra.out).mono ?_
            rintro r w2 ⟨rfl, M2⟩
            obtain ⟨so2', sc2', IA⟩ := HIXa.out.ask M2
            have HIAa := hide IA
            have x0a := IA.v2.c
            have IL := IA.below (below_new w2 (.cells (GC (aG Za sa.kind)) 29))
            have HILa := hide IL
            have x0l := IL.v2.c
            obtain ⟨bo, c2, w4, hrun, R4, A4⟩ := IA.gr.runs (L := [aG Za sa.kind]) (cs := GC (aG Za sa.kind)) (m := 1) rfl (gcs_lit _) HBa.out 24
            have IB := HIAa.out.app R4 A4
            have HI4a := hide IB
            have y4 := IB.1.c
            have z4 := IB.1.z
            clear M2 IA IL IB R4 A4
            refine hK.out _ _ (HSSa.out _ HIAa.out.kl.block) (fun hHeld => ?_)
            clear hK K
            refine wpAnyH_ready (rs := [0, 8]) (by kernel_rfl) (by simp) ?_
            refine AllReadyH.cons rfl (fun K hK => ?_) (AllReadyH.cons rfl (fun K hK => ?_) AllReadyH.nil)
            · go_simp
              refine hK.out _ _ (HSSa.out _ HIAa.out.kl.block) (fun hHeld => ?_)
              clear hK K
              refine wpAnyH_ready (rs := [8]) (by kernel_rfl) (by simp) ?_
              refine AllReadyH.cons rfl (fun K hK => ?_) ?_
              rotate_left
              · exact AllReadyH.nil
              go_simp
              refine hK.out _ _ (HSSa.out _ HILa.out.kl.block) (fun hHeld => ?_)
              clear hK K
              refine wpAnyH_ready (rs := [9]) (by kernel_rfl) (by simp) ?_
              refine AllReadyH.cons rfl (fun K hK => ?_) ?_
              rotate_left
              · exact AllReadyH.nil
              refine step_appG rfl (.tmp 15) (.tmp 23) rfl rfl rfl hrun ?_
              simp only [Act.put, List.setIfInBounds_toArray]
              refine hK.out _ _ (HSSa.out _ (fun j h1 h2 h3 => (HI4a.out.2.1 j h1).trans (HIAa.out.kl.block j h1 h2 h3))) (fun hHeld => ?_)
              clear hK K
              refine wpAnyH_ready (rs := [10]) (by kernel_rfl) (by simp) ?_
              refine AllReadyH.cons rfl (fun K hK => ?_) ?_
              rotate_left
              · exact AllReadyH.nil
              go_simp
              refine hK.out _ _ (HSSa.out _ HI4a.out.2.2.kl.block) (fun hHeld => ?_)
              clear hK K
              refine wpAnyH_done (by kernel_rfl) ?_ _
              clear hHeld
              have HI5 := hide HI4a.out.2.2
              clear HIa HIXa HIAa HILa HI4a
              go_wp2_with fail
              go_roundw
              case rel => exact ⟨ka + 1, HLTa.out, (by rw [HK1a.out]), _, _, _, _, _, _, _, Ga ++ [aG Za sa.kind], (by rw [← List.append_assoc]; exact HI5.out), HCla.out, (by have := HLna.out; omega), (by rw [HEa.out, HDa.out, rdT_ok HPra.out]; simp)⟩
              case measure => rw [HK1a.out]; have := HLTa.out; simp [intOf]; omega
            · go_simp
              refine hK.out _ _ (HSSa.out _ HILa.out.kl.block) (fun hHeld => ?_)
              clear hK K
              refine wpAnyH_ready (rs := [0]) (by kernel_rfl) (by simp) ?_
              refine AllReadyH.cons rfl (fun K hK => ?_) ?_
              rotate_left
              · exact AllReadyH.nil
              go_simp
              refine hK.out _ _ (HSSa.out _ HILa.out.kl.block) (fun hHeld => ?_)
              clear hK K
              refine wpAnyH_ready (rs := [9]) (by kernel_rfl) (by simp) ?_
              refine AllReadyH.cons rfl (fun K hK => ?_) ?_
              rotate_left
              · exact AllReadyH.nil
              refine step_appG rfl (.tmp 15) (.tmp 23) rfl rfl rfl hrun ?_
              simp only [Act.put, List.setIfInBounds_toArray]
              refine hK.out _ _ (HSSa.out _ (fun j h1 h2 h3 => (HI4a.out.2.1 j h1).trans (HIAa.out.kl.block j h1 h2 h3))) (fun hHeld => ?_)
              clear hK K
              refine wpAnyH_ready (rs := [10]) (by kernel_rfl) (by simp) ?_
              refine AllReadyH.cons rfl (fun K hK => ?_) ?_
              rotate_left
              · exact AllReadyH.nil
              go_simp
              refine hK.out _ _ (HSSa.out _ HI4a.out.2.2.kl.block) (fun hHeld => ?_)
              clear hK K
              refine wpAnyH_done (by kernel_rfl) ?_ _
              clear hHeld
              have HI5 := hide HI4a.out.2.2
              clear HIa HIXa HIAa HILa HI4a
              go_wp2_with fail
              go_roundw
              case rel => exact ⟨ka + 1, HLTa.out, (by rw [HK1a.out]), _, _, _, _, _, _, _, Ga ++ [aG Za sa.kind], (by rw [← List.append_assoc]; exact HI5.out), HCla.out, (by have := HLna.out; omega), (by rw [HEa.out, HDa.out, rdT_ok HPra.out]; simp)⟩
              case measure => rw [HK1a.out]; have := HLTa.out; simp [intOf]; omega
        · have HPra := hide hp
          clear hp
          go_wp2_with fail
          refine wp_region_held_drew (S := NS gn 3 gr o (some ada) sn1 sc1 (ada.add (ka * 2)) sa) (by kernel_rfl) (HSSa.out _ HIXa.out.kl.block) (fun hHeld => ?_)
          refine wpAnyH_take (i := 1) (oi := { dst := some 16, op := Op.move (Operand.tmp 0), type := 25, pos := "law.go:177", after := #[], guard := none }) (v := ?_) rfl (by kernel_rfl) (by kernel_rfl) (by kernel_rfl) (fun _ _ _ h => h) (Or.inl ⟨by rfl, ?_⟩) (by assumption) ?_
          rotate_left
          · (intro w hSw; (try dsimp only at hSw); go_simp); first | done | with_reducible rfl
          simp only [Act.put, List.setIfInBounds_toArray, List.set_cons_zero, List.set_cons_succ]
          refine wpAnyH_take (i := 2) (oi := { dst := some 17, op := Op.fieldAddr 54 (Operand.tmp 1) 3, type := 0, pos := "law.go:177", after := #[], guard := none }) (v := ?_) rfl (by kernel_rfl) (by kernel_rfl) (by kernel_rfl) (fun _ _ _ h => h) (Or.inl ⟨by rfl, ?_⟩) (by assumption) ?_
          rotate_left
          · (intro w hSw; (try dsimp only at hSw); go_simp); first | done | with_reducible rfl
          simp only [Act.put, List.setIfInBounds_toArray, List.set_cons_zero, List.set_cons_succ]
          refine wpAnyH_take (i := 3) (oi := { dst := some 18, op := Op.load 23 (Operand.tmp 17), type := 23, pos := "law.go:177", after := #[{ on := 2, ground := Ground.data }], guard := none }) (v := ?_) rfl (by kernel_rfl) (by kernel_rfl) (by kernel_rfl) (fun _ _ _ h => h) (Or.inl ⟨by rfl, ?_⟩) (by assumption) ?_
          rotate_left
          · (intro w hSw; (try dsimp only at hSw); have h1 := hSw.1; go_simp); first | done | with_reducible rfl
          simp only [Act.put, List.setIfInBounds_toArray, List.set_cons_zero, List.set_cons_succ]
          refine wpAnyH_take (i := 4) (oi := { dst := some 19, op := Op.move (Operand.tmp 6), type := 3, pos := "law.go:177", after := #[], guard := none }) (v := ?_) rfl (by kernel_rfl) (by kernel_rfl) (by kernel_rfl) (fun _ _ _ h => h) (Or.inl ⟨by rfl, ?_⟩) (by assumption) ?_
          rotate_left
          · (intro w hSw; (try dsimp only at hSw); go_simp); first | done | with_reducible rfl
          simp only [Act.put, List.setIfInBounds_toArray, List.set_cons_zero, List.set_cons_succ]
          refine wpAnyH_take (i := 5) (oi := { dst := some 20, op := Op.indexAddr 23 (Operand.tmp 18) (Operand.tmp 19), type := 0, pos := "law.go:177", after := #[{ on := 3, ground := Ground.data }, { on := 4, ground := Ground.data }], guard := none }) (v := ?_) rfl (by kernel_rfl) (by kernel_rfl) (by kernel_rfl) (fun _ _ _ h => h) (Or.inl ⟨by rfl, ?_⟩) (by assumption) ?_
          rotate_left
          · (intro w hSw; (try dsimp only at hSw); go_simp); first | done | with_reducible rfl
          simp only [Act.put, List.setIfInBounds_toArray, List.set_cons_zero, List.set_cons_succ]
          refine wpAnyH_take (i := 6) (oi := { dst := some 21, op := Op.load 32 (Operand.tmp 20), type := 32, pos := "law.go:177", after := #[{ on := 5, ground := Ground.data }], guard := none }) (v := ?_) rfl (by kernel_rfl) (by kernel_rfl) (by kernel_rfl) (fun _ _ _ h => h) (Or.inl ⟨by rfl, ?_⟩) (by assumption) ?_
          rotate_left
          · (intro w hSw; (try dsimp only at hSw); have h3 := run_laK hSw.2.2; go_simp); first | done | with_reducible rfl
          simp only [Act.put, List.setIfInBounds_toArray, List.set_cons_zero, List.set_cons_succ]
          refine wpAnyH_ready (rs := [0, 7]) (by kernel_rfl) (by simp) ?_
          refine AllReadyH.cons rfl (fun K hK => ?_) (AllReadyH.cons rfl (fun K hK => ?_) AllReadyH.nil)
          · go_simp
            refine hK.out _ _ (HSSa.out _ HIXa.out.kl.block) (fun hHeld => ?_)
            clear hK K
            refine wpAnyH_ready (rs := [7]) (by kernel_rfl) (by simp) ?_
            refine AllReadyH.cons rfl (fun K hK => ?_) ?_
            rotate_left
            · exact AllReadyH.nil
            go_simp
            go_wp2_with fail
            refine (askT_bad HIXa.out.rl H8a.out rfl HPra.out).mono ?_
            rintro r w2 ⟨rfl, hG⟩
            have hB := bad_of HIXa.out HEa.out HDa.out rfl HPra.out hG
            have HFn : Hid (IP w0 q gin o gg bz1 bz2 P1 P2 Zc Z2 G0 lo2 _ _) := Or.inl hB
            clear hG hB
            go_wp2_with fail
            exact ⟨rfl, HFn.out⟩
          · go_simp
            go_wp2_with fail
            refine (askT_bad HIXa.out.rl H8a.out rfl HPra.out).mono ?_
            rintro r w2 ⟨rfl, hG⟩
            have hB := bad_of HIXa.out HEa.out HDa.out rfl HPra.out hG
            have HFn : Hid (IP w0 q gin o gg bz1 bz2 P1 P2 Zc Z2 G0 lo2 _ _) := Or.inl hB
            clear hG hB
            go_wp2_with fail
            exact ⟨rfl, HFn.out⟩
    · have hiN : ¬ (ka : Int) < (sn1 : Int) := by omega
      have HGa := hide (HLa.out.done (by rw [HP.out]; omega))
      clear hlt hka HIa HEa HCka HLna HLa
      obtain ⟨wa, hwa⟩ : ∃ wa, wr = wa := ⟨_, rfl⟩
      rw [hwa] at HGa x1a ⊢
      clear hwa
      obtain ⟨e1, e2, roa', rca', loa', lna', lca', hJ⟩ := HGa.out
      have hY := HX.out wa hJ.kl
      have HS2 := hide hY.2
      have HC2 : Hid (JL (PX wa lo2) wa wa o gg bz2 P2 Z2 G0 0) := ⟨_, _, _, _, _, _, _, [], (by rw [List.append_nil]; exact hY.1), Nat.zero_le _, (by have := HL2.out; omega), rfl⟩
      clear e1 e2 hJ hY HX HS
      go_wp2_with fail
      go_loopw [7] (fun i wr => ∃ k : Nat, k ≤ sn2 ∧ i = .int .i64 k ∧ Hid (JL (PX wa lo2) wa wr o gg bz2 P2 Z2 G0 k)) (fun i _ => sn2 - (intOf i).toNat)
      case atStart => exact ⟨0, Nat.zero_le _, rfl, HC2⟩
      case round =>
        clear HC2
        obtain ⟨kb, hkb, rfl, HLb⟩ := hrel
        obtain ⟨rob, rnb, rcb, Zb, lob, lnb, lcb, Gb, hI, hc, hln, hE⟩ := HLb.out
        have x1b := HS2.out.nc' hI.kl.block
        have HIb := hide hI
        have HEb := hide hE
        have HCkb := hide hc
        have HLnb : Hid (lnb ≤ 4000000 + kb) := hln
        clear hI hE hc hln
        by_cases hlt : kb < sn2
        · have HLTb := hide hlt
          obtain ⟨adb, had, -⟩ := HS2.out.qs.at kb hlt
          obtain ⟨sb, hs⟩ : ∃ s, (P2).getD kb k0 = s := ⟨_, rfl⟩
          have HSSb : Hid (∀ W : World, (∀ j, (PX wa lo2) j → j ≠ o → j ≠ gg → W.heap[j]? = (wa).heap[j]?) → NS gn 4 gr o (some adb) sn2 sc2 (adb.add (kb * 2)) sb W) := fun W hW => by
            have := HS2.out.ss had hlt hW
            rw [hs, had] at this
            exact this
          have HK1b : Hid (wrap64 ((kb : Int) + 1) = ((kb + 1 : Nat) : Int)) := by show _ = _; have := HS2.out.big; rw [w64 (by omega) (by omega)]; rfl
          have HBb : Hid (lnb + 1 ≤ 4398046511004) := by show _ ≤ _; have := HS2.out.big; have := HLnb.out; omega
          have hiN : (kb : Int) < (sn2 : Int) := by omega
          subst had
          have ID := HIb.out.below (below_drew1 wr)
          have HIXb := hide ID
          have x0 := ID.v2.c
          clear ID
          by_cases h8 : sb.kind = 8
          · have H8b := hide h8
            have HC8b := hide (calm_eq P2 kb HCkb.out (by rw [HP2.out]; exact hlt) (by rw [hs]; exact h8))
            clear h8 hs hlt hkb
            go_wp2_with fail
            refine wp_region_held_drew (S := NS gn 4 gr o (some adb) sn2 sc2 (adb.add (kb * 2)) sb) (by kernel_rfl) (HSSb.out _ HIXb.out.kl.block) (fun hHeld => ?_)
            refine wpAnyH_take (i := 1) (oi := { dst := some 33, op := Op.load 25 (Operand.tmp 4), type := 25, pos := "law.go:180", after := #[], guard := none }) (v := ?_) rfl (by kernel_rfl) (by kernel_rfl) (by kernel_rfl) (fun _ _ _ h => h) (Or.inl ⟨by rfl, ?_⟩) (by assumption) ?_
            rotate_left
            · (intro w hSw; (try dsimp only at hSw); have h2 := hSw.2.1; go_simp); first | done | with_reducible rfl
            simp only [Act.put, List.setIfInBounds_toArray, List.set_cons_zero, List.set_cons_succ]
            refine wpAnyH_take (i := 2) (oi := { dst := some 34, op := Op.fieldAddr 54 (Operand.tmp 1) 4, type := 0, pos := "law.go:180", after := #[], guard := none }) (v := ?_) rfl (by kernel_rfl) (by kernel_rfl) (by kernel_rfl) (fun _ _ _ h => h) (Or.inl ⟨by rfl, ?_⟩) (by assumption) ?_
            rotate_left
            · (intro w hSw; (try dsimp only at hSw); go_simp); first | done | with_reducible rfl
            simp only [Act.put, List.setIfInBounds_toArray, List.set_cons_zero, List.set_cons_succ]
            refine wpAnyH_take (i := 3) (oi := { dst := some 35, op := Op.load 23 (Operand.tmp 34), type := 23, pos := "law.go:180", after := #[{ on := 2, ground := Ground.data }], guard := none }) (v := ?_) rfl (by kernel_rfl) (by kernel_rfl) (by kernel_rfl) (fun _ _ _ h => h) (Or.inl ⟨by rfl, ?_⟩) (by assumption) ?_
            rotate_left
            · (intro w hSw; (try dsimp only at hSw); have h1 := hSw.1; go_simp); first | done | with_reducible rfl
            simp only [Act.put, List.setIfInBounds_toArray, List.set_cons_zero, List.set_cons_succ]
            refine wpAnyH_take (i := 4) (oi := { dst := some 36, op := Op.move (Operand.tmp 7), type := 3, pos := "law.go:180", after := #[], guard := none }) (v := ?_) rfl (by kernel_rfl) (by kernel_rfl) (by kernel_rfl) (fun _ _ _ h => h) (Or.inl ⟨by rfl, ?_⟩) (by assumption) ?_
            rotate_left
            · (intro w hSw; (try dsimp only at hSw); go_simp); first | done | with_reducible rfl
            simp only [Act.put, List.setIfInBounds_toArray, List.set_cons_zero, List.set_cons_succ]
            refine wpAnyH_take (i := 5) (oi := { dst := some 37, op := Op.indexAddr 23 (Operand.tmp 35) (Operand.tmp 36), type := 0, pos := "law.go:180", after := #[{ on := 3, ground := Ground.data }, { on := 4, ground := Ground.data }], guard := none }) (v := ?_) rfl (by kernel_rfl) (by kernel_rfl) (by kernel_rfl) (fun _ _ _ h => h) (Or.inl ⟨by rfl, ?_⟩) (by assumption) ?_
            rotate_left
            · (intro w hSw; (try dsimp only at hSw); go_simp); first | done | with_reducible rfl
            simp only [Act.put, List.setIfInBounds_toArray, List.set_cons_zero, List.set_cons_succ]
            refine wpAnyH_take (i := 6) (oi := { dst := some 38, op := Op.load 32 (Operand.tmp 37), type := 32, pos := "law.go:180", after := #[{ on := 5, ground := Ground.data }], guard := none }) (v := ?_) rfl (by kernel_rfl) (by kernel_rfl) (by kernel_rfl) (fun _ _ _ h => h) (Or.inl ⟨by rfl, ?_⟩) (by assumption) ?_
            rotate_left
            · (intro w hSw; (try dsimp only at hSw); have h3 := run_laK hSw.2.2; go_simp); first | done | with_reducible rfl
            simp only [Act.put, List.setIfInBounds_toArray, List.set_cons_zero, List.set_cons_succ]
            refine wpAnyH_ready (rs := [0, 7]) (by kernel_rfl) (by simp) ?_
            refine AllReadyH.cons rfl (fun K hK => ?_) (AllReadyH.cons rfl (fun K hK => ?_) AllReadyH.nil)
            · go_simp
              refine hK.out _ _ (HSSb.out _ HIXb.out.kl.block) (fun hHeld => ?_)
              clear hK K
              refine wpAnyH_ready (rs := [7]) (by kernel_rfl) (by simp) ?_
              refine AllReadyH.cons rfl (fun K hK => ?_) ?_
              rotate_left
              · exact AllReadyH.nil
              go_simp
              go_wp2_with fail
              have HAk : Hid (Calls Try.prog 8 #[ptr o, .agg (KC sb)] wr.drew fun r w' => (∃ v, r = .panicked (bmE v false)) ∧ Below wr.drew.heap.size wr.drew w') := by
                have := ask8_boom (n := sb.n) HIXb.out.rl
                rw [← H8b.out] at this
                exact this
              refine HAk.out.mono ?_
              rintro r w2 ⟨⟨v, rfl⟩, b2⟩
              have hB := boom_of (v := v) (HIXb.out.below b2) HEb.out HC8b.out (by rw [HP2.out]; exact HLTb.out)
              have HFn : Hid (IP w0 q gin o gg bz1 bz2 P1 P2 Zc Z2 G0 lo2 _ _) := Or.inr ⟨_, HGa.out, Or.inl hB⟩
              clear b2 HAk hB
              go_wp2_with fail
              exact ⟨rfl, HFn.out⟩
            · go_simp
              go_wp2_with fail
              have HAk : Hid (Calls Try.prog 8 #[ptr o, .agg (KC sb)] wr.drew fun r w' => (∃ v, r = .panicked (bmE v false)) ∧ Below wr.drew.heap.size wr.drew w') := by
                have := ask8_boom (n := sb.n) HIXb.out.rl
                rw [← H8b.out] at this
                exact this
              refine HAk.out.mono ?_
              rintro r w2 ⟨⟨v, rfl⟩, b2⟩
              have hB := boom_of (v := v) (HIXb.out.below b2) HEb.out HC8b.out (by rw [HP2.out]; exact HLTb.out)
              have HFn : Hid (IP w0 q gin o gg bz1 bz2 P1 P2 Zc Z2 G0 lo2 _ _) := Or.inr ⟨_, HGa.out, Or.inl hB⟩
              clear b2 HAk hB
              go_wp2_with fail
              exact ⟨rfl, HFn.out⟩
          · have H8b := hide h8
            have hcl := calm_lt P2 kb HCkb.out (by rw [HP2.out]; exact hlt) (by rw [hs]; exact h8)
            have HDb := hide (rdT_step hcl.1 (hcl.2.trans hs))
            have HClb := hide hcl.1
            clear h8 hs hcl hlt hkb
            by_cases hp : aE Zb sb.kind sb.n = 0
            · have HPrb := hide hp
              clear hp
              go_wp2_with fail
              refine wp_region_held_drew (S := NS gn 4 gr o (some adb) sn2 sc2 (adb.add (kb * 2)) sb) (by kernel_rfl) (HSSb.out _ HIXb.out.kl.block) (fun hHeld => ?_)
              refine wpAnyH_take (i := 1) (oi := { dst := some 33, op := Op.load 25 (Operand.tmp 4), type := 25, pos := "law.go:180", after := #[], guard := none }) (v := ?_) rfl (by kernel_rfl) (by kernel_rfl) (by kernel_rfl) (fun _ _ _ h => h) (Or.inl ⟨by rfl, ?_⟩) (by assumption) ?_
              rotate_left
              · (intro w hSw; (try dsimp only at hSw); have h2 := hSw.2.1; go_simp); first | done | with_reducible rfl
              simp only [Act.put, List.setIfInBounds_toArray, List.set_cons_zero, List.set_cons_succ]
              refine wpAnyH_take (i := 2) (oi := { dst := some 34, op := Op.fieldAddr 54 (Operand.tmp 1) 4, type := 0, pos := "law.go:180", after := #[], guard := none }) (v := ?_) rfl (by kernel_rfl) (by kernel_rfl) (by kernel_rfl) (fun _ _ _ h => h) (Or.inl ⟨by rfl, ?_⟩) (by assumption) ?_
              rotate_left
              · (intro w hSw; (try dsimp only at hSw); go_simp); first | done | with_reducible rfl
              simp only [Act.put, List.setIfInBounds_toArray, List.set_cons_zero, List.set_cons_succ]
              refine wpAnyH_take (i := 3) (oi := { dst := some 35, op := Op.load 23 (Operand.tmp 34), type := 23, pos := "law.go:180", after := #[{ on := 2, ground := Ground.data }], guard := none }) (v := ?_) rfl (by kernel_rfl) (by kernel_rfl) (by kernel_rfl) (fun _ _ _ h => h) (Or.inl ⟨by rfl, ?_⟩) (by assumption) ?_
              rotate_left
              · (intro w hSw; (try dsimp only at hSw); have h1 := hSw.1; go_simp); first | done | with_reducible rfl
              simp only [Act.put, List.setIfInBounds_toArray, List.set_cons_zero, List.set_cons_succ]
              refine wpAnyH_take (i := 4) (oi := { dst := some 36, op := Op.move (Operand.tmp 7), type := 3, pos := "law.go:180", after := #[], guard := none }) (v := ?_) rfl (by kernel_rfl) (by kernel_rfl) (by kernel_rfl) (fun _ _ _ h => h) (Or.inl ⟨by rfl, ?_⟩) (by assumption) ?_
              rotate_left
              · (intro w hSw; (try dsimp only at hSw); go_simp); first | done | with_reducible rfl
              simp only [Act.put, List.setIfInBounds_toArray, List.set_cons_zero, List.set_cons_succ]
              refine wpAnyH_take (i := 5) (oi := { dst := some 37, op := Op.indexAddr 23 (Operand.tmp 35) (Operand.tmp 36), type := 0, pos := "law.go:180", after := #[{ on := 3, ground := Ground.data }, { on := 4, ground := Ground.data }], guard := none }) (v := ?_) rfl (by kernel_rfl) (by kernel_rfl) (by kernel_rfl) (fun _ _ _ h => h) (Or.inl ⟨by rfl, ?_⟩) (by assumption) ?_
              rotate_left
              · (intro w hSw; (try dsimp only at hSw); go_simp); first | done | with_reducible rfl
              simp only [Act.put, List.setIfInBounds_toArray, List.set_cons_zero, List.set_cons_succ]
              refine wpAnyH_take (i := 6) (oi := { dst := some 38, op := Op.load 32 (Operand.tmp 37), type := 32, pos := "law.go:180", after := #[{ on := 5, ground := Ground.data }], guard := none }) (v := ?_) rfl (by kernel_rfl) (by kernel_rfl) (by kernel_rfl) (fun _ _ _ h => h) (Or.inl ⟨by rfl, ?_⟩) (by assumption) ?_
              rotate_left
              · (intro w hSw; (try dsimp only at hSw); have h3 := run_laK hSw.2.2; go_simp); first | done | with_reducible rfl
              simp only [Act.put, List.setIfInBounds_toArray, List.set_cons_zero, List.set_cons_succ]
              refine wpAnyH_ready (rs := [0, 7]) (by kernel_rfl) (by simp) ?_
              refine AllReadyH.cons rfl (fun K hK => ?_) (AllReadyH.cons rfl (fun K hK => ?_) AllReadyH.nil)
              · go_simp
                refine hK.out _ _ (HSSb.out _ HIXb.out.kl.block) (fun hHeld => ?_)
                clear hK K
                refine wpAnyH_ready (rs := [7]) (by kernel_rfl) (by simp) ?_
                refine AllReadyH.cons rfl (fun K hK => ?_) ?_
                rotate_left
                · exact AllReadyH.nil
                go_simp
                go_wp2_with fail
                refine (askT_ok HIXb.out.rl HPrb.out).mono ?_
                rintro r w2 ⟨rfl, M2⟩
                obtain ⟨so2', sc2', IA⟩ := HIXb.out.ask M2
                have HIAb := hide IA
                have x0a := IA.v2.c
                have IL := IA.below (below_new w2 (.cells (GC (aG Zb sb.kind)) 29))
                have HILb := hide IL
                have x0l := IL.v2.c
                obtain ⟨bo, c2, w4, hrun, R4, A4⟩ := IA.gr.runs (L := [aG Zb sb.kind]) (cs := GC (aG Zb sb.kind)) (m := 1) rfl (gcs_lit _) HBb.out 24
                have IB := HIAb.out.app R4 A4
                have HI4b := hide IB
                have y4 := IB.1.c
                have z4 := IB.1.z
                clear M2 IA IL IB R4 A4
                refine hK.out _ _ (HSSb.out _ HIAb.out.kl.block) (fun hHeld => ?_)
                clear hK K
                refine wpAnyH_ready (rs := [8]) (by kernel_rfl) (by simp) ?_
                refine AllReadyH.cons rfl (fun K hK => ?_) ?_
                rotate_left
                · exact AllReadyH.nil
                go_simp
                refine hK.out _ _ (HSSb.out _ HILb.out.kl.block) (fun hHeld => ?_)
                clear hK K
                refine wpAnyH_ready (rs := [9]) (by kernel_rfl) (by simp) ?_
                refine AllReadyH.cons rfl (fun K hK => ?_) ?_
                rotate_left
                · exact AllReadyH.nil
                refine step_appG rfl (.tmp 32) (.tmp 40) rfl rfl rfl hrun ?_
                simp only [Act.put, List.setIfInBounds_toArray]
                refine hK.out _ _ (HSSb.out _ (fun j h1 h2 h3 => (HI4b.out.2.1 j h1).trans (HIAb.out.kl.block j h1 h2 h3))) (fun hHeld => ?_)
                clear hK K
                refine wpAnyH_ready (rs := [10]) (by kernel_rfl) (by simp) ?_
                refine AllReadyH.cons rfl (fun K hK => ?_) ?_
                rotate_left
                · exact AllReadyH.nil
                go_simp
                refine hK.out _ _ (HSSb.out _ HI4b.out.2.2.kl.block) (fun hHeld => ?_)
                clear hK K
                refine wpAnyH_done (by kernel_rfl) ?_ _
                clear hHeld
                have HI5 := hide HI4b.out.2.2
                clear HIb HIXb HIAb HILb HI4b
                go_wp2_with fail
                go_roundw
                case rel => exact ⟨kb + 1, HLTb.out, (by rw [HK1b.out]), _, _, _, _, _, _, _, Gb ++ [aG Zb sb.kind], (by rw [← List.append_assoc]; exact HI5.out), HClb.out, (by have := HLnb.out; omega), (by rw [HEb.out, HDb.out, rdT_ok HPrb.out]; simp)⟩
                case measure => rw [HK1b.out]; have := HLTb.out; simp [intOf]; omega
              · go_simp
                go_wp2_with fail
                refine (askT_ok HIXb.out.rl HPrb.out).mono ?_
                rintro r w2 ⟨rfl, M2⟩
                obtain ⟨so2', sc2', IA⟩ := HIXb.out.ask M2
                have HIAb := hide IA
                have x0a := IA.v2.c
                have IL := IA.below (below_new w2 (.cells (GC (aG Zb sb.kind)) 29))
                have HILb := hide IL
                have x0l := IL.v2.c
                obtain ⟨bo, c2, w4, hrun, R4, A4⟩ := IA.gr.runs (L := [aG Zb sb.kind]) (cs := GC (aG Zb sb.kind)) (m := 1) rfl (gcs_lit _) HBb.out 24
                have IB := HIAb.out.app R4 A4
                have HI4b := hide IB
                have y4 := IB.1.c
                have z4 := IB.1.z
                clear M2 IA IL IB R4 A4
                refine hK.out _ _ (HSSb.out _ HIAb.out.kl.block) (fun hHeld => ?_)
                clear hK K
                refine wpAnyH_ready (rs := [0, 8]) (by kernel_rfl) (by simp) ?_
                refine AllReadyH.cons rfl (fun K hK => ?_) (AllReadyH.cons rfl (fun K hK => ?_) AllReadyH.nil)
                · go_simp
                  refine hK.out _ _ (HSSb.out _ HIAb.out.kl.block) (fun hHeld => ?_)
                  clear hK K
                  refine wpAnyH_ready (rs := [8]) (by kernel_rfl) (by simp) ?_
                  refine AllReadyH.cons rfl (fun K hK => ?_) ?_
                  rotate_left
                  · exact AllReadyH.nil
                  go_simp
                  refine hK.out _ _ (HSSb.out _ HILb.out.kl.block) (fun hHeld => ?_)
                  clear hK K
                  refine wpAnyH_ready (rs := [9]) (by kernel_rfl) (by simp) ?_
                  refine AllReadyH.cons rfl (fun K hK => ?_) ?_
                  rotate_left
                  · exact AllReadyH.nil
                  refine step_appG rfl (.tmp 32) (.tmp 40) rfl rfl rfl hrun ?_
                  simp only [Act.put, List.setIfInBounds_toArray]
                  refine hK.out _ _ (HSSb.out _ (fun j h1 h2 h3 => (HI4b.out.2.1 j h1).trans (HIAb.out.kl.block j h1 h2 h3))) (fun hHeld => ?_)
                  clear hK K
                  refine wpAnyH_ready (rs := [10]) (by kernel_rfl) (by simp) ?_
                  refine AllReadyH.cons rfl (fun K hK => ?_) ?_
                  rotate_left
                  · exact AllReadyH.nil
                  go_simp
                  refine hK.out _ _ (HSSb.out _ HI4b.out.2.2.kl.block) (fun hHeld => ?_)
                  clear hK K
                  refine wpAnyH_done (by kernel_rfl) ?_ _
                  clear hHeld
                  have HI5 := hide HI4b.out.2.2
                  clear HIb HIXb HIAb HILb HI4b
                  go_wp2_with fail
                  go_roundw
                  case rel => exact ⟨kb + 1, HLTb.out, (by rw [HK1b.out]), _, _, _, _, _, _, _, Gb ++ [aG Zb sb.kind], (by rw [← List.append_assoc]; exact HI5.out), HClb.out, (by have := HLnb.out; omega), (by rw [HEb.out, HDb.out, rdT_ok HPrb.out]; simp)⟩
                  case measure => rw [HK1b.out]; have := HLTb.out; simp [intOf]; omega
                · go_simp
                  refine hK.out _ _ (HSSb.out _ HILb.out.kl.block) (fun hHeld => ?_)
                  clear hK K
                  refine wpAnyH_ready (rs := [0]) (by kernel_rfl) (by simp) ?_
                  refine AllReadyH.cons rfl (fun K hK => ?_) ?_
                  rotate_left
                  · exact AllReadyH.nil
                  go_simp
                  refine hK.out _ _ (HSSb.out _ HILb.out.kl.block) (fun hHeld => ?_)
                  clear hK K
                  refine wpAnyH_ready (rs := [9]) (by kernel_rfl) (by simp) ?_
                  refine AllReadyH.cons rfl (fun K hK => ?_) ?_
                  rotate_left
                  · exact AllReadyH.nil
                  refine step_appG rfl (.tmp 32) (.tmp 40) rfl rfl rfl hrun ?_
                  simp only [Act.put, List.setIfInBounds_toArray]
                  refine hK.out _ _ (HSSb.out _ (fun j h1 h2 h3 => (HI4b.out.2.1 j h1).trans (HIAb.out.kl.block j h1 h2 h3))) (fun hHeld => ?_)
                  clear hK K
                  refine wpAnyH_ready (rs := [10]) (by kernel_rfl) (by simp) ?_
                  refine AllReadyH.cons rfl (fun K hK => ?_) ?_
                  rotate_left
                  · exact AllReadyH.nil
                  go_simp
                  refine hK.out _ _ (HSSb.out _ HI4b.out.2.2.kl.block) (fun hHeld => ?_)
                  clear hK K
                  refine wpAnyH_done (by kernel_rfl) ?_ _
                  clear hHeld
                  have HI5 := hide HI4b.out.2.2
                  clear HIb HIXb HIAb HILb HI4b
                  go_wp2_with fail
                  go_roundw
                  case rel => exact ⟨kb + 1, HLTb.out, (by rw [HK1b.out]), _, _, _, _, _, _, _, Gb ++ [aG Zb sb.kind], (by rw [← List.append_assoc]; exact HI5.out), HClb.out, (by have := HLnb.out; omega), (by rw [HEb.out, HDb.out, rdT_ok HPrb.out]; simp)⟩
                  case measure => rw [HK1b.out]; have := HLTb.out; simp [intOf]; omega
            · have HPrb := hide hp
              clear hp
              go_wp2_with fail
              refine wp_region_held_drew (S := NS gn 4 gr o (some adb) sn2 sc2 (adb.add (kb * 2)) sb) (by kernel_rfl) (HSSb.out _ HIXb.out.kl.block) (fun hHeld => ?_)
              refine wpAnyH_take (i := 1) (oi := { dst := some 33, op := Op.load 25 (Operand.tmp 4), type := 25, pos := "law.go:180", after := #[], guard := none }) (v := ?_) rfl (by kernel_rfl) (by kernel_rfl) (by kernel_rfl) (fun _ _ _ h => h) (Or.inl ⟨by rfl, ?_⟩) (by assumption) ?_
              rotate_left
              · (intro w hSw; (try dsimp only at hSw); have h2 := hSw.2.1; go_simp); first | done | with_reducible rfl
              simp only [Act.put, List.setIfInBounds_toArray, List.set_cons_zero, List.set_cons_succ]
              refine wpAnyH_take (i := 2) (oi := { dst := some 34, op := Op.fieldAddr 54 (Operand.tmp 1) 4, type := 0, pos := "law.go:180", after := #[], guard := none }) (v := ?_) rfl (by kernel_rfl) (by kernel_rfl) (by kernel_rfl) (fun _ _ _ h => h) (Or.inl ⟨by rfl, ?_⟩) (by assumption) ?_
              rotate_left
              · (intro w hSw; (try dsimp only at hSw); go_simp); first | done | with_reducible rfl
              simp only [Act.put, List.setIfInBounds_toArray, List.set_cons_zero, List.set_cons_succ]
              refine wpAnyH_take (i := 3) (oi := { dst := some 35, op := Op.load 23 (Operand.tmp 34), type := 23, pos := "law.go:180", after := #[{ on := 2, ground := Ground.data }], guard := none }) (v := ?_) rfl (by kernel_rfl) (by kernel_rfl) (by kernel_rfl) (fun _ _ _ h => h) (Or.inl ⟨by rfl, ?_⟩) (by assumption) ?_
              rotate_left
              · (intro w hSw; (try dsimp only at hSw); have h1 := hSw.1; go_simp); first | done | with_reducible rfl
              simp only [Act.put, List.setIfInBounds_toArray, List.set_cons_zero, List.set_cons_succ]
              refine wpAnyH_take (i := 4) (oi := { dst := some 36, op := Op.move (Operand.tmp 7), type := 3, pos := "law.go:180", after := #[], guard := none }) (v := ?_) rfl (by kernel_rfl) (by kernel_rfl) (by kernel_rfl) (fun _ _ _ h => h) (Or.inl ⟨by rfl, ?_⟩) (by assumption) ?_
              rotate_left
              · (intro w hSw; (try dsimp only at hSw); go_simp); first | done | with_reducible rfl
              simp only [Act.put, List.setIfInBounds_toArray, List.set_cons_zero, List.set_cons_succ]
              refine wpAnyH_take (i := 5) (oi := { dst := some 37, op := Op.indexAddr 23 (Operand.tmp 35) (Operand.tmp 36), type := 0, pos := "law.go:180", after := #[{ on := 3, ground := Ground.data }, { on := 4, ground := Ground.data }], guard := none }) (v := ?_) rfl (by kernel_rfl) (by kernel_rfl) (by kernel_rfl) (fun _ _ _ h => h) (Or.inl ⟨by rfl, ?_⟩) (by assumption) ?_
              rotate_left
              · (intro w hSw; (try dsimp only at hSw); go_simp); first | done | with_reducible rfl
              simp only [Act.put, List.setIfInBounds_toArray, List.set_cons_zero, List.set_cons_succ]
              refine wpAnyH_take (i := 6) (oi := { dst := some 38, op := Op.load 32 (Operand.tmp 37), type := 32, pos := "law.go:180", after := #[{ on := 5, ground := Ground.data }], guard := none }) (v := ?_) rfl (by kernel_rfl) (by kernel_rfl) (by kernel_rfl) (fun _ _ _ h => h) (Or.inl ⟨by rfl, ?_⟩) (by assumption) ?_
              rotate_left
              · (intro w hSw; (try dsimp only at hSw); have h3 := run_laK hSw.2.2; go_simp); first | done | with_reducible rfl
              simp only [Act.put, List.setIfInBounds_toArray, List.set_cons_zero, List.set_cons_succ]
              refine wpAnyH_ready (rs := [0, 7]) (by kernel_rfl) (by simp) ?_
              refine AllReadyH.cons rfl (fun K hK => ?_) (AllReadyH.cons rfl (fun K hK => ?_) AllReadyH.nil)
              · go_simp
                refine hK.out _ _ (HSSb.out _ HIXb.out.kl.block) (fun hHeld => ?_)
                clear hK K
                refine wpAnyH_ready (rs := [7]) (by kernel_rfl) (by simp) ?_
                refine AllReadyH.cons rfl (fun K hK => ?_) ?_
                rotate_left
                · exact AllReadyH.nil
                go_simp
                go_wp2_with fail
                refine (askT_bad HIXb.out.rl H8b.out rfl HPrb.out).mono ?_
                rintro r w2 ⟨rfl, hG⟩
                have hB := bad_of HIXb.out HEb.out HDb.out rfl HPrb.out hG
                have HFn : Hid (IP w0 q gin o gg bz1 bz2 P1 P2 Zc Z2 G0 lo2 _ _) := Or.inr ⟨_, HGa.out, Or.inl hB⟩
                clear hG hB
                go_wp2_with fail
                exact ⟨rfl, HFn.out⟩
              · go_simp
                go_wp2_with fail
                refine (askT_bad HIXb.out.rl H8b.out rfl HPrb.out).mono ?_
                rintro r w2 ⟨rfl, hG⟩
                have hB := bad_of HIXb.out HEb.out HDb.out rfl HPrb.out hG
                have HFn : Hid (IP w0 q gin o gg bz1 bz2 P1 P2 Zc Z2 G0 lo2 _ _) := Or.inr ⟨_, HGa.out, Or.inl hB⟩
                clear hG hB
                go_wp2_with fail
                exact ⟨rfl, HFn.out⟩
        · have hiN : ¬ (kb : Int) < (sn2 : Int) := by omega
          have HGb := hide (HLb.out.done (by rw [HP2.out]; omega))
          clear hlt hkb HIb HEb HCkb HLnb HLb
          have HFn : Hid (IP w0 q gin o gg bz1 bz2 P1 P2 Zc Z2 G0 lo2 (.returned (.tuple #[])) wr) := Or.inr ⟨_, HGa.out, Or.inr ⟨rfl, HGb.out⟩⟩
          go_wp2_with fail
          go_end0
          exact HFn.out
end Go.Proofs.Ytflinfmhmokfhaa
