/- WireNested: the outer Read; the reading of one number behind it. -/
import Derived.Test.YtflinfmhmokfhaaUNo
namespace Go.Proofs.Ytflinfmhmokfhaa
open Go.RowKit
attribute [local go_sem ↓] ldG_eq stG_eq ldK_eq stK_eq
attribute [local go_sem] GC_size KC_size to_GC to_KC fold_GC1 KC_s0 KC_s1
variable {w0 wA w w' w2 wr : World} {N0 n nO g gin o gg gn gr gx ge : Nat} {bz : Option Nat} {ro co so0 so1 so2 lo : Option Addr} {rn rc cn cc sn0 sc0 sn1 sc1 sn2 sc2 ln lc : Nat} {Zc Z0 : List Int} {P0 P1 P2 : List Ask} {G : List Got}

def g7 : Got := ⟨7, false, ⟨#[]⟩⟩
theorem aE7 : aE [7] 1 7 = 0 := by decide
theorem nmV7 : nmV [7] = 7 := by decide
theorem aG7 : aG [7] 1 = g7 := by
  show (⟨(nmV [7] : Int), false, ⟨#[]⟩⟩ : Got) = ⟨7, false, ⟨#[]⟩⟩
  rw [nmV7]
  rfl
theorem aK7 : aK [7] 1 = 1 := by decide
def C7P (Pr : Nat → Prop) (w0 : World) (g gg ln : Nat) (G : List Got) (r : Ending) (w' : World) : Prop :=
  Kj Pr w0 w' g gg ∧ r = .returned (.tuple #[]) ∧ (∃ so sc, Rdr w' g so 0 sc 0 false) ∧ ∃ lo lc, Var w' gg (.slice lo (ln + 1) lc) 24 ∧ GR w' lo (ln + 1) lc (G ++ [g7]) ∧ ∀ k, blk lo = some k → ¬ Pr k
set_option maxRecDepth 100000 in
set_option maxHeartbeats 4000000 in
theorem close7_any {Pr : Nat → Prop} (h : CJ Pr w0 w0 g gg bz ro 1 rc [7] lo ln lc G) (hln : ln ≤ 9000000) : Calls Try.prog 21 #[ptr g, ptr gg] w0 fun r w' => C7P Pr w0 g gg ln G r w' := by
  have ID := h.below (below_drew1 w0)
  have HIX := hide ID
  have x0 := ID.v2.c
  have HLn : Hid (ln + 1 ≤ 4398046511004) := by show _ ≤ _; omega
  have hK := askT_ok (k := 1) (n := 7) ID.rl aE7
  rw [aG7, aK7] at hK
  have HA := hide hK
  clear h ID hK hln
  go_enter Try.func21, Try.ntmps21
  go_wp2_with fail
  refine wp_region_held_drew (S := fun _ => True) (by kernel_rfl) (trivial) (fun hHeld => ?_)
  refine wpAnyH_take (i := 1) (oi := { dst := some 4, op := Op.move (Operand.tmp 0), type := 25, pos := "law.go:185", after := #[], guard := none }) (v := ?_) rfl (by kernel_rfl) (by kernel_rfl) (by kernel_rfl) (fun _ _ _ h => h) (Or.inl ⟨by rfl, ?_⟩) (by assumption) ?_
  rotate_left
  · (intro w hSw; (try dsimp only at hSw); go_simp); first | done | with_reducible rfl
  simp only [Act.put, List.setIfInBounds_toArray, List.set_cons_zero, List.set_cons_succ]
  refine wpAnyH_take (i := 2) (oi := { dst := some 5, op := Op.build 32 #[(0, Operand.const (Value.int IntKind.i64 1)), (1, Operand.const (Value.int IntKind.i64 7))], type := 32, pos := "law.go:185", after := #[], guard := none }) (v := .agg (KC ⟨1, 7⟩)) rfl (by kernel_rfl) (by kernel_rfl) (by kernel_rfl) (fun _ _ _ h => h) (Or.inl ⟨by rfl, ?_⟩) (by assumption) ?_
  skip
  · (intro w hSw; (try dsimp only at hSw); (first | kernel_rfl | (go_simp; rfl))); first | done | with_reducible rfl
  simp only [Act.put, List.setIfInBounds_toArray, List.set_cons_zero, List.set_cons_succ]
  refine wpAnyH_ready (rs := [0, 3]) (by kernel_rfl) (by simp) ?_
  refine AllReadyH.cons rfl (fun K hK => ?_) (AllReadyH.cons rfl (fun K hK => ?_) AllReadyH.nil)
  · go_simp
    refine hK.out _ _ trivial (fun hHeld => ?_)
    clear hK K
    refine wpAnyH_ready (rs := [3]) (by kernel_rfl) (by simp) ?_
    refine AllReadyH.cons rfl (fun K hK => ?_) ?_
    rotate_left
    · exact AllReadyH.nil
    go_simp
    go_wp2_with fail
    refine HA.out.mono ?_
    rintro r w2 ⟨rfl, M2⟩
    obtain ⟨so2, sc2, IA⟩ := HIX.out.ask M2
    have HIA := hide IA
    have x0a := IA.v2.c
    have IL := IA.below (below_new w2 (.cells (GC g7) 29))
    have x0l := IL.v2.c
    obtain ⟨bo, c2, w4, hrun, R4, A4⟩ := IA.gr.runs (L := [g7]) (cs := GC g7) (m := 1) rfl (gcs_lit g7) HLn.out 24
    have IB := HIA.out.app R4 A4
    have HI4 := hide IB
    have y4 := IB.1.c
    have z4 := IB.1.z
    clear M2 IA IL IB R4 A4
    refine hK.out _ _ trivial (fun hHeld => ?_)
    clear hK K
    refine wpAnyH_ready (rs := [4]) (by kernel_rfl) (by simp) ?_
    refine AllReadyH.cons rfl (fun K hK => ?_) ?_
    rotate_left
    · exact AllReadyH.nil
    go_simp
    refine hK.out _ _ trivial (fun hHeld => ?_)
    clear hK K
    refine wpAnyH_ready (rs := [5]) (by kernel_rfl) (by simp) ?_
    refine AllReadyH.cons rfl (fun K hK => ?_) ?_
    rotate_left
    · exact AllReadyH.nil
    refine step_appG rfl (.tmp 3) (.tmp 7) rfl rfl rfl hrun ?_
    simp only [Act.put, List.setIfInBounds_toArray]
    refine hK.out _ _ trivial (fun hHeld => ?_)
    clear hK K
    refine wpAnyH_ready (rs := [6]) (by kernel_rfl) (by simp) ?_
    refine AllReadyH.cons rfl (fun K hK => ?_) ?_
    rotate_left
    · exact AllReadyH.nil
    go_simp
    refine hK.out _ _ trivial (fun hHeld => ?_)
    clear hK K
    refine wpAnyH_done (by kernel_rfl) ?_ _
    clear hHeld
    have HI5 := hide HI4.out.2.2
    clear HIX HIA HI4
    go_wp2_with fail
    go_end0
    exact ⟨HI5.out.kl, rfl, ⟨_, _, HI5.out.rl.r⟩, _, _, HI5.out.v2, HI5.out.gr, HI5.out.ge⟩
  · go_simp
    go_wp2_with fail
    refine HA.out.mono ?_
    rintro r w2 ⟨rfl, M2⟩
    obtain ⟨so2, sc2, IA⟩ := HIX.out.ask M2
    have HIA := hide IA
    have x0a := IA.v2.c
    have IL := IA.below (below_new w2 (.cells (GC g7) 29))
    have x0l := IL.v2.c
    obtain ⟨bo, c2, w4, hrun, R4, A4⟩ := IA.gr.runs (L := [g7]) (cs := GC g7) (m := 1) rfl (gcs_lit g7) HLn.out 24
    have IB := HIA.out.app R4 A4
    have HI4 := hide IB
    have y4 := IB.1.c
    have z4 := IB.1.z
    clear M2 IA IL IB R4 A4
    refine hK.out _ _ trivial (fun hHeld => ?_)
    clear hK K
    refine wpAnyH_ready (rs := [0, 4]) (by kernel_rfl) (by simp) ?_
    refine AllReadyH.cons rfl (fun K hK => ?_) (AllReadyH.cons rfl (fun K hK => ?_) AllReadyH.nil)
    · go_simp
      refine hK.out _ _ trivial (fun hHeld => ?_)
      clear hK K
      refine wpAnyH_ready (rs := [4]) (by kernel_rfl) (by simp) ?_
      refine AllReadyH.cons rfl (fun K hK => ?_) ?_
      rotate_left
      · exact AllReadyH.nil
      go_simp
      refine hK.out _ _ trivial (fun hHeld => ?_)
      clear hK K
      refine wpAnyH_ready (rs := [5]) (by kernel_rfl) (by simp) ?_
      refine AllReadyH.cons rfl (fun K hK => ?_) ?_
      rotate_left
      · exact AllReadyH.nil
      refine step_appG rfl (.tmp 3) (.tmp 7) rfl rfl rfl hrun ?_
      simp only [Act.put, List.setIfInBounds_toArray]
      refine hK.out _ _ trivial (fun hHeld => ?_)
      clear hK K
      refine wpAnyH_ready (rs := [6]) (by kernel_rfl) (by simp) ?_
      refine AllReadyH.cons rfl (fun K hK => ?_) ?_
      rotate_left
      · exact AllReadyH.nil
      go_simp
      refine hK.out _ _ trivial (fun hHeld => ?_)
      clear hK K
      refine wpAnyH_done (by kernel_rfl) ?_ _
      clear hHeld
      have HI5 := hide HI4.out.2.2
      clear HIX HIA HI4
      go_wp2_with fail
      go_end0
      exact ⟨HI5.out.kl, rfl, ⟨_, _, HI5.out.rl.r⟩, _, _, HI5.out.v2, HI5.out.gr, HI5.out.ge⟩
    · go_simp
      refine hK.out _ _ trivial (fun hHeld => ?_)
      clear hK K
      refine wpAnyH_ready (rs := [0]) (by kernel_rfl) (by simp) ?_
      refine AllReadyH.cons rfl (fun K hK => ?_) ?_
      rotate_left
      · exact AllReadyH.nil
      go_simp
      refine hK.out _ _ trivial (fun hHeld => ?_)
      clear hK K
      refine wpAnyH_ready (rs := [5]) (by kernel_rfl) (by simp) ?_
      refine AllReadyH.cons rfl (fun K hK => ?_) ?_
      rotate_left
      · exact AllReadyH.nil
      refine step_appG rfl (.tmp 3) (.tmp 7) rfl rfl rfl hrun ?_
      simp only [Act.put, List.setIfInBounds_toArray]
      refine hK.out _ _ trivial (fun hHeld => ?_)
      clear hK K
      refine wpAnyH_ready (rs := [6]) (by kernel_rfl) (by simp) ?_
      refine AllReadyH.cons rfl (fun K hK => ?_) ?_
      rotate_left
      · exact AllReadyH.nil
      go_simp
      refine hK.out _ _ trivial (fun hHeld => ?_)
      clear hK K
      refine wpAnyH_done (by kernel_rfl) ?_ _
      clear hHeld
      have HI5 := hide HI4.out.2.2
      clear HIX HIA HI4
      go_wp2_with fail
      go_end0
      exact ⟨HI5.out.kl, rfl, ⟨_, _, HI5.out.rl.r⟩, _, _, HI5.out.v2, HI5.out.gr, HI5.out.ge⟩
/-- what the one number leaves -/
def R7P (w w' : World) (gg : Nat) (lo : Option Addr) (ln : Nat) (G : List Got) (r : Ending) : Prop :=
  r = .returned (.int .i64 0) ∧ (w'.os = w.os ∧ w'.tape = w.tape ∧ w'.output = w.output ∧ w.heap.size ≤ w'.heap.size ∧ ∀ k, k < w.heap.size → k ≠ gg → blk lo ≠ some k → w'.heap[k]? = w.heap[k]?) ∧
    ∃ l2 c2, Var w' gg (.slice l2 (ln + 1) c2) 24 ∧ GR w' l2 (ln + 1) c2 (G ++ [g7]) ∧ ∀ k, blk l2 = some k → blk lo = some k ∨ w.heap.size ≤ k
theorem rd7_any (w : World) (V : Var w gg (.slice lo ln lc) 24) (hG : GR w lo ln lc G) (hln : ln ≤ 9000000) (ro : Option Addr) (rc : Nat) (S : Src w ro 1 rc [7]) (hc : 1 ≤ rc) (hd : ∀ k, blk ro = some k → k ≠ gg ∧ blk lo ≠ some k) (hg : blk lo ≠ some gg) :
    Calls Try.prog 6 #[.slice ro 1 rc, .func (.func 21) #[] #[ptr gg]] w fun r w' => R7P w w' gg lo ln G r := by
  have hcf : ∀ (args : Array Value) (w : World), (callFunc 21 args).run Try.prog w = .ok (.enter 21 args) w := fun _ _ => rfl
  have hgg := V.lt
  have G1 := beg w ro 1 rc
  obtain ⟨W1, hW1⟩ : ∃ W1, W0 w ro 1 rc = W1 := ⟨_, rfl⟩
  obtain ⟨n, hn⟩ : ∃ n, w.heap.size = n := ⟨_, rfl⟩
  rw [hW1] at G1
  have hz := G1.n.2
  have g1 := G1.e
  have g2 := G1.r
  have g3 := G1.v
  have hb := G1.b
  rw [hn] at hgg hz g1 g2 g3 hb
  have hlo : ∀ k, blk lo = some k → k < n := fun k e => by have := hG.lt k e; omega
  have px : ∀ k, k < n + 3 → blk lo ≠ some k → PX W1 lo k := fun k h1 h2 => ⟨by omega, h2⟩
  have nlo : ∀ k, n ≤ k → blk lo ≠ some k := fun k h1 x => by have := hlo k x; omega
  have hf : Calls Try.prog 21 #[ptr (n + 1), ptr gg] W1 fun r w' => C7P (PX W1 lo) W1 (n + 1) gg ln G r w' :=
    close7_any (bz := blk ro) (ro := ro) (rc := rc) (lo := lo) (lc := lc) ⟨⟨g2, S.below (hn ▸ hb), hc, by decide, fun h0 e => by have := src_lt S h0 _ e; omega⟩, (hb.block _ hgg).trans V, hG.below (hn ▸ hb), fun k e y => y.2 e, ⟨rfl, rfl, rfl, Nat.le_refl _, fun _ _ _ _ => rfl⟩, rfl, ⟨px _ (by omega) (nlo _ (by omega)), px _ (by omega) hg, by omega⟩, fun k y => y.1, fun h0 k e => by have := src_lt S h0 k e; exact ⟨px _ (by omega) (hd k e).2, (hd k e).1, by omega⟩⟩ hln
  refine (readT_any ro 1 rc 21 #[ptr gg] (fun r w' => C7P (PX W1 lo) W1 (n + 1) gg ln G r w') w hcf (by rw [hW1, hn]; exact hf) (by
    intro e w4 h
    obtain ⟨K, rfl, ⟨so, sc, hR⟩, -⟩ := h
    rw [hn]
    exact ⟨⟨0, _, EndT.calm hR⟩, (K.block _ (px _ (by omega) (nlo _ (by omega))) (by omega) (by omega)).trans g3, (K.block _ (px _ (by omega) (nlo _ (by omega))) (by omega) (by omega)).trans g1⟩)).mono ?_
  intro r wz h
  rw [hn] at h
  obtain ⟨e2, w4, gave, err, h, hE, rfl, hF⟩ := h
  obtain ⟨K, rfl, ⟨so, sc, hR⟩, l2, c2, hv, hG2, hge⟩ := h
  have hs4 := K.size
  have he : err = 0 := by
    cases hE with
    | calm hR2 => rw [← (rdr_inj hR hR2).1]; rfl
  subst he
  have hl2 : ∀ k, blk l2 = some k → blk lo = some k ∨ n + 3 ≤ k := fun k e => by
    by_cases hx : blk lo = some k
    · exact Or.inl hx
    · right
      have := hge k e
      have h3 : ¬ k < W1.heap.size := fun y => this ⟨y, hx⟩
      omega
  refine ⟨rfl, ⟨hF.os.trans (K.os.trans hb.os), hF.tape.trans (K.tape.trans hb.tape), hF.output.trans (K.output.trans hb.output), by have := hF.size; omega, fun k hk h1 h2 => ?_⟩, l2, c2, (hF.block _ hv.lt (by omega) (by omega)).trans hv, hG2.keep (fun k e => hF.block k (hG2.lt k e) ?_ ?_), fun k e => ?_⟩
  · rw [hn] at hk
    exact (hF.block k (by omega) (by omega) (by omega)).trans ((K.block k (px _ (by omega) h2) (by omega) h1).trans (hb.block k hk))
  · rcases hl2 k e with x | x
    · have := hlo k x; omega
    · omega
  · rcases hl2 k e with x | x
    · have := hlo k x; omega
    · omega
  · rcases hl2 k e with x | x
    · exact Or.inl x
    · exact Or.inr (by omega)
/-- what the outer Read leaves -/
def ORP (N0 n : Nat) (wA : World) (P0 P1 P2 : List Ask) (Z0 Zc : List Int) (r : Ending) (w' : World) : Prop :=
  ∃ I G b x err, Res P0 P1 P2 Z0 Zc I G b x err ∧ r = .returned (.int .i64 err) ∧ NR n w' (N0 + 2) (N0 + 1) I G ∧ Var w' (N0 + 3) (.bool b) 4 ∧ Var w' (N0 + 4) (.int .i64 x) 26 ∧
    (w'.os = wA.os ∧ w'.tape = wA.tape ∧ w'.output = wA.output ∧ wA.heap.size ≤ w'.heap.size ∧ ∀ k, k < n → k ≠ N0 + 1 → k ≠ N0 + 2 → k ≠ N0 + 3 → k ≠ N0 + 4 → w'.heap[k]? = wA.heap[k]?)
theorem outerRead_any (wA : World) (hn : wA.heap.size = n) (hN : N0 + 5 ≤ n) (S : Src wA ro rn rc Z0) (hc : rn ≤ rc) (hrn : rn ≤ 140737488355328) (hro : rn ≠ 0 → ∀ k, blk ro = some k → N0 + 5 ≤ k) (hrb : ∀ k, blk ro = some k → k ≠ N0 + 2)
    (c1 : wA.cell? ⟨N0, 1, none⟩ = some (.slice co cn cc)) (c2 : wA.cell? ⟨N0, 2, none⟩ = some (.slice so0 sn0 sc0)) (c3 : wA.cell? ⟨N0, 3, none⟩ = some (.slice so1 sn1 sc1)) (c4 : wA.cell? ⟨N0, 4, none⟩ = some (.slice so2 sn2 sc2))
    (V1 : Var wA (N0 + 1) (.slice none 0 0) 24) (V2 : Var wA (N0 + 2) (.slice none 0 0) 24) (V3 : Var wA (N0 + 3) (.bool false) 4) (V4 : Var wA (N0 + 4) (.int .i64 0) 26)
    (SC : Src wA co cn cc Zc) (hcn : cn ≤ 1048576) (hco : cn ≠ 0 → ∀ k, blk co = some k → k < N0)
    (Q0 : KSrc wA so0 sn0 sc0 P0) (Q1 : KSrc wA so1 sn1 sc1 P1) (Q2 : KSrc wA so2 sn2 sc2 P2) (s0 : sn0 ≤ 1048576) (s1 : sn1 ≤ 1048576) (s2 : sn2 ≤ 1048576)
    (f0 : sn0 ≠ 0 → ∀ k, blk so0 = some k → k < N0) (f1 : sn1 ≠ 0 → ∀ k, blk so1 = some k → k < N0) (f2 : sn2 ≠ 0 → ∀ k, blk so2 = some k → k < N0) :
    Calls Try.prog 6 #[.slice ro rn rc, .func (.func 19) #[] #[ptr N0, ptr (N0 + 1), ptr (N0 + 2), ptr (N0 + 4), ptr (N0 + 3)]] wA fun r w' => ORP N0 n wA P0 P1 P2 Z0 Zc r w' := by
  have hcf : ∀ (args : Array Value) (w : World), (callFunc 19 args).run Try.prog w = .ok (.enter 19 args) w := fun _ _ => rfl
  have G1 := beg wA ro rn rc
  obtain ⟨W1, hW1⟩ : ∃ W1, W0 wA ro rn rc = W1 := ⟨_, rfl⟩
  rw [hW1] at G1
  have hz := G1.n.2
  have g1 := G1.e
  have g2 := G1.r
  have g3 := G1.v
  have hb := G1.b
  rw [hn] at hz g1 g2 g3 hb
  obtain ⟨wB, hwB⟩ : ∃ wB, W1.alloc (.cells #[ptr (n + 1)] 25) = wB := ⟨_, rfl⟩
  have bB := below_new W1 (.cells #[ptr (n + 1)] 25)
  have vB : Var (W1.alloc (.cells #[ptr (n + 1)] 25)) W1.heap.size (ptr (n + 1)) 25 := heap_alloc_new W1 _
  have zB := World.size_alloc W1 (.cells #[ptr (n + 1)] 25)
  rw [hwB] at bB vB zB
  rw [hz] at bB vB zB
  have bA : Below n wA wB := hb.trans (bB.mono (by omega))
  have kA : ∀ k, k < n → wB.heap[k]? = wA.heap[k]? := fun k hk => bA.block k hk
  have cA : ∀ {i : Nat} {v : Value}, wA.cell? ⟨N0, i, none⟩ = some v → wB.cell? ⟨N0, i, none⟩ = some v := fun h => by
    rw [World.cell?_of_block (w := wA) (kA N0 (by omega))]
    exact h
  have tn : ∀ {off : Nat} {so : Option Addr} {sn sc : Nat} {P : List Ask}, wA.cell? ⟨N0, off, none⟩ = some (.slice so sn sc) → KSrc wA so sn sc P → sn ≤ 1048576 → (sn ≠ 0 → ∀ k, blk so = some k → k < N0) → TN (PO (n + 4)) wB (n + 1) (N0 + 1) N0 off (n + 3) (n + 1) so sn sc P := fun a b c d =>
    ⟨cA a, vB, b.below (hn ▸ bA), ⟨by unfold PO; omega, by omega, by omega, by unfold PO; omega, by omega, by omega⟩, fun h0 k e => by have := d h0 k e; exact ⟨by unfold PO; omega, by omega, by omega⟩, by omega⟩
  have hf : Calls Try.prog 19 #[ptr (n + 1), ptr N0, ptr (N0 + 1), ptr (N0 + 2), ptr (N0 + 4), ptr (N0 + 3)] W1 fun r w' => OP (n + 4) wB (n + 1) (N0 + 1) (N0 + 2) (N0 + 3) (N0 + 4) P0 P1 P2 Z0 Zc r w' := by
    refine outer_any (N0 := N0) (n := n) (gr := n + 3) (bz := blk ro) (ro := ro) (rn := rn) (rc := rc) (cc := cc) (co := co) (cn := cn) (sc0 := sc0) (sc1 := sc1) (sc2 := sc2) ⟨rfl, rfl, rfl, rfl, rfl, hN, rfl, rfl, rfl⟩ hz hwB (tn c2 Q0 s0 f0) (tn c3 Q1 s1 f1) (tn c4 Q2 s2 f2) ?_ f1 f2 hrb s0 ((kA _ (by omega)).trans V2) ((kA _ (by omega)).trans V3) ((kA _ (by omega)).trans V4) (cA c1) (SC.below (hn ▸ bA)) hcn hco
    exact ⟨⟨(bB.block _ (by omega)).trans g2, S.below (hn ▸ bA), hc, hrn, fun h0 e => by have := src_lt S h0 _ e; omega⟩, (kA _ (by omega)).trans V1, GR.nil _, (fun k e => by cases e), ⟨rfl, rfl, rfl, Nat.le_refl _, fun _ _ _ _ => rfl⟩, rfl, ⟨by unfold PO; omega, by unfold PO; omega, by omega⟩, fun k (hk : k < n + 4) => by omega, fun h0 k e => by have h5 := src_lt S h0 k e; have h6 := hro h0 k e; exact ⟨by unfold PO; omega, by omega, by omega⟩⟩
  refine (readU_any ro rn rc 19 #[ptr N0, ptr (N0 + 1), ptr (N0 + 2), ptr (N0 + 4), ptr (N0 + 3)] (fun r w' => OP (n + 4) wB (n + 1) (N0 + 1) (N0 + 2) (N0 + 3) (N0 + 4) P0 P1 P2 Z0 Zc r w') wA hcf (by rw [hW1, hn]; exact hf) (by
    intro e w4 h
    obtain ⟨K, I, G, b, x, err, gave, -, -, -, -, hE⟩ := h
    rw [hn]
    exact ⟨Or.inl ⟨_, _, hE⟩, (K.block _ (by omega) (by omega) (by omega) (by omega) (by omega) (by omega)).trans ((bB.block _ (by omega)).trans g3), (K.block _ (by omega) (by omega) (by omega) (by omega) (by omega) (by omega)).trans ((bB.block _ (by omega)).trans g1)⟩)).mono ?_
  intro r wz h
  rw [hn] at h
  obtain ⟨e2, w4, h, hh⟩ := h
  obtain ⟨K, I, G, b, x, err, gave, hRes, hNR, hx, he, hE⟩ := h
  rcases hh with ⟨gave', err', hE', rfl, hF⟩ | ⟨⟨_, _, _, o', _, _, _, hn', rfl⟩, _⟩
  rotate_left
  · exact (hE.no hn').elim
  have hs := K.size
  obtain rfl := hE.uniq hE'
  have kf : ∀ k, k < w4.heap.size → k ≠ n + 1 → k ≠ n → wz.heap[k]? = w4.heap[k]? := hF.block
  obtain ⟨li, ni, ci, lg, ng, cg, a, b', c', d, e, f⟩ := hNR
  refine ⟨I, G, b, x, err, hRes, rfl, ⟨li, ni, ci, lg, ng, cg, (kf _ a.lt (by omega) (by omega)).trans a, b'.keep (fun k y => kf k (b'.lt k y) (by have := (e k y).1; omega) (by have := (e k y).1; omega)), (kf _ c'.lt (by omega) (by omega)).trans c', d.keep (fun k y => kf k (d.lt k y) (by have := f k y; omega) (by have := f k y; omega)), fun k y => ⟨by have := (e k y).1; omega, (e k y).2⟩, fun k y => by have := f k y; omega⟩, (kf _ hx.lt (by omega) (by omega)).trans hx, (kf _ he.lt (by omega) (by omega)).trans he, hF.os.trans (K.os.trans bA.os), hF.tape.trans (K.tape.trans bA.tape), hF.output.trans (K.output.trans bA.output), by have := hF.size; have := bA.size; omega, fun k a1 a2 a3 a4 a5 => (kf k (by omega) (by omega) (by omega)).trans ((K.block k (by omega) (by omega) a2 a3 a4 a5).trans (kA k a1))⟩
end Go.Proofs.Ytflinfmhmokfhaa
