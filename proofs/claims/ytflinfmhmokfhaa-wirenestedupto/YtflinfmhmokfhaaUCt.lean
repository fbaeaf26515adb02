/- WireReads: the closure that asks a row of asks. -/
import Derived.Test.YtflinfmhmokfhaaUCl
import Derived.Test.YtflinfmhmokfhaaUKr
import Derived.Test.YtflinfmhmokfhaaURb
namespace Go.Proofs.Ytflinfmhmokfhaa
open Go.RowKit
attribute [local go_sem ↓] ldG_eq stG_eq ldK_eq stK_eq
attribute [local go_sem] GC_size KC_size to_GC to_KC fold_GC1
variable {n0 : Nat} {w0 w w' w2 w3 w4 wr : World} {g gk ga gg : Nat} {bz : Option Nat} {ro so lo : Option Addr} {rn rc sn sc ln lc : Nat} {Z Z0 : List Int} {G : List Got} {P : List Ask}

/-- an ask, plain: its error, its answer, how many bytes it takes -/
def aE (Z : List Int) (k n : Int) : Int := if k = 1 then nmE Z n else if k = 2 then flE Z else if k = 5 then ctE Z n else if k = 3 ∨ k = 4 then pcE Z n else if k = 7 then orE n else if k = 8 then 8 else 0
def aG (Z : List Int) (k : Int) : Got := if k = 1 then ⟨(nmV Z : Int), false, ⟨#[]⟩⟩ else if k = 2 then ⟨0, flV Z, ⟨#[]⟩⟩ else if k = 5 then ⟨(nmV Z : Int), false, ⟨#[]⟩⟩ else if k = 3 ∨ k = 4 then ⟨0, false, strOfNums ((Z.drop (nmK Z)).take (nmV Z))⟩ else if k = 6 then ⟨(Z.length : Int), false, ⟨#[]⟩⟩ else ⟨0, false, ⟨#[]⟩⟩
def aK (Z : List Int) (k : Int) : Nat := if k = 1 then nmK Z else if k = 2 then 1 else if k = 5 then nmK Z else if k = 3 ∨ k = 4 then nmK Z + nmV Z else 0
theorem orE_ne (n : Int) : orE n ≠ 0 := by
  unfold orE
  split
  · decide
  · assumption
theorem kinds8 (k : Int) : k = 1 ∨ k = 2 ∨ k = 3 ∨ k = 4 ∨ k = 5 ∨ k = 6 ∨ k = 7 ∨ k = 8 ∨ (¬ k = 1 ∧ ¬ k = 2 ∧ ¬ k = 3 ∧ ¬ k = 4 ∧ ¬ k = 5 ∧ ¬ k = 6 ∧ ¬ k = 7 ∧ ¬ k = 8) := by omega
theorem askT_ok (R : RL w g ro rn rc Z) {k n : Int} (h : aE Z k n = 0) : Calls Try.prog 8 #[ptr g, .agg (KC ⟨k, n⟩)] w fun r w' => r = .returned (.agg (GC (aG Z k))) ∧ Mv w w' g ro rn (aK Z k) Z := by
  rcases kinds8 k with rfl | rfl | rfl | rfl | rfl | rfl | rfl | rfl | hk
  · exact ask1_ok R h
  · exact ask2_ok R h
  · exact ask3_ok R h
  · exact ask4_ok R h
  · exact ask5_ok R h
  · exact ask6_ok R trivial
  · exact absurd (show orE n = 0 from h) (orE_ne n)
  · exact absurd (show (8 : Int) = 0 from h) (by decide)
  · obtain ⟨k1, k2, k3, k4, k5, k6, k7, k8⟩ := hk
    have e1 : aG Z k = ⟨0, false, ⟨#[]⟩⟩ := by unfold aG; rw [if_neg k1, if_neg k2, if_neg k5, if_neg (by omega), if_neg k6]
    have e2 : aK Z k = 0 := by unfold aK; rw [if_neg k1, if_neg k2, if_neg k5, if_neg (by omega)]
    rw [e1, e2]
    exact askN_ok R ⟨k1, k2, k3, k4, k5, k6, k7, k8⟩
theorem askT_bad (R : RL w g ro rn rc Z) {k n e : Int} (h8 : ¬ k = 8) (h : aE Z k n = e) (he : e ≠ 0) : Calls Try.prog 8 #[ptr g, .agg (KC ⟨k, n⟩)] w fun r w' => r = .panicked (ups g) ∧ Gave w w' g e := by
  rcases kinds8 k with rfl | rfl | rfl | rfl | rfl | rfl | rfl | rfl | hk
  · exact ask1_bad R h he
  · exact ask2_bad R h he
  · exact ask3_bad R h he
  · exact ask4_bad R h he
  · exact ask5_bad R h he
  · exact absurd (show e = 0 from h.symm) he
  · exact ask7_bad R h he
  · exact absurd rfl h8
  · obtain ⟨k1, k2, k3, k4, k5, k6, k7, k8⟩ := hk
    refine absurd (h.symm.trans ?_) he
    unfold aE
    rw [if_neg k1, if_neg k2, if_neg k5, if_neg (by omega), if_neg k7, if_neg k8]
theorem aK_le {k n : Int} (h : aE Z k n = 0) : aK Z k ≤ Z.length := by
  rcases kinds8 k with rfl | rfl | rfl | rfl | rfl | rfl | rfl | rfl | hk
  · exact (nm_ok (show nmE Z n = 0 from h)).2.2.1
  · have h2 : flE Z = 0 := h
    unfold flE at h2
    split at h2
    · cases h2
    · show 1 ≤ _; omega
  · exact (pcE_ok (show pcE Z n = 0 from h)).2
  · exact (pcE_ok (show pcE Z n = 0 from h)).2
  · exact (nm_ok (ctE_ok (show ctE Z n = 0 from h)).1).2.2.1
  · exact Nat.zero_le _
  · exact absurd (show orE n = 0 from h) (orE_ne n)
  · exact absurd (show (8 : Int) = 0 from h) (by decide)
  · obtain ⟨k1, k2, k3, k4, k5, k6, k7, k8⟩ := hk
    have e2 : aK Z k = 0 := by unfold aK; rw [if_neg k1, if_neg k2, if_neg k5, if_neg (by omega)]
    rw [e2]
    exact Nat.zero_le _
/-- the asks answered from some bytes: the answers, the error, what is left -/
def rdT : List Ask → List Int → List Got × Int × List Int
  | [], Z => ([], 0, Z)
  | s :: P, Z => if aE Z s.kind s.n = 0 then (aG Z s.kind :: (rdT P (Z.drop (aK Z s.kind))).1, (rdT P (Z.drop (aK Z s.kind))).2) else ([], aE Z s.kind s.n, Z)
theorem KAt.keep {a : Addr} {s : Ask} (h : KAt w a s) (e : w'.heap[a.block]? = w.heap[a.block]?) : KAt w' a s := by
  have key : ∀ k, w'.cell? (a.add k) = w.cell? (a.add k) := fun k => World.cell?_of_block (w := w) (a := a.add k) (by rw [block_of_add]; exact e)
  have key0 : w'.cell? a = w.cell? a := World.cell?_of_block (w := w) (a := a) e
  exact ⟨key0.trans h.c0, (key 1).trans h.c1⟩
/-- the asks, as the closure finds them -/
structure TB (n0 : Nat) (w0 : World) (g ga gg : Nat) (so : Option Addr) (sn sc : Nat) (P : List Ask) : Prop where
  v1 : Var w0 ga (.slice so sn sc) 23
  qs : KSrc w0 so sn sc P
  pos : ga < n0 ∧ ga ≠ g ∧ ga ≠ gg
  far : sn ≠ 0 → ∀ k, blk so = some k → k < n0 ∧ k ≠ g ∧ k ≠ gg
  big : sn ≤ 2000000
def TS (ga : Nat) (so : Option Addr) (sn sc : Nat) (a : Addr) (s : Ask) (W : World) : Prop := W.cell? ⟨ga, 0, none⟩ = some (.slice so sn sc) ∧ KAt W a s
theorem TB.v1' (h : TB n0 w0 g ga gg so sn sc P) (hw : ∀ j, j < n0 → j ≠ g → j ≠ gg → w.heap[j]? = w0.heap[j]?) : Var w ga (.slice so sn sc) 23 := (hw ga h.pos.1 h.pos.2.1 h.pos.2.2).trans h.v1
theorem TB.ss (h : TB n0 w0 g ga gg so sn sc P) {ad : Addr} {k : Nat} (ha : so = some ad) (hk : k < sn) (hw : ∀ j, j < n0 → j ≠ g → j ≠ gg → w.heap[j]? = w0.heap[j]?) : TS ga so sn sc (ad.add (k * 2)) (P.getD k k0) w := by
  have hf := h.far (by omega) ad.block (by rw [ha]; rfl)
  exact ⟨(h.v1' hw).c, (h.qs.cell ad ha k hk).keep (by rw [block_of_add]; exact hw _ hf.1 hf.2.1 hf.2.2)⟩
def TL (n0 : Nat) (w0 w : World) (g gg : Nat) (bz : Option Nat) (P : List Ask) (Z0 : List Int) (k : Nat) : Prop :=
  ∃ ro rn rc Z lo ln lc G, CI n0 w0 w g gg bz ro rn rc Z lo ln lc G ∧ ln = k ∧ rdT P Z0 = (G ++ (rdT (P.drop k) Z).1, (rdT (P.drop k) Z).2)
/-- what the closure leaves -/
def TP (n0 : Nat) (w0 : World) (g gg : Nat) (P : List Ask) (Z0 : List Int) (r : Ending) (w' : World) : Prop :=
  Kl n0 w0 w' g gg ∧ ∃ lo ln lc, Var w' gg (.slice lo ln lc) 24 ∧ GR w' lo ln lc (rdT P Z0).1 ∧ (∀ k, blk lo = some k → n0 ≤ k) ∧
    ((r = .returned (.tuple #[]) ∧ (rdT P Z0).2.1 = 0 ∧ (∃ so sc, Rdr w' g so (rdT P Z0).2.2.length sc 0 false)) ∨
      (r = .panicked (ups g) ∧ (rdT P Z0).2.1 ≠ 0 ∧ Rdr w' g none 0 0 (rdT P Z0).2.1 false) ∨
      ((∃ v, r = .panicked (bmE v false)) ∧ (rdT P Z0).2.1 = 8 ∧ ∃ so sn sc, Rdr w' g so sn sc 0 false))
theorem rdT_step {s : Ask} {k : Nat} (hk : k < P.length) (hs : P.getD k k0 = s) : P.drop k = s :: P.drop (k + 1) := by
  rw [List.drop_eq_getElem_cons hk, ← hs, List.getD_eq_getElem?_getD, List.getElem?_eq_getElem hk]
  rfl
theorem rdT_ok {s : Ask} {Z : List Int} {Q : List Ask} (h : aE Z s.kind s.n = 0) : rdT (s :: Q) Z = (aG Z s.kind :: (rdT Q (Z.drop (aK Z s.kind))).1, (rdT Q (Z.drop (aK Z s.kind))).2) := by
  rw [rdT, if_pos h]
theorem rdT_bad {s : Ask} {Z : List Int} {Q : List Ask} (h : aE Z s.kind s.n ≠ 0) : rdT (s :: Q) Z = ([], aE Z s.kind s.n, Z) := by
  rw [rdT, if_neg h]
theorem CI.badG {e : Int} {w2 : World} (h : CI n0 w0 w g gg bz ro rn rc Z lo ln lc G) (hG : Gave w w2 g e) : GR w2 lo ln lc G := by
  obtain ⟨p1, p2, p3, p4⟩ := h.pos
  exact h.gr.keep (fun k e => hG.2.block k (h.gr.lt k e) (by have := h.ge k e; omega))
set_option maxRecDepth 100000 in
set_option maxHeartbeats 8000000 in
theorem closeT_any (hS : TB n0 (w0.setCell ⟨gk, 0, none⟩ (ptr g)) g ga gg so sn sc P) (h : CI n0 (w0.setCell ⟨gk, 0, none⟩ (ptr g)) (w0.setCell ⟨gk, 0, none⟩ (ptr g)) g gg bz ro rn rc Z0 none 0 0 []) (hk : Var w0 gk (.pointer none) 25) : Calls Try.prog 9 #[ptr g, ptr gk, ptr ga, ptr gg] w0 fun r w' => TP n0 (w0.setCell ⟨gk, 0, none⟩ (ptr g)) g gg P Z0 r w' := by
  have HC : Hid (TL n0 (w0.setCell ⟨gk, 0, none⟩ (ptr g)) (w0.setCell ⟨gk, 0, none⟩ (ptr g)) g gg bz P Z0 0) := ⟨ro, rn, rc, Z0, none, 0, 0, [], h, rfl, rfl⟩
  have HS := hide hS
  have HP : Hid (P.length = sn) := hS.qs.len
  have y0 := hk.c
  have y1 := hk.z
  obtain ⟨w1, hw1⟩ : ∃ w1, w0.setCell ⟨gk, 0, none⟩ (ptr g) = w1 := ⟨_, rfl⟩
  rw [hw1] at HC HS ⊢
  clear hS h hk
  go_enter Try.func9, Try.ntmps9
  go_wp2_with fail
  go_loopw [5] (fun i wr => ∃ k : Nat, k ≤ sn ∧ i = .int .i64 k ∧ Hid (TL n0 w1 wr g gg bz P Z0 k)) (fun i _ => sn - (intOf i).toNat)
  case atStart => exact ⟨0, Nat.zero_le _, rfl, HC⟩
  case round =>
    clear HC y0 y1 hw1
    obtain ⟨k, hk, rfl, HL⟩ := hrel
    obtain ⟨ro, rn, rc, Z, lo, ln, lc, G, hI, hln, hE⟩ := HL.out
    subst hln
    have x1 := (HS.out.v1' hI.kl.block).c
    have HI := hide hI
    have HE := hide hE
    clear HL hI hE
    by_cases hlt : ln < sn
    · have HLT := hide hlt
      obtain ⟨ad, had, -⟩ := HS.out.qs.at ln hlt
      obtain ⟨s, hs⟩ : ∃ s, P.getD ln k0 = s := ⟨_, rfl⟩
      have HD := hide (rdT_step (by rw [HP.out]; exact hlt) hs)
      have HSS : Hid (∀ W : World, (∀ j, j < n0 → j ≠ g → j ≠ gg → W.heap[j]? = w1.heap[j]?) → TS ga (some ad) sn sc (ad.add (ln * 2)) s W) := fun W hW => by
        have := HS.out.ss had hlt hW
        rw [hs, had] at this
        exact this
      have HK1 : Hid (wrap64 ((ln : Int) + 1) = ((ln + 1 : Nat) : Int)) := by show _ = _; have := HS.out.big; rw [w64 (by omega) (by omega)]; rfl
      have HB : Hid (ln + 1 ≤ 4398046511004) := by show _ ≤ _; have := HS.out.big; omega
      have hiN : (ln : Int) < (sn : Int) := by omega
      subst had
      have ID := HI.out.below (below_drew1 wr)
      have HIX := hide ID
      have x0 := ID.v2.c
      clear ID hs
      by_cases hp : aE Z s.kind s.n = 0
      · have HPr := hide hp
        clear hp
        go_wp2_with fail
        refine wp_region_held_drew (S := TS ga (some ad) sn sc (ad.add (ln * 2)) s) (by kernel_rfl) (HSS.out _ HIX.out.kl.block) (fun hHeld => ?_)
        refine wpAnyH_take (i := 1) (oi := { dst := some 14, op := Op.move (Operand.tmp 0), type := 25, pos := "law.go:145", after := #[], guard := none }) (v := ?_) rfl (by kernel_rfl) (by kernel_rfl) (by kernel_rfl) (fun _ _ _ h => h) (Or.inl ⟨by rfl, ?_⟩) (by assumption) ?_
        rotate_left
        · (intro w hSw; (try dsimp only at hSw); go_simp); first | done | with_reducible rfl
        simp only [Act.put, List.setIfInBounds_toArray, List.set_cons_zero, List.set_cons_succ]
        refine wpAnyH_take (i := 2) (oi := { dst := some 15, op := Op.load 23 (Operand.tmp 2), type := 23, pos := "law.go:145", after := #[], guard := none }) (v := ?_) rfl (by kernel_rfl) (by kernel_rfl) (by kernel_rfl) (fun _ _ _ h => h) (Or.inl ⟨by rfl, ?_⟩) (by assumption) ?_
        rotate_left
        · (intro w hSw; (try dsimp only at hSw); have h1 := hSw.1; go_simp); first | done | with_reducible rfl
        simp only [Act.put, List.setIfInBounds_toArray, List.set_cons_zero, List.set_cons_succ]
        refine wpAnyH_take (i := 3) (oi := { dst := some 16, op := Op.move (Operand.tmp 5), type := 3, pos := "law.go:145", after := #[], guard := none }) (v := ?_) rfl (by kernel_rfl) (by kernel_rfl) (by kernel_rfl) (fun _ _ _ h => h) (Or.inl ⟨by rfl, ?_⟩) (by assumption) ?_
        rotate_left
        · (intro w hSw; (try dsimp only at hSw); go_simp); first | done | with_reducible rfl
        simp only [Act.put, List.setIfInBounds_toArray, List.set_cons_zero, List.set_cons_succ]
        refine wpAnyH_take (i := 4) (oi := { dst := some 17, op := Op.indexAddr 23 (Operand.tmp 15) (Operand.tmp 16), type := 0, pos := "law.go:145", after := #[{ on := 2, ground := Ground.data }, { on := 3, ground := Ground.data }], guard := none }) (v := ?_) rfl (by kernel_rfl) (by kernel_rfl) (by kernel_rfl) (fun _ _ _ h => h) (Or.inl ⟨by rfl, ?_⟩) (by assumption) ?_
        rotate_left
        · (intro w hSw; (try dsimp only at hSw); go_simp); first | done | with_reducible rfl
        simp only [Act.put, List.setIfInBounds_toArray, List.set_cons_zero, List.set_cons_succ]
        refine wpAnyH_take (i := 5) (oi := { dst := some 18, op := Op.load 32 (Operand.tmp 17), type := 32, pos := "law.go:145", after := #[{ on := 4, ground := Ground.data }], guard := none }) (v := ?_) rfl (by kernel_rfl) (by kernel_rfl) (by kernel_rfl) (fun _ _ _ h => h) (Or.inl ⟨by rfl, ?_⟩) (by assumption) ?_
        rotate_left
        · (intro w hSw; (try dsimp only at hSw); have h3 := run_laK hSw.2; go_simp); first | done | with_reducible rfl
        simp only [Act.put, List.setIfInBounds_toArray, List.set_cons_zero, List.set_cons_succ]
        refine wpAnyH_ready (rs := [0, 6]) (by kernel_rfl) (by simp) ?_
        refine AllReadyH.cons rfl (fun K hK => ?_) (AllReadyH.cons rfl (fun K hK => ?_) AllReadyH.nil)
        · go_simp
          refine hK.out _ _ (HSS.out _ HIX.out.kl.block) (fun hHeld => ?_)
          clear hK K
          refine wpAnyH_ready (rs := [6]) (by kernel_rfl) (by simp) ?_
          refine AllReadyH.cons rfl (fun K hK => ?_) ?_
          rotate_left
          · exact AllReadyH.nil
          go_simp
          go_wp2_with fail
          refine (askT_ok HIX.out.rl HPr.out).mono ?_
          rintro r w2 ⟨rfl, M2⟩
          obtain ⟨so2, sc2, IA⟩ := HIX.out.ask M2
          have HIA := hide IA
          have x0a := IA.v2.c
          have IL := IA.below (below_new w2 (.cells (GC (aG Z s.kind)) 29))
          have HIL := hide IL
          have x0l := IL.v2.c
          obtain ⟨bo, c2, w4, hrun, R4, A4⟩ := IA.gr.runs (L := [aG Z s.kind]) (cs := GC (aG Z s.kind)) (m := 1) rfl (gcs_lit _) HB.out 24
          have IB := HIA.out.app R4 A4
          have HI4 := hide IB
          have y4 := IB.1.c
          have z4 := IB.1.z
          clear M2 IA IL IB R4 A4
          refine hK.out _ _ (HSS.out _ HIA.out.kl.block) (fun hHeld => ?_)
          clear hK K
          refine wpAnyH_ready (rs := [7]) (by kernel_rfl) (by simp) ?_
          refine AllReadyH.cons rfl (fun K hK => ?_) ?_
          rotate_left
          · exact AllReadyH.nil
          go_simp
          refine hK.out _ _ (HSS.out _ HIL.out.kl.block) (fun hHeld => ?_)
          clear hK K
          refine wpAnyH_ready (rs := [8]) (by kernel_rfl) (by simp) ?_
          refine AllReadyH.cons rfl (fun K hK => ?_) ?_
          rotate_left
          · exact AllReadyH.nil
          refine step_appG rfl (.tmp 13) (.tmp 20) rfl rfl rfl hrun ?_
          simp only [Act.put, List.setIfInBounds_toArray]
          refine hK.out _ _ (HSS.out _ (fun j h1 h2 h3 => (HI4.out.2.1 j h1).trans (HIA.out.kl.block j h1 h2 h3))) (fun hHeld => ?_)
          clear hK K
          refine wpAnyH_ready (rs := [9]) (by kernel_rfl) (by simp) ?_
          refine AllReadyH.cons rfl (fun K hK => ?_) ?_
          rotate_left
          · exact AllReadyH.nil
          go_simp
          refine hK.out _ _ (HSS.out _ HI4.out.2.2.kl.block) (fun hHeld => ?_)
          clear hK K
          refine wpAnyH_done (by kernel_rfl) ?_ _
          clear hHeld
          have HI5 := hide HI4.out.2.2
          clear HI HIX HIA HIL HI4
          go_wp2_with fail
          go_roundw
          case rel => exact ⟨ln + 1, HLT.out, (by rw [HK1.out]), _, _, _, _, _, _, _, _, HI5.out, rfl, (by rw [HE.out, HD.out, rdT_ok HPr.out]; simp)⟩
          case measure => rw [HK1.out]; have := HLT.out; simp [intOf]; omega
        · go_simp
          go_wp2_with fail
          refine (askT_ok HIX.out.rl HPr.out).mono ?_
          rintro r w2 ⟨rfl, M2⟩
          obtain ⟨so2, sc2, IA⟩ := HIX.out.ask M2
          have HIA := hide IA
          have x0a := IA.v2.c
          have IL := IA.below (below_new w2 (.cells (GC (aG Z s.kind)) 29))
          have HIL := hide IL
          have x0l := IL.v2.c
          obtain ⟨bo, c2, w4, hrun, R4, A4⟩ := IA.gr.runs (L := [aG Z s.kind]) (cs := GC (aG Z s.kind)) (m := 1) rfl (gcs_lit _) HB.out 24
          have IB := HIA.out.app R4 A4
          have HI4 := hide IB
          have y4 := IB.1.c
          have z4 := IB.1.z
          clear M2 IA IL IB R4 A4
          refine hK.out _ _ (HSS.out _ HIA.out.kl.block) (fun hHeld => ?_)
          clear hK K
          refine wpAnyH_ready (rs := [0, 7]) (by kernel_rfl) (by simp) ?_
          refine AllReadyH.cons rfl (fun K hK => ?_) (AllReadyH.cons rfl (fun K hK => ?_) AllReadyH.nil)
          · go_simp
            refine hK.out _ _ (HSS.out _ HIA.out.kl.block) (fun hHeld => ?_)
            clear hK K
            refine wpAnyH_ready (rs := [7]) (by kernel_rfl) (by simp) ?_
            refine AllReadyH.cons rfl (fun K hK => ?_) ?_
            rotate_left
            · exact AllReadyH.nil
            go_simp
            refine hK.out _ _ (HSS.out _ HIL.out.kl.block) (fun hHeld => ?_)
            clear hK K
            refine wpAnyH_ready (rs := [8]) (by kernel_rfl) (by simp) ?_
            refine AllReadyH.cons rfl (fun K hK => ?_) ?_
            rotate_left
            · exact AllReadyH.nil
            refine step_appG rfl (.tmp 13) (.tmp 20) rfl rfl rfl hrun ?_
            simp only [Act.put, List.setIfInBounds_toArray]
            refine hK.out _ _ (HSS.out _ (fun j h1 h2 h3 => (HI4.out.2.1 j h1).trans (HIA.out.kl.block j h1 h2 h3))) (fun hHeld => ?_)
            clear hK K
            refine wpAnyH_ready (rs := [9]) (by kernel_rfl) (by simp) ?_
            refine AllReadyH.cons rfl (fun K hK => ?_) ?_
            rotate_left
            · exact AllReadyH.nil
            go_simp
            refine hK.out _ _ (HSS.out _ HI4.out.2.2.kl.block) (fun hHeld => ?_)
            clear hK K
            refine wpAnyH_done (by kernel_rfl) ?_ _
            clear hHeld
            have HI5 := hide HI4.out.2.2
            clear HI HIX HIA HIL HI4
            go_wp2_with fail
            go_roundw
            case rel => exact ⟨ln + 1, HLT.out, (by rw [HK1.out]), _, _, _, _, _, _, _, _, HI5.out, rfl, (by rw [HE.out, HD.out, rdT_ok HPr.out]; simp)⟩
            case measure => rw [HK1.out]; have := HLT.out; simp [intOf]; omega
          · go_simp
            refine hK.out _ _ (HSS.out _ HIL.out.kl.block) (fun hHeld => ?_)
            clear hK K
            refine wpAnyH_ready (rs := [0]) (by kernel_rfl) (by simp) ?_
            refine AllReadyH.cons rfl (fun K hK => ?_) ?_
            rotate_left
            · exact AllReadyH.nil
            go_simp
            refine hK.out _ _ (HSS.out _ HIL.out.kl.block) (fun hHeld => ?_)
            clear hK K
            refine wpAnyH_ready (rs := [8]) (by kernel_rfl) (by simp) ?_
            refine AllReadyH.cons rfl (fun K hK => ?_) ?_
            rotate_left
            · exact AllReadyH.nil
            refine step_appG rfl (.tmp 13) (.tmp 20) rfl rfl rfl hrun ?_
            simp only [Act.put, List.setIfInBounds_toArray]
            refine hK.out _ _ (HSS.out _ (fun j h1 h2 h3 => (HI4.out.2.1 j h1).trans (HIA.out.kl.block j h1 h2 h3))) (fun hHeld => ?_)
            clear hK K
            refine wpAnyH_ready (rs := [9]) (by kernel_rfl) (by simp) ?_
            refine AllReadyH.cons rfl (fun K hK => ?_) ?_
            rotate_left
            · exact AllReadyH.nil
            go_simp
            refine hK.out _ _ (HSS.out _ HI4.out.2.2.kl.block) (fun hHeld => ?_)
            clear hK K
            refine wpAnyH_done (by kernel_rfl) ?_ _
            clear hHeld
            have HI5 := hide HI4.out.2.2
            clear HI HIX HIA HIL HI4
            go_wp2_with fail
            go_roundw
            case rel => exact ⟨ln + 1, HLT.out, (by rw [HK1.out]), _, _, _, _, _, _, _, _, HI5.out, rfl, (by rw [HE.out, HD.out, rdT_ok HPr.out]; simp)⟩
            case measure => rw [HK1.out]; have := HLT.out; simp [intOf]; omega
      · have HPr := hide hp
        clear hp
        by_cases h8 : s.kind = 8
        · have H8 := hide h8
          clear h8
          go_wp2_with fail
          refine wp_region_held_drew (S := TS ga (some ad) sn sc (ad.add (ln * 2)) s) (by kernel_rfl) (HSS.out _ HIX.out.kl.block) (fun hHeld => ?_)
          refine wpAnyH_take (i := 1) (oi := { dst := some 14, op := Op.move (Operand.tmp 0), type := 25, pos := "law.go:145", after := #[], guard := none }) (v := ?_) rfl (by kernel_rfl) (by kernel_rfl) (by kernel_rfl) (fun _ _ _ h => h) (Or.inl ⟨by rfl, ?_⟩) (by assumption) ?_
          rotate_left
          · (intro w hSw; (try dsimp only at hSw); go_simp); first | done | with_reducible rfl
          simp only [Act.put, List.setIfInBounds_toArray, List.set_cons_zero, List.set_cons_succ]
          refine wpAnyH_take (i := 2) (oi := { dst := some 15, op := Op.load 23 (Operand.tmp 2), type := 23, pos := "law.go:145", after := #[], guard := none }) (v := ?_) rfl (by kernel_rfl) (by kernel_rfl) (by kernel_rfl) (fun _ _ _ h => h) (Or.inl ⟨by rfl, ?_⟩) (by assumption) ?_
          rotate_left
          · (intro w hSw; (try dsimp only at hSw); have h1 := hSw.1; go_simp); first | done | with_reducible rfl
          simp only [Act.put, List.setIfInBounds_toArray, List.set_cons_zero, List.set_cons_succ]
          refine wpAnyH_take (i := 3) (oi := { dst := some 16, op := Op.move (Operand.tmp 5), type := 3, pos := "law.go:145", after := #[], guard := none }) (v := ?_) rfl (by kernel_rfl) (by kernel_rfl) (by kernel_rfl) (fun _ _ _ h => h) (Or.inl ⟨by rfl, ?_⟩) (by assumption) ?_
          rotate_left
          · (intro w hSw; (try dsimp only at hSw); go_simp); first | done | with_reducible rfl
          simp only [Act.put, List.setIfInBounds_toArray, List.set_cons_zero, List.set_cons_succ]
          refine wpAnyH_take (i := 4) (oi := { dst := some 17, op := Op.indexAddr 23 (Operand.tmp 15) (Operand.tmp 16), type := 0, pos := "law.go:145", after := #[{ on := 2, ground := Ground.data }, { on := 3, ground := Ground.data }], guard := none }) (v := ?_) rfl (by kernel_rfl) (by kernel_rfl) (by kernel_rfl) (fun _ _ _ h => h) (Or.inl ⟨by rfl, ?_⟩) (by assumption) ?_
          rotate_left
          · (intro w hSw; (try dsimp only at hSw); go_simp); first | done | with_reducible rfl
          simp only [Act.put, List.setIfInBounds_toArray, List.set_cons_zero, List.set_cons_succ]
          refine wpAnyH_take (i := 5) (oi := { dst := some 18, op := Op.load 32 (Operand.tmp 17), type := 32, pos := "law.go:145", after := #[{ on := 4, ground := Ground.data }], guard := none }) (v := ?_) rfl (by kernel_rfl) (by kernel_rfl) (by kernel_rfl) (fun _ _ _ h => h) (Or.inl ⟨by rfl, ?_⟩) (by assumption) ?_
          rotate_left
          · (intro w hSw; (try dsimp only at hSw); have h3 := run_laK hSw.2; go_simp); first | done | with_reducible rfl
          simp only [Act.put, List.setIfInBounds_toArray, List.set_cons_zero, List.set_cons_succ]
          refine wpAnyH_ready (rs := [0, 6]) (by kernel_rfl) (by simp) ?_
          refine AllReadyH.cons rfl (fun K hK => ?_) (AllReadyH.cons rfl (fun K hK => ?_) AllReadyH.nil)
          · go_simp
            refine hK.out _ _ (HSS.out _ HIX.out.kl.block) (fun hHeld => ?_)
            clear hK K
            refine wpAnyH_ready (rs := [6]) (by kernel_rfl) (by simp) ?_
            refine AllReadyH.cons rfl (fun K hK => ?_) ?_
            rotate_left
            · exact AllReadyH.nil
            go_simp
            go_wp2_with fail
            have HAk : Hid (Calls Try.prog 8 #[ptr g, .agg (KC s)] wr.drew fun r w' => (∃ v, r = .panicked (bmE v false)) ∧ Below wr.drew.heap.size wr.drew w') := by
              have := ask8_boom (n := s.n) HIX.out.rl
              rw [← H8.out] at this
              exact this
            refine HAk.out.mono ?_
            rintro r w2 ⟨⟨v, rfl⟩, b2⟩
            have HFn : Hid (TP n0 w1 g gg P Z0 (.panicked (bmE v false)) w2) := by
              have h8 : aE Z s.kind s.n = 8 := by rw [H8.out]; rfl
              have hN : rdT P Z0 = (G, 8, Z) := by
                rw [HE.out, HD.out, rdT_bad HPr.out, h8]
                simp
              have hB := HIX.out.below b2
              exact ⟨hB.kl, lo, ln, lc, hB.v2, by rw [hN]; exact hB.gr, hB.ge, Or.inr (Or.inr ⟨⟨v, rfl⟩, by rw [hN], _, _, _, hB.rl.r⟩)⟩
            clear b2 HAk
            go_wp2_with fail
            exact ⟨rfl, HFn.out⟩
          · go_simp
            go_wp2_with fail
            have HAk : Hid (Calls Try.prog 8 #[ptr g, .agg (KC s)] wr.drew fun r w' => (∃ v, r = .panicked (bmE v false)) ∧ Below wr.drew.heap.size wr.drew w') := by
              have := ask8_boom (n := s.n) HIX.out.rl
              rw [← H8.out] at this
              exact this
            refine HAk.out.mono ?_
            rintro r w2 ⟨⟨v, rfl⟩, b2⟩
            have HFn : Hid (TP n0 w1 g gg P Z0 (.panicked (bmE v false)) w2) := by
              have h8 : aE Z s.kind s.n = 8 := by rw [H8.out]; rfl
              have hN : rdT P Z0 = (G, 8, Z) := by
                rw [HE.out, HD.out, rdT_bad HPr.out, h8]
                simp
              have hB := HIX.out.below b2
              exact ⟨hB.kl, lo, ln, lc, hB.v2, by rw [hN]; exact hB.gr, hB.ge, Or.inr (Or.inr ⟨⟨v, rfl⟩, by rw [hN], _, _, _, hB.rl.r⟩)⟩
            clear b2 HAk
            go_wp2_with fail
            exact ⟨rfl, HFn.out⟩
        · have H8 := hide h8
          clear h8
          go_wp2_with fail
          refine wp_region_held_drew (S := TS ga (some ad) sn sc (ad.add (ln * 2)) s) (by kernel_rfl) (HSS.out _ HIX.out.kl.block) (fun hHeld => ?_)
          refine wpAnyH_take (i := 1) (oi := { dst := some 14, op := Op.move (Operand.tmp 0), type := 25, pos := "law.go:145", after := #[], guard := none }) (v := ?_) rfl (by kernel_rfl) (by kernel_rfl) (by kernel_rfl) (fun _ _ _ h => h) (Or.inl ⟨by rfl, ?_⟩) (by assumption) ?_
          rotate_left
          · (intro w hSw; (try dsimp only at hSw); go_simp); first | done | with_reducible rfl
          simp only [Act.put, List.setIfInBounds_toArray, List.set_cons_zero, List.set_cons_succ]
          refine wpAnyH_take (i := 2) (oi := { dst := some 15, op := Op.load 23 (Operand.tmp 2), type := 23, pos := "law.go:145", after := #[], guard := none }) (v := ?_) rfl (by kernel_rfl) (by kernel_rfl) (by kernel_rfl) (fun _ _ _ h => h) (Or.inl ⟨by rfl, ?_⟩) (by assumption) ?_
          rotate_left
          · (intro w hSw; (try dsimp only at hSw); have h1 := hSw.1; go_simp); first | done | with_reducible rfl
          simp only [Act.put, List.setIfInBounds_toArray, List.set_cons_zero, List.set_cons_succ]
          refine wpAnyH_take (i := 3) (oi := { dst := some 16, op := Op.move (Operand.tmp 5), type := 3, pos := "law.go:145", after := #[], guard := none }) (v := ?_) rfl (by kernel_rfl) (by kernel_rfl) (by kernel_rfl) (fun _ _ _ h => h) (Or.inl ⟨by rfl, ?_⟩) (by assumption) ?_
          rotate_left
          · (intro w hSw; (try dsimp only at hSw); go_simp); first | done | with_reducible rfl
          simp only [Act.put, List.setIfInBounds_toArray, List.set_cons_zero, List.set_cons_succ]
          refine wpAnyH_take (i := 4) (oi := { dst := some 17, op := Op.indexAddr 23 (Operand.tmp 15) (Operand.tmp 16), type := 0, pos := "law.go:145", after := #[{ on := 2, ground := Ground.data }, { on := 3, ground := Ground.data }], guard := none }) (v := ?_) rfl (by kernel_rfl) (by kernel_rfl) (by kernel_rfl) (fun _ _ _ h => h) (Or.inl ⟨by rfl, ?_⟩) (by assumption) ?_
          rotate_left
          · (intro w hSw; (try dsimp only at hSw); go_simp); first | done | with_reducible rfl
          simp only [Act.put, List.setIfInBounds_toArray, List.set_cons_zero, List.set_cons_succ]
          refine wpAnyH_take (i := 5) (oi := { dst := some 18, op := Op.load 32 (Operand.tmp 17), type := 32, pos := "law.go:145", after := #[{ on := 4, ground := Ground.data }], guard := none }) (v := ?_) rfl (by kernel_rfl) (by kernel_rfl) (by kernel_rfl) (fun _ _ _ h => h) (Or.inl ⟨by rfl, ?_⟩) (by assumption) ?_
          rotate_left
          · (intro w hSw; (try dsimp only at hSw); have h3 := run_laK hSw.2; go_simp); first | done | with_reducible rfl
          simp only [Act.put, List.setIfInBounds_toArray, List.set_cons_zero, List.set_cons_succ]
          refine wpAnyH_ready (rs := [0, 6]) (by kernel_rfl) (by simp) ?_
          refine AllReadyH.cons rfl (fun K hK => ?_) (AllReadyH.cons rfl (fun K hK => ?_) AllReadyH.nil)
          · go_simp
            refine hK.out _ _ (HSS.out _ HIX.out.kl.block) (fun hHeld => ?_)
            clear hK K
            refine wpAnyH_ready (rs := [6]) (by kernel_rfl) (by simp) ?_
            refine AllReadyH.cons rfl (fun K hK => ?_) ?_
            rotate_left
            · exact AllReadyH.nil
            go_simp
            go_wp2_with fail
            refine (askT_bad HIX.out.rl H8.out rfl HPr.out).mono ?_
            rintro r w2 ⟨rfl, hG⟩
            have HFn : Hid (TP n0 w1 g gg P Z0 (.panicked (ups g)) w2) := by
              have hN : rdT P Z0 = (G, aE Z s.kind s.n, Z) := by
                rw [HE.out, HD.out, rdT_bad HPr.out]
                simp
              have hB := HIX.out.bad hG
              exact ⟨hB.1, lo, ln, lc, hB.2, by rw [hN]; exact HIX.out.badG hG, HIX.out.ge, Or.inr (Or.inl ⟨rfl, by rw [hN]; exact HPr.out, by rw [hN]; exact hG.1⟩)⟩
            clear hG
            go_wp2_with fail
            exact ⟨rfl, HFn.out⟩
          · go_simp
            go_wp2_with fail
            refine (askT_bad HIX.out.rl H8.out rfl HPr.out).mono ?_
            rintro r w2 ⟨rfl, hG⟩
            have HFn : Hid (TP n0 w1 g gg P Z0 (.panicked (ups g)) w2) := by
              have hN : rdT P Z0 = (G, aE Z s.kind s.n, Z) := by
                rw [HE.out, HD.out, rdT_bad HPr.out]
                simp
              have hB := HIX.out.bad hG
              exact ⟨hB.1, lo, ln, lc, hB.2, by rw [hN]; exact HIX.out.badG hG, HIX.out.ge, Or.inr (Or.inl ⟨rfl, by rw [hN]; exact HPr.out, by rw [hN]; exact hG.1⟩)⟩
            clear hG
            go_wp2_with fail
            exact ⟨rfl, HFn.out⟩
    · obtain rfl : ln = sn := by omega
      have hN : rdT P Z0 = (G, 0, Z) := by
        rw [HE.out, List.drop_of_length_le (by rw [HP.out]; exact Nat.le_refl _)]
        simp [rdT]
      have HF : Hid (TP n0 w1 g gg P Z0 (.returned (.tuple #[])) wr) := by
        refine ⟨HI.out.kl, lo, ln, lc, HI.out.v2, by rw [hN]; exact HI.out.gr, HI.out.ge, Or.inl ⟨rfl, by rw [hN], ?_⟩⟩
        rw [hN]
        have := HI.out.rl.r
        rw [← HI.out.rl.len] at this
        exact ⟨_, _, this⟩
      clear hN
      go_wp2_with fail
      go_end0
      exact HF.out
end Go.Proofs.Ytflinfmhmokfhaa
