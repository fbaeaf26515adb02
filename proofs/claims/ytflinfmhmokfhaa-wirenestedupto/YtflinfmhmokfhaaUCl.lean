/- The law's reading of steps: the closure that goes through the bytes. -/
import Derived.Test.YtflinfmhmokfhaaUFt
import Derived.Test.YtflinfmhmokfhaaUGr
import Derived.Test.YtflinfmhmokfhaaUBe
namespace Go.Proofs.Ytflinfmhmokfhaa
open Go.RowKit
theorem fold_GC1 (m : Got) : Array.foldl (fun cs x => cs.setIfInBounds x.snd x.fst) #[(GC ⟨0, false, ⟨#[]⟩⟩)[0]!, (GC ⟨0, false, ⟨#[]⟩⟩)[1]!, (GC ⟨0, false, ⟨#[]⟩⟩)[2]!] (GC m).zipIdx 0 3 = GC m := rfl
attribute [local go_sem ↓] ldG_eq stG_eq ldK_eq stK_eq ldQ_eq stQ_eq
attribute [local go_sem] GC_size KC_size QC_size to_GC to_KC fold_GC1
variable {n0 : Nat} {w0 w w' w2 w3 w4 wr : World} {g g1 g2 g3 : Nat} {bz : Option Nat} {ro so lo : Option Addr} {rn rc sn sc ln lc : Nat} {Z Z0 : List Int} {G : List Got} {P : List Stp} {wide : Int}

structure Kl (n0 : Nat) (w w' : World) (g lv : Nat) : Prop where
  os : w'.os = w.os
  tape : w'.tape = w.tape
  output : w'.output = w.output
  size : w.heap.size ≤ w'.heap.size
  block : ∀ k, k < n0 → k ≠ g → k ≠ lv → w'.heap[k]? = w.heap[k]?
/-- the reader, and the row of what was read -/
structure CI (n0 : Nat) (w0 w : World) (g g2 : Nat) (bz : Option Nat) (ro : Option Addr) (rn rc : Nat) (Z : List Int) (lo : Option Addr) (ln lc : Nat) (G : List Got) : Prop where
  rl : RL w g ro rn rc Z
  v2 : Var w g2 (.slice lo ln lc) 24
  gr : GR w lo ln lc G
  ge : ∀ k, blk lo = some k → n0 ≤ k
  kl : Kl n0 w0 w g g2
  src : blk ro = bz
  pos : g < n0 ∧ g2 < n0 ∧ g ≠ g2 ∧ n0 ≤ w.heap.size
  sp : rn ≠ 0 → ∀ k, bz = some k → k < n0 ∧ k ≠ g2 ∧ k ≠ g
theorem CI.below (h : CI n0 w0 w g g2 bz ro rn rc Z lo ln lc G) (b : Below w.heap.size w w') : CI n0 w0 w' g g2 bz ro rn rc Z lo ln lc G := by
  obtain ⟨p1, p2, p3, p4⟩ := h.pos
  exact ⟨h.rl.kg_below b, (b.block g2 h.v2.lt).trans h.v2, h.gr.below b, h.ge, ⟨b.os.trans h.kl.os, b.tape.trans h.kl.tape, b.output.trans h.kl.output, Nat.le_trans h.kl.size b.size, fun k hk e1 e2 => (b.block k (by omega)).trans (h.kl.block k hk e1 e2)⟩, h.src, ⟨p1, p2, p3, Nat.le_trans p4 b.size⟩, h.sp⟩
theorem CI.ask {k : Nat} (h : CI n0 w0 w g g2 bz ro rn rc Z lo ln lc G) (M : Mv w w2 g ro rn k Z) : ∃ so sc, CI n0 w0 w2 g g2 bz so (rn - k) sc (Z.drop k) lo ln lc G := by
  obtain ⟨so, sc, R, hb, K⟩ := M
  obtain ⟨p1, p2, p3, p4⟩ := h.pos
  refine ⟨so, sc, R, (K.block g2 (by omega) (Ne.symm p3)).trans h.v2, h.gr.keep (fun k e => K.block k (h.gr.lt k e) (by have := h.ge k e; omega)), h.ge, ⟨K.os.trans h.kl.os, K.tape.trans h.kl.tape, K.output.trans h.kl.output, Nat.le_trans h.kl.size K.size, fun k hk e1 e2 => (K.block k (by omega) e1).trans (h.kl.block k hk e1 e2)⟩, hb.trans h.src, ⟨p1, p2, p3, Nat.le_trans p4 K.size⟩, fun h0 => h.sp (by omega)⟩
theorem CI.app {m : Got} {bo : Option Addr} {c2 : Nat} (h : CI n0 w0 w g g2 bz ro rn rc Z lo ln lc G) (R : GR w4 bo (ln + 1) c2 (G ++ [m])) (A : Ap w w4 lo bo) :
    Var w4 g2 (.slice lo ln lc) 24 ∧ (∀ k, k < n0 → w4.heap[k]? = w.heap[k]?) ∧ CI n0 w0 (w4.setCell ⟨g2, 0, none⟩ (.slice bo (ln + 1) c2)) g g2 bz ro rn rc Z bo (ln + 1) c2 (G ++ [m]) := by
  obtain ⟨p1, p2, p3, p4⟩ := h.pos
  have hlo : ∀ k, k < n0 → some k ≠ blk lo := fun k hk e => by have := h.ge k e.symm; omega
  have hk : ∀ k, k < n0 → w4.heap[k]? = w.heap[k]? := fun k hk => A.grown.block k (by omega) (hlo k hk)
  have V2 : Var w4 g2 (.slice lo ln lc) 24 := (hk g2 p2).trans h.v2
  have hs := A.grown.size
  have hge : ∀ k, blk bo = some k → n0 ≤ k := fun k e => by
    rcases A.lies with x | ⟨j, x, hj⟩
    · rw [x] at e; exact h.ge k e
    · rw [x] at e
      have := Option.some.inj e
      omega
  refine ⟨V2, hk, ⟨?_, set_heap w4 g2 _ _ _ 0 _ V2, R.keep (fun k e => set_other w4 g2 0 k _ (by have := hge k e; omega)), hge, ⟨(setCell_os _ _ _).trans (A.grown.os.trans h.kl.os), (setCell_tape _ _ _).trans (A.grown.tape.trans h.kl.tape), (setCell_output _ _ _).trans (A.grown.output.trans h.kl.output), by rw [set_size]; exact Nat.le_trans h.kl.size hs, fun k hk0 h1 h2 => (set_other w4 g2 0 k _ h2).trans ((hk k hk0).trans (h.kl.block k hk0 h1 h2))⟩, h.src, ⟨p1, p2, p3, by rw [set_size]; omega⟩, h.sp⟩⟩
  have b : ∀ k, k < n0 → k ≠ g2 → (w4.setCell ⟨g2, 0, none⟩ (.slice bo (ln + 1) c2)).heap[k]? = w.heap[k]? := fun k hk1 hk2 => (set_other w4 g2 0 k _ hk2).trans (hk k hk1)
  refine ⟨(b g p1 p3).trans h.rl.r, ⟨h.rl.s.1, h.rl.s.2.1, fun ad ha t ht => ?_, h.rl.s.2.2.2⟩, h.rl.cap, h.rl.big, h.rl.ne⟩
  have hb : blk ro = some ad.block := by rw [ha]; rfl
  have := h.sp (by omega) ad.block (by rw [← h.src]; exact hb)
  rw [← h.rl.s.2.2.1 ad ha t ht]
  exact World.cell?_of_block (w := w) (a := ad.add t) (by rw [block_of_add]; exact b ad.block this.1 this.2.1)
theorem QAt.keep {a : Addr} {s : Stp} (h : QAt w a s) (e : w'.heap[a.block]? = w.heap[a.block]?) : QAt w' a s := by
  have key : ∀ k, w'.cell? (a.add k) = w.cell? (a.add k) := fun k => World.cell?_of_block (w := w) (a := a.add k) (by rw [block_of_add]; exact e)
  have key0 : w'.cell? a = w.cell? a := World.cell?_of_block (w := w) (a := a) e
  exact ⟨key0.trans h.c0, (key 1).trans h.c1, (key 2).trans h.c2, (key 3).trans h.c3, (key 4).trans h.c4⟩
/-- the steps and the bound, as the closure finds them -/
structure SB (n0 : Nat) (w0 : World) (g g1 g2 g3 : Nat) (so : Option Addr) (sn sc : Nat) (P : List Stp) (wide : Int) : Prop where
  v1 : Var w0 g1 (.slice so sn sc) 39
  v3 : Var w0 g3 (.int .i64 wide) 3
  qs : QSrc w0 so sn sc P
  pos : g1 < n0 ∧ g1 ≠ g ∧ g1 ≠ g2 ∧ g3 < n0 ∧ g3 ≠ g ∧ g3 ≠ g2
  far : sn ≠ 0 → ∀ k, blk so = some k → k < n0 ∧ k ≠ g ∧ k ≠ g2
  ok : ∀ s ∈ P, OkS s
  big : sn ≤ 2000000
def SS (g1 g3 : Nat) (so : Option Addr) (sn sc : Nat) (wide : Int) (a : Addr) (s : Stp) (W : World) : Prop := W.cell? ⟨g1, 0, none⟩ = some (.slice so sn sc) ∧ W.cell? ⟨g3, 0, none⟩ = some (.int .i64 wide) ∧ QAt W a s
theorem SB.ss (h : SB n0 w0 g g1 g2 g3 so sn sc P wide) {ad : Addr} {k : Nat} (ha : so = some ad) (hk : k < sn) (hw : ∀ j, j < n0 → j ≠ g → j ≠ g2 → w.heap[j]? = w0.heap[j]?) : SS g1 g3 so sn sc wide (ad.add (k * 5)) (P.getD k q0) w := by
  obtain ⟨p1, p2, p3, p4, p5, p6⟩ := h.pos
  have hf := h.far (by omega) ad.block (by rw [ha]; rfl)
  exact ⟨(show Var w g1 _ _ from (hw g1 p1 p2 p3).trans h.v1).c, (show Var w g3 _ _ from (hw g3 p4 p5 p6).trans h.v3).c, (h.qs.cell ad ha k hk).keep (by rw [block_of_add]; exact hw _ hf.1 hf.2.1 hf.2.2)⟩
theorem SB.v1' (h : SB n0 w0 g g1 g2 g3 so sn sc P wide) (hw : ∀ j, j < n0 → j ≠ g → j ≠ g2 → w.heap[j]? = w0.heap[j]?) : Var w g1 (.slice so sn sc) 39 := (hw g1 h.pos.1 h.pos.2.1 h.pos.2.2.1).trans h.v1
/-- behind k steps -/
def CL (n0 : Nat) (w0 w : World) (g g2 : Nat) (bz : Option Nat) (wide : Int) (P : List Stp) (Z0 : List Int) (k : Nat) : Prop :=
  ∃ ro rn rc Z lo ln lc G, CI n0 w0 w g g2 bz ro rn rc Z lo ln lc G ∧ ln = k ∧ rdS wide P Z0 = (G ++ (rdS wide (P.drop k) Z).1, (rdS wide (P.drop k) Z).2)
/-- what the closure leaves -/
def CP (n0 : Nat) (w0 : World) (g g2 : Nat) (wide : Int) (P : List Stp) (Z0 : List Int) (r : Ending) (w' : World) : Prop :=
  Kl n0 w0 w' g g2 ∧ ∃ lo ln lc, Var w' g2 (.slice lo ln lc) 24 ∧
    ((r = .returned (.tuple #[]) ∧ (rdS wide P Z0).2.1 = 0 ∧ (∃ so sc, Rdr w' g so (rdS wide P Z0).2.2.length sc 0 false) ∧ GR w' lo ln lc (rdS wide P Z0).1 ∧ ∀ k, blk lo = some k → n0 ≤ k) ∨
      (r = .panicked (ups g) ∧ (rdS wide P Z0).2.1 ≠ 0 ∧ Rdr w' g none 0 0 (rdS wide P Z0).2.1 false))
theorem rdS_step {s : Stp} {k : Nat} (hk : k < P.length) (hs : P.getD k q0 = s) : P.drop k = s :: P.drop (k + 1) := by
  rw [List.drop_eq_getElem_cons hk, ← hs, List.getD_eq_getElem?_getD, List.getElem?_eq_getElem hk]
  rfl
theorem rdS_ok {s : Stp} {Z : List Int} {Q : List Stp} (h : asE Z s.kind (fitN s wide) = 0) : rdS wide (s :: Q) Z = (asG Z s.kind :: (rdS wide Q (Z.drop (asK Z s.kind))).1, (rdS wide Q (Z.drop (asK Z s.kind))).2) := by
  rw [rdS, if_pos h]
theorem rdS_bad {s : Stp} {Z : List Int} {Q : List Stp} (h : asE Z s.kind (fitN s wide) ≠ 0) : rdS wide (s :: Q) Z = ([], asE Z s.kind (fitN s wide), Z) := by
  rw [rdS, if_neg h]
theorem gcs_lit (m : Got) : (GC m).toList = gcs [m] := by simp [gcs]
theorem CI.bad {e : Int} {w2 : World} (h : CI n0 w0 w g g2 bz ro rn rc Z lo ln lc G) (hG : Gave w w2 g e) : Kl n0 w0 w2 g g2 ∧ Var w2 g2 (.slice lo ln lc) 24 := by
  obtain ⟨p1, p2, p3, p4⟩ := h.pos
  have K := hG.2
  exact ⟨⟨K.os.trans h.kl.os, K.tape.trans h.kl.tape, K.output.trans h.kl.output, Nat.le_trans h.kl.size K.size, fun k hk e1 e2 => (K.block k (by omega) e1).trans (h.kl.block k hk e1 e2)⟩, (K.block g2 (by omega) (Ne.symm p3)).trans h.v2⟩
set_option maxRecDepth 100000 in
set_option maxHeartbeats 8000000 in
theorem close_any (hS : SB n0 w0 g g1 g2 g3 so sn sc P wide) (h : CI n0 w0 w0 g g2 bz ro rn rc Z0 none 0 0 []) : Calls Try.prog 37 #[ptr g, ptr g1, ptr g2, ptr g3] w0 fun r w' => CP n0 w0 g g2 wide P Z0 r w' := by
  have HC : Hid (CL n0 w0 w0 g g2 bz wide P Z0 0) := ⟨ro, rn, rc, Z0, none, 0, 0, [], h, rfl, rfl⟩
  have HS := hide hS
  have HP : Hid (P.length = sn) := hS.qs.len
  clear hS h
  go_enter Try.func37, Try.ntmps37
  go_wp2_with fail
  go_loopw [5] (fun i wr => ∃ k : Nat, k ≤ sn ∧ i = .int .i64 k ∧ Hid (CL n0 w0 wr g g2 bz wide P Z0 k)) (fun i _ => sn - (intOf i).toNat)
  case atStart => exact ⟨0, Nat.zero_le _, rfl, HC⟩
  case round =>
    clear HC
    obtain ⟨k, hk, rfl, HL⟩ := hrel
    obtain ⟨ro, rn, rc, Z, lo, ln, lc, G, hI, hln, hE⟩ := HL.out
    subst hln
    have x1 := (HS.out.v1' hI.kl.block).c
    have HI := hide hI
    have HE := hide hE
    clear HL hI hE
    by_cases hlt : ln < sn
    · have HLT := hide hlt
      obtain ⟨ad, had, -⟩ := HS.out.qs.at ln hlt
      obtain ⟨s, hs⟩ : ∃ s, P.getD ln q0 = s := ⟨_, rfl⟩
      have HD := hide (rdS_step (by rw [HP.out]; exact hlt) hs)
      have hok : OkS s := HS.out.ok s (by rw [← hs, List.getD_eq_getElem?_getD, List.getElem?_eq_getElem (by rw [HP.out]; exact hlt)]; exact List.getElem_mem _)
      have HOk := hide hok
      have HSS : Hid (∀ W : World, (∀ j, j < n0 → j ≠ g → j ≠ g2 → W.heap[j]? = w0.heap[j]?) → SS g1 g3 (some ad) sn sc wide (ad.add (ln * 5)) s W) := fun W hW => by
        have := HS.out.ss had hlt hW
        rw [hs, had] at this
        exact this
      have HK1 : Hid (wrap64 ((ln : Int) + 1) = ((ln + 1 : Nat) : Int)) := by show _ = _; have := HS.out.big; rw [w64 (by omega) (by omega)]; rfl
      have HB : Hid (ln + 1 ≤ 4398046511004) := by show _ ≤ _; have := HS.out.big; omega
      have hiN : (ln : Int) < (sn : Int) := by omega
      subst had
      have ID := HI.out.below (below_drew1 wr)
      have HID := hide ID
      have x0 := ID.v2.c
      have HF := hide (fitting_any s hok wide wr.drew)
      clear ID hok hs
      by_cases hp : asE Z s.kind (fitN s wide) = 0
      · have HPr := hide hp
        clear hp
        go_wp2_with fail
        refine wp_region_held_drew (S := SS g1 g3 (some ad) sn sc wide (ad.add (ln * 5)) s) (by kernel_rfl) (HSS.out _ HID.out.kl.block) (fun hHeld => ?_)
        refine wpAnyH_take (i := 1) (oi := { dst := some 13, op := Op.move (Operand.tmp 0), type := 25, pos := "outright.go:32", after := #[], guard := none }) (v := ?_) rfl (by kernel_rfl) (by kernel_rfl) (by kernel_rfl) (fun _ _ _ h => h) (Or.inl ⟨by rfl, ?_⟩) (by assumption) ?_
        rotate_left
        · (intro w hSw; (try dsimp only at hSw); go_simp); first | done | with_reducible rfl
        simp only [Act.put, List.setIfInBounds_toArray, List.set_cons_zero, List.set_cons_succ]
        refine wpAnyH_take (i := 2) (oi := { dst := some 14, op := Op.load 39 (Operand.tmp 1), type := 39, pos := "outright.go:32", after := #[], guard := none }) (v := ?_) rfl (by kernel_rfl) (by kernel_rfl) (by kernel_rfl) (fun _ _ _ h => h) (Or.inl ⟨by rfl, ?_⟩) (by assumption) ?_
        rotate_left
        · (intro w hSw; (try dsimp only at hSw); have h1 := hSw.1; go_simp); first | done | with_reducible rfl
        simp only [Act.put, List.setIfInBounds_toArray, List.set_cons_zero, List.set_cons_succ]
        refine wpAnyH_take (i := 3) (oi := { dst := some 15, op := Op.move (Operand.tmp 5), type := 3, pos := "outright.go:32", after := #[], guard := none }) (v := ?_) rfl (by kernel_rfl) (by kernel_rfl) (by kernel_rfl) (fun _ _ _ h => h) (Or.inl ⟨by rfl, ?_⟩) (by assumption) ?_
        rotate_left
        · (intro w hSw; (try dsimp only at hSw); go_simp); first | done | with_reducible rfl
        simp only [Act.put, List.setIfInBounds_toArray, List.set_cons_zero, List.set_cons_succ]
        refine wpAnyH_take (i := 4) (oi := { dst := some 16, op := Op.indexAddr 39 (Operand.tmp 14) (Operand.tmp 15), type := 0, pos := "outright.go:32", after := #[{ on := 2, ground := Ground.data }, { on := 3, ground := Ground.data }], guard := none }) (v := ?_) rfl (by kernel_rfl) (by kernel_rfl) (by kernel_rfl) (fun _ _ _ h => h) (Or.inl ⟨by rfl, ?_⟩) (by assumption) ?_
        rotate_left
        · (intro w hSw; (try dsimp only at hSw); go_simp); first | done | with_reducible rfl
        simp only [Act.put, List.setIfInBounds_toArray, List.set_cons_zero, List.set_cons_succ]
        refine wpAnyH_take (i := 5) (oi := { dst := some 17, op := Op.load 42 (Operand.tmp 16), type := 42, pos := "outright.go:32", after := #[{ on := 4, ground := Ground.data }], guard := none }) (v := ?_) rfl (by kernel_rfl) (by kernel_rfl) (by kernel_rfl) (fun _ _ _ h => h) (Or.inl ⟨by rfl, ?_⟩) (by assumption) ?_
        rotate_left
        · (intro w hSw; (try dsimp only at hSw); have h3 := run_laQ hSw.2.2; go_simp); first | done | with_reducible rfl
        simp only [Act.put, List.setIfInBounds_toArray, List.set_cons_zero, List.set_cons_succ]
        refine wpAnyH_take (i := 6) (oi := { dst := some 18, op := Op.load 3 (Operand.tmp 3), type := 3, pos := "outright.go:32", after := #[], guard := none }) (v := ?_) rfl (by kernel_rfl) (by kernel_rfl) (by kernel_rfl) (fun _ _ _ h => h) (Or.inl ⟨by rfl, ?_⟩) (by assumption) ?_
        rotate_left
        · (intro w hSw; (try dsimp only at hSw); have h2 := hSw.2.1; go_simp); first | done | with_reducible rfl
        simp only [Act.put, List.setIfInBounds_toArray, List.set_cons_zero, List.set_cons_succ]
        refine wpAnyH_ready (rs := [0, 7]) (by kernel_rfl) (by simp) ?_
        refine AllReadyH.cons rfl (fun K hK => ?_) (AllReadyH.cons rfl (fun K hK => ?_) AllReadyH.nil)
        · go_simp
          refine hK.out _ _ (HSS.out _ HID.out.kl.block) (fun hHeld => ?_)
          clear hK K
          refine wpAnyH_ready (rs := [7]) (by kernel_rfl) (by simp) ?_
          refine AllReadyH.cons rfl (fun K hK => ?_) ?_
          rotate_left
          · exact AllReadyH.nil
          go_simp
          go_wp2_with fail
          refine HF.out.mono ?_
          rintro r wx ⟨rfl, bx⟩
          have IX := HID.out.below bx
          have HIX := hide IX
          have x0x := IX.v2.c
          clear IX bx
          refine hK.out _ _ (HSS.out _ HIX.out.kl.block) (fun hHeld => ?_)
          clear hK K
          refine wpAnyH_ready (rs := [8]) (by kernel_rfl) (by simp) ?_
          refine AllReadyH.cons rfl (fun K hK => ?_) ?_
          rotate_left
          · exact AllReadyH.nil
          go_simp
          go_wp2_with fail
          refine (ask_ok HIX.out.rl HOk.out.kind HPr.out).mono ?_
          rintro r w2 ⟨rfl, M2⟩
          obtain ⟨so2, sc2, IA⟩ := HIX.out.ask M2
          have HIA := hide IA
          have x0a := IA.v2.c
          have IL := IA.below (below_new w2 (.cells (GC (asG Z s.kind)) 29))
          have HIL := hide IL
          have x0l := IL.v2.c
          obtain ⟨bo, c2, w4, hrun, R4, A4⟩ := IA.gr.runs (L := [asG Z s.kind]) (cs := GC (asG Z s.kind)) (m := 1) rfl (gcs_lit _) HB.out 24
          have IB := HIA.out.app R4 A4
          have HI4 := hide IB
          have y4 := IB.1.c
          have z4 := IB.1.z
          clear M2 IA IL IB R4 A4
          refine hK.out _ _ (HSS.out _ HIA.out.kl.block) (fun hHeld => ?_)
          clear hK K
          refine wpAnyH_ready (rs := [9]) (by kernel_rfl) (by simp) ?_
          refine AllReadyH.cons rfl (fun K hK => ?_) ?_
          rotate_left
          · exact AllReadyH.nil
          go_simp
          refine hK.out _ _ (HSS.out _ HIL.out.kl.block) (fun hHeld => ?_)
          clear hK K
          refine wpAnyH_ready (rs := [10]) (by kernel_rfl) (by simp) ?_
          refine AllReadyH.cons rfl (fun K hK => ?_) ?_
          rotate_left
          · exact AllReadyH.nil
          refine step_appG rfl (.tmp 12) (.tmp 21) rfl rfl rfl hrun ?_
          simp only [Act.put, List.setIfInBounds_toArray]
          refine hK.out _ _ (HSS.out _ (fun j h1 h2 h3 => (HI4.out.2.1 j h1).trans (HIA.out.kl.block j h1 h2 h3))) (fun hHeld => ?_)
          clear hK K
          refine wpAnyH_ready (rs := [11]) (by kernel_rfl) (by simp) ?_
          refine AllReadyH.cons rfl (fun K hK => ?_) ?_
          rotate_left
          · exact AllReadyH.nil
          go_simp
          refine hK.out _ _ (HSS.out _ HI4.out.2.2.kl.block) (fun hHeld => ?_)
          clear hK K
          refine wpAnyH_done (by kernel_rfl) ?_ _
          clear hHeld
          have HI5 := hide HI4.out.2.2
          clear HI HID HIX HIA HIL HI4
          go_wp2_with fail
          go_roundw
          case rel => exact ⟨ln + 1, HLT.out, (by rw [HK1.out]), _, _, _, _, _, _, _, _, HI5.out, rfl, (by rw [HE.out, HD.out, rdS_ok HPr.out]; simp)⟩
          case measure => rw [HK1.out]; have := HLT.out; simp [intOf]; omega
        · go_simp
          go_wp2_with fail
          refine HF.out.mono ?_
          rintro r wx ⟨rfl, bx⟩
          have IX := HID.out.below bx
          have HIX := hide IX
          have x0x := IX.v2.c
          clear IX bx
          refine hK.out _ _ (HSS.out _ HIX.out.kl.block) (fun hHeld => ?_)
          clear hK K
          refine wpAnyH_ready (rs := [0, 8]) (by kernel_rfl) (by simp) ?_
          refine AllReadyH.cons rfl (fun K hK => ?_) (AllReadyH.cons rfl (fun K hK => ?_) AllReadyH.nil)
          · go_simp
            refine hK.out _ _ (HSS.out _ HIX.out.kl.block) (fun hHeld => ?_)
            clear hK K
            refine wpAnyH_ready (rs := [8]) (by kernel_rfl) (by simp) ?_
            refine AllReadyH.cons rfl (fun K hK => ?_) ?_
            rotate_left
            · exact AllReadyH.nil
            go_simp
            go_wp2_with fail
            refine (ask_ok HIX.out.rl HOk.out.kind HPr.out).mono ?_
            rintro r w2 ⟨rfl, M2⟩
            obtain ⟨so2, sc2, IA⟩ := HIX.out.ask M2
            have HIA := hide IA
            have x0a := IA.v2.c
            have IL := IA.below (below_new w2 (.cells (GC (asG Z s.kind)) 29))
            have HIL := hide IL
            have x0l := IL.v2.c
            obtain ⟨bo, c2, w4, hrun, R4, A4⟩ := IA.gr.runs (L := [asG Z s.kind]) (cs := GC (asG Z s.kind)) (m := 1) rfl (gcs_lit _) HB.out 24
            have IB := HIA.out.app R4 A4
            have HI4 := hide IB
            have y4 := IB.1.c
            have z4 := IB.1.z
            clear M2 IA IL IB R4 A4
            refine hK.out _ _ (HSS.out _ HIA.out.kl.block) (fun hHeld => ?_)
            clear hK K
            refine wpAnyH_ready (rs := [9]) (by kernel_rfl) (by simp) ?_
            refine AllReadyH.cons rfl (fun K hK => ?_) ?_
            rotate_left
            · exact AllReadyH.nil
            go_simp
            refine hK.out _ _ (HSS.out _ HIL.out.kl.block) (fun hHeld => ?_)
            clear hK K
            refine wpAnyH_ready (rs := [10]) (by kernel_rfl) (by simp) ?_
            refine AllReadyH.cons rfl (fun K hK => ?_) ?_
            rotate_left
            · exact AllReadyH.nil
            refine step_appG rfl (.tmp 12) (.tmp 21) rfl rfl rfl hrun ?_
            simp only [Act.put, List.setIfInBounds_toArray]
            refine hK.out _ _ (HSS.out _ (fun j h1 h2 h3 => (HI4.out.2.1 j h1).trans (HIA.out.kl.block j h1 h2 h3))) (fun hHeld => ?_)
            clear hK K
            refine wpAnyH_ready (rs := [11]) (by kernel_rfl) (by simp) ?_
            refine AllReadyH.cons rfl (fun K hK => ?_) ?_
            rotate_left
            · exact AllReadyH.nil
            go_simp
            refine hK.out _ _ (HSS.out _ HI4.out.2.2.kl.block) (fun hHeld => ?_)
            clear hK K
            refine wpAnyH_done (by kernel_rfl) ?_ _
            clear hHeld
            have HI5 := hide HI4.out.2.2
            clear HI HID HIX HIA HIL HI4
            go_wp2_with fail
            go_roundw
            case rel => exact ⟨ln + 1, HLT.out, (by rw [HK1.out]), _, _, _, _, _, _, _, _, HI5.out, rfl, (by rw [HE.out, HD.out, rdS_ok HPr.out]; simp)⟩
            case measure => rw [HK1.out]; have := HLT.out; simp [intOf]; omega
          · go_simp
            go_wp2_with fail
            refine (ask_ok HIX.out.rl HOk.out.kind HPr.out).mono ?_
            rintro r w2 ⟨rfl, M2⟩
            obtain ⟨so2, sc2, IA⟩ := HIX.out.ask M2
            have HIA := hide IA
            have x0a := IA.v2.c
            have IL := IA.below (below_new w2 (.cells (GC (asG Z s.kind)) 29))
            have HIL := hide IL
            have x0l := IL.v2.c
            obtain ⟨bo, c2, w4, hrun, R4, A4⟩ := IA.gr.runs (L := [asG Z s.kind]) (cs := GC (asG Z s.kind)) (m := 1) rfl (gcs_lit _) HB.out 24
            have IB := HIA.out.app R4 A4
            have HI4 := hide IB
            have y4 := IB.1.c
            have z4 := IB.1.z
            clear M2 IA IL IB R4 A4
            refine hK.out _ _ (HSS.out _ HIA.out.kl.block) (fun hHeld => ?_)
            clear hK K
            refine wpAnyH_ready (rs := [0, 9]) (by kernel_rfl) (by simp) ?_
            refine AllReadyH.cons rfl (fun K hK => ?_) (AllReadyH.cons rfl (fun K hK => ?_) AllReadyH.nil)
            · go_simp
              refine hK.out _ _ (HSS.out _ HIA.out.kl.block) (fun hHeld => ?_)
              clear hK K
              refine wpAnyH_ready (rs := [9]) (by kernel_rfl) (by simp) ?_
              refine AllReadyH.cons rfl (fun K hK => ?_) ?_
              rotate_left
              · exact AllReadyH.nil
              go_simp
              refine hK.out _ _ (HSS.out _ HIL.out.kl.block) (fun hHeld => ?_)
              clear hK K
              refine wpAnyH_ready (rs := [10]) (by kernel_rfl) (by simp) ?_
              refine AllReadyH.cons rfl (fun K hK => ?_) ?_
              rotate_left
              · exact AllReadyH.nil
              refine step_appG rfl (.tmp 12) (.tmp 21) rfl rfl rfl hrun ?_
              simp only [Act.put, List.setIfInBounds_toArray]
              refine hK.out _ _ (HSS.out _ (fun j h1 h2 h3 => (HI4.out.2.1 j h1).trans (HIA.out.kl.block j h1 h2 h3))) (fun hHeld => ?_)
              clear hK K
              refine wpAnyH_ready (rs := [11]) (by kernel_rfl) (by simp) ?_
              refine AllReadyH.cons rfl (fun K hK => ?_) ?_
              rotate_left
              · exact AllReadyH.nil
              go_simp
              refine hK.out _ _ (HSS.out _ HI4.out.2.2.kl.block) (fun hHeld => ?_)
              clear hK K
              refine wpAnyH_done (by kernel_rfl) ?_ _
              clear hHeld
              have HI5 := hide HI4.out.2.2
              clear HI HID HIX HIA HIL HI4
              go_wp2_with fail
              go_roundw
              case rel => exact ⟨ln + 1, HLT.out, (by rw [HK1.out]), _, _, _, _, _, _, _, _, HI5.out, rfl, (by rw [HE.out, HD.out, rdS_ok HPr.out]; simp)⟩
              case measure => rw [HK1.out]; have := HLT.out; simp [intOf]; omega
            · go_simp
              refine hK.out _ _ (HSS.out _ HIL.out.kl.block) (fun hHeld => ?_)
              clear hK K
              refine wpAnyH_ready (rs := [0]) (by kernel_rfl) (by simp) ?_
              refine AllReadyH.cons rfl (fun K hK => ?_) ?_
              rotate_left
              · exact AllReadyH.nil
              go_simp
              refine hK.out _ _ (HSS.out _ HIL.out.kl.block) (fun hHeld => ?_)
              clear hK K
              refine wpAnyH_ready (rs := [10]) (by kernel_rfl) (by simp) ?_
              refine AllReadyH.cons rfl (fun K hK => ?_) ?_
              rotate_left
              · exact AllReadyH.nil
              refine step_appG rfl (.tmp 12) (.tmp 21) rfl rfl rfl hrun ?_
              simp only [Act.put, List.setIfInBounds_toArray]
              refine hK.out _ _ (HSS.out _ (fun j h1 h2 h3 => (HI4.out.2.1 j h1).trans (HIA.out.kl.block j h1 h2 h3))) (fun hHeld => ?_)
              clear hK K
              refine wpAnyH_ready (rs := [11]) (by kernel_rfl) (by simp) ?_
              refine AllReadyH.cons rfl (fun K hK => ?_) ?_
              rotate_left
              · exact AllReadyH.nil
              go_simp
              refine hK.out _ _ (HSS.out _ HI4.out.2.2.kl.block) (fun hHeld => ?_)
              clear hK K
              refine wpAnyH_done (by kernel_rfl) ?_ _
              clear hHeld
              have HI5 := hide HI4.out.2.2
              clear HI HID HIX HIA HIL HI4
              go_wp2_with fail
              go_roundw
              case rel => exact ⟨ln + 1, HLT.out, (by rw [HK1.out]), _, _, _, _, _, _, _, _, HI5.out, rfl, (by rw [HE.out, HD.out, rdS_ok HPr.out]; simp)⟩
              case measure => rw [HK1.out]; have := HLT.out; simp [intOf]; omega
      · have HPr := hide hp
        clear hp
        go_wp2_with fail
        refine wp_region_held_drew (S := SS g1 g3 (some ad) sn sc wide (ad.add (ln * 5)) s) (by kernel_rfl) (HSS.out _ HID.out.kl.block) (fun hHeld => ?_)
        refine wpAnyH_take (i := 1) (oi := { dst := some 13, op := Op.move (Operand.tmp 0), type := 25, pos := "outright.go:32", after := #[], guard := none }) (v := ?_) rfl (by kernel_rfl) (by kernel_rfl) (by kernel_rfl) (fun _ _ _ h => h) (Or.inl ⟨by rfl, ?_⟩) (by assumption) ?_
        rotate_left
        · (intro w hSw; (try dsimp only at hSw); go_simp); first | done | with_reducible rfl
        simp only [Act.put, List.setIfInBounds_toArray, List.set_cons_zero, List.set_cons_succ]
        refine wpAnyH_take (i := 2) (oi := { dst := some 14, op := Op.load 39 (Operand.tmp 1), type := 39, pos := "outright.go:32", after := #[], guard := none }) (v := ?_) rfl (by kernel_rfl) (by kernel_rfl) (by kernel_rfl) (fun _ _ _ h => h) (Or.inl ⟨by rfl, ?_⟩) (by assumption) ?_
        rotate_left
        · (intro w hSw; (try dsimp only at hSw); have h1 := hSw.1; go_simp); first | done | with_reducible rfl
        simp only [Act.put, List.setIfInBounds_toArray, List.set_cons_zero, List.set_cons_succ]
        refine wpAnyH_take (i := 3) (oi := { dst := some 15, op := Op.move (Operand.tmp 5), type := 3, pos := "outright.go:32", after := #[], guard := none }) (v := ?_) rfl (by kernel_rfl) (by kernel_rfl) (by kernel_rfl) (fun _ _ _ h => h) (Or.inl ⟨by rfl, ?_⟩) (by assumption) ?_
        rotate_left
        · (intro w hSw; (try dsimp only at hSw); go_simp); first | done | with_reducible rfl
        simp only [Act.put, List.setIfInBounds_toArray, List.set_cons_zero, List.set_cons_succ]
        refine wpAnyH_take (i := 4) (oi := { dst := some 16, op := Op.indexAddr 39 (Operand.tmp 14) (Operand.tmp 15), type := 0, pos := "outright.go:32", after := #[{ on := 2, ground := Ground.data }, { on := 3, ground := Ground.data }], guard := none }) (v := ?_) rfl (by kernel_rfl) (by kernel_rfl) (by kernel_rfl) (fun _ _ _ h => h) (Or.inl ⟨by rfl, ?_⟩) (by assumption) ?_
        rotate_left
        · (intro w hSw; (try dsimp only at hSw); go_simp); first | done | with_reducible rfl
        simp only [Act.put, List.setIfInBounds_toArray, List.set_cons_zero, List.set_cons_succ]
        refine wpAnyH_take (i := 5) (oi := { dst := some 17, op := Op.load 42 (Operand.tmp 16), type := 42, pos := "outright.go:32", after := #[{ on := 4, ground := Ground.data }], guard := none }) (v := ?_) rfl (by kernel_rfl) (by kernel_rfl) (by kernel_rfl) (fun _ _ _ h => h) (Or.inl ⟨by rfl, ?_⟩) (by assumption) ?_
        rotate_left
        · (intro w hSw; (try dsimp only at hSw); have h3 := run_laQ hSw.2.2; go_simp); first | done | with_reducible rfl
        simp only [Act.put, List.setIfInBounds_toArray, List.set_cons_zero, List.set_cons_succ]
        refine wpAnyH_take (i := 6) (oi := { dst := some 18, op := Op.load 3 (Operand.tmp 3), type := 3, pos := "outright.go:32", after := #[], guard := none }) (v := ?_) rfl (by kernel_rfl) (by kernel_rfl) (by kernel_rfl) (fun _ _ _ h => h) (Or.inl ⟨by rfl, ?_⟩) (by assumption) ?_
        rotate_left
        · (intro w hSw; (try dsimp only at hSw); have h2 := hSw.2.1; go_simp); first | done | with_reducible rfl
        simp only [Act.put, List.setIfInBounds_toArray, List.set_cons_zero, List.set_cons_succ]
        refine wpAnyH_ready (rs := [0, 7]) (by kernel_rfl) (by simp) ?_
        refine AllReadyH.cons rfl (fun K hK => ?_) (AllReadyH.cons rfl (fun K hK => ?_) AllReadyH.nil)
        · go_simp
          refine hK.out _ _ (HSS.out _ HID.out.kl.block) (fun hHeld => ?_)
          clear hK K
          refine wpAnyH_ready (rs := [7]) (by kernel_rfl) (by simp) ?_
          refine AllReadyH.cons rfl (fun K hK => ?_) ?_
          rotate_left
          · exact AllReadyH.nil
          go_simp
          go_wp2_with fail
          refine HF.out.mono ?_
          rintro r wx ⟨rfl, bx⟩
          have IX := HID.out.below bx
          have HIX := hide IX
          have x0x := IX.v2.c
          clear IX bx
          refine hK.out _ _ (HSS.out _ HIX.out.kl.block) (fun hHeld => ?_)
          clear hK K
          refine wpAnyH_ready (rs := [8]) (by kernel_rfl) (by simp) ?_
          refine AllReadyH.cons rfl (fun K hK => ?_) ?_
          rotate_left
          · exact AllReadyH.nil
          go_simp
          go_wp2_with fail
          refine (ask_bad HIX.out.rl HOk.out.kind rfl HPr.out).mono ?_
          rintro r w2 ⟨rfl, hG⟩
          have HFn : Hid (CP n0 w0 g g2 wide P Z0 (.panicked (ups g)) w2) := by
            have hN : rdS wide P Z0 = (G, asE Z s.kind (fitN s wide), Z) := by
              rw [HE.out, HD.out, rdS_bad HPr.out]
              simp
            have hB := HIX.out.bad hG
            exact ⟨hB.1, lo, ln, lc, hB.2, Or.inr ⟨rfl, by rw [hN]; exact HPr.out, by rw [hN]; exact hG.1⟩⟩
          clear hG
          go_wp2_with fail
          exact ⟨rfl, HFn.out⟩
        · go_simp
          go_wp2_with fail
          refine HF.out.mono ?_
          rintro r wx ⟨rfl, bx⟩
          have IX := HID.out.below bx
          have HIX := hide IX
          have x0x := IX.v2.c
          clear IX bx
          refine hK.out _ _ (HSS.out _ HIX.out.kl.block) (fun hHeld => ?_)
          clear hK K
          refine wpAnyH_ready (rs := [0, 8]) (by kernel_rfl) (by simp) ?_
          refine AllReadyH.cons rfl (fun K hK => ?_) (AllReadyH.cons rfl (fun K hK => ?_) AllReadyH.nil)
          · go_simp
            refine hK.out _ _ (HSS.out _ HIX.out.kl.block) (fun hHeld => ?_)
            clear hK K
            refine wpAnyH_ready (rs := [8]) (by kernel_rfl) (by simp) ?_
            refine AllReadyH.cons rfl (fun K hK => ?_) ?_
            rotate_left
            · exact AllReadyH.nil
            go_simp
            go_wp2_with fail
            refine (ask_bad HIX.out.rl HOk.out.kind rfl HPr.out).mono ?_
            rintro r w2 ⟨rfl, hG⟩
            have HFn : Hid (CP n0 w0 g g2 wide P Z0 (.panicked (ups g)) w2) := by
              have hN : rdS wide P Z0 = (G, asE Z s.kind (fitN s wide), Z) := by
                rw [HE.out, HD.out, rdS_bad HPr.out]
                simp
              have hB := HIX.out.bad hG
              exact ⟨hB.1, lo, ln, lc, hB.2, Or.inr ⟨rfl, by rw [hN]; exact HPr.out, by rw [hN]; exact hG.1⟩⟩
            clear hG
            go_wp2_with fail
            exact ⟨rfl, HFn.out⟩
          · go_simp
            go_wp2_with fail
            refine (ask_bad HIX.out.rl HOk.out.kind rfl HPr.out).mono ?_
            rintro r w2 ⟨rfl, hG⟩
            have HFn : Hid (CP n0 w0 g g2 wide P Z0 (.panicked (ups g)) w2) := by
              have hN : rdS wide P Z0 = (G, asE Z s.kind (fitN s wide), Z) := by
                rw [HE.out, HD.out, rdS_bad HPr.out]
                simp
              have hB := HIX.out.bad hG
              exact ⟨hB.1, lo, ln, lc, hB.2, Or.inr ⟨rfl, by rw [hN]; exact HPr.out, by rw [hN]; exact hG.1⟩⟩
            clear hG
            go_wp2_with fail
            exact ⟨rfl, HFn.out⟩
    · obtain rfl : ln = sn := by omega
      have hN : rdS wide P Z0 = (G, 0, Z) := by
        rw [HE.out, List.drop_of_length_le (by rw [HP.out]; exact Nat.le_refl _)]
        simp [rdS]
      have HF : Hid (CP n0 w0 g g2 wide P Z0 (.returned (.tuple #[])) wr) := by
        refine ⟨HI.out.kl, lo, ln, lc, HI.out.v2, Or.inl ⟨rfl, by rw [hN], ?_, by rw [hN]; exact HI.out.gr, HI.out.ge⟩⟩
        rw [hN]
        have := HI.out.rl.r
        rw [← HI.out.rl.len] at this
        exact ⟨_, _, this⟩
      clear hN
      go_wp2_with fail
      go_end0
      exact HF.out
end Go.Proofs.Ytflinfmhmokfhaa
