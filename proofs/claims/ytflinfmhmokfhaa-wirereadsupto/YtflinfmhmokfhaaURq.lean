/- WireReads: the roomy copy; its first closure; both readings whole. -/
import Derived.Test.YtflinfmhmokfhaaURp
import Derived.Laws.CopyRow
import Derived.Laws.MakeOwn
namespace Go.Proofs.Ytflinfmhmokfhaa
open Go.RowKit
attribute [local go_sem ↓] ldG_eq stG_eq ldK_eq stK_eq
attribute [local go_sem] GC_size KC_size to_GC to_KC fold_GC1 KC_s0 KC_s1
variable {n0 : Nat} {w0 w w' w2 wr : World} {g gk ga gg q : Nat} {bz : Option Nat} {ao ro so lo : Option Addr} {n c rn rc sn sc ln lc : Nat} {Z : List Int} {P : List Ask} {G : List Got}

theorem made_bytes (k : Nat) : (madeCells #[.int .u8 0] k).toList = bcs (List.replicate k 0) := by
  refine List.ext_getElem? fun j => ?_
  by_cases hj : j < k
  · have h4 : (madeCells #[.int .u8 0] k).toList[j]? = some ((#[.int .u8 0] : Array Value)[j % 1]!) := by simp [madeCells, hj]
    rw [h4]
    have : j % 1 = 0 := Nat.mod_one j
    unfold bcs
    rw [List.getElem?_map, List.getElem?_replicate, if_pos hj, this]
    rfl
  · rw [List.getElem?_eq_none (by simp [madeCells]; omega), List.getElem?_eq_none (by rw [bcs_length, List.length_replicate]; omega)]
/-- the copy with nine bytes of spare room -/
def FC (w : World) (q : Nat) (Z : List Int) : Prop := w.heap[q]? = some (.cells (bcs (Z ++ List.replicate 9 0)).toArray 5 (0, 0))
theorem FC.lt (h : FC w q Z) : q < w.heap.size := (Array.getElem?_eq_some_iff.1 h).1
theorem FC.of (h : FC w q Z) (e : w'.heap[q]? = w.heap[q]?) : FC w' q Z := e.trans h
theorem FC.at (h : FC w q Z) (j : Nat) (hj : j < Z.length + 9) : w.cell? ⟨q, j, none⟩ = some (.int .u8 ((Z ++ List.replicate 9 0).getD j 0)) := by
  unfold FC at h
  have := bcs_at (Z ++ List.replicate 9 0) j (by rw [List.length_append, List.length_replicate]; exact hj)
  generalize Z ++ List.replicate 9 0 = L at h this ⊢
  simp only [World.cell?, h, List.getElem?_toArray]
  exact this
theorem FC.src (h : FC w q Z) (ho : ∀ t, 0 ≤ Z.getD t 0 ∧ Z.getD t 0 ≤ 255) (hn : Z.length = n) (m : Nat) : Src w (some ⟨q, 0, none⟩) n m Z := by
  refine ⟨hn, fun h => (by cases h), fun ad ha t ht => ?_, ho⟩
  obtain rfl := Option.some.inj ha
  rw [Addr.add_lit, Nat.zero_add, h.at t (by omega), List.getD_eq_getElem?_getD, List.getElem?_append_left (by omega), ← List.getD_eq_getElem?_getD]
theorem make9 (w : World) (n m : Nat) (hm : n + 9 = m) (h : n ≤ 140737488355000) : ∃ w' : World, (Instr.makeSlice 22 (.int .i64 (m : Int)) (.int .i64 (m : Int))).run Try.prog w = .ok (.slice (some ⟨w.heap.size, 0, none⟩) m m) w' ∧ w'.heap[w.heap.size]? = some (.cells (madeCells #[.int .u8 0] m) 5 (0, 0)) ∧ Below w.heap.size w w' ∧ w'.heap.size = w.heap.size + 1 := by
  obtain ⟨i, hi, hz, hs, hb⟩ : ∃ i, Try.prog.info? 5 = some i ∧ i.zero = some (.int .u8 0) ∧ i.size = 1 ∧ i.bytes = 1 := by
    have := infoB
    cases hx : Try.prog.info? 5 with
    | none => rw [hx] at this; simp at this
    | some i => rw [hx] at this; simp at this; exact ⟨i, rfl, this.1, this.2.1, this.2.2⟩
  have hr := run_make (P := Try.prog) w 22 5 i _ Try.underlying22 hi hz .i64 .i64 (m : Int) (m : Int) (by omega) (Int.le_refl _) (by rw [hb]; omega) (by omega)
  simp only [Int.toNat_natCast, hs, Nat.mul_one] at hr
  have e : (Value.int IntKind.u8 0).cells = #[.int .u8 0] := by simp [Value.cells]
  rw [e] at hr
  exact ⟨_, hr, heap_alloc_new w _, below_new w _, World.size_alloc w _⟩
theorem copy9 (w : World) (q n m c : Nat) (ao : Option Addr) (Z : List Int) (hm : n + 9 = m) (S : Src w ao n c Z) (hq : w.heap[q]? = some (.cells (madeCells #[.int .u8 0] m) 5 (0, 0))) :
    ∃ w' : World, (Builtin.copy_ #[22, 22] 3 #[.slice (some ⟨q, 0, none⟩) m m, .slice ao n c]).run Try.prog w = .ok (goInt n) w' ∧ FC w' q Z ∧ (∀ k, k ≠ q → w'.heap[k]? = w.heap[k]?) ∧ w'.heap.size = w.heap.size ∧ w'.os = w.os ∧ w'.tape = w.tape ∧ w'.output = w.output := by
  have hl := S.1
  cases ao with
  | none =>
    obtain ⟨rfl, rfl⟩ := S.2.1 rfl
    have hZ := List.eq_nil_of_length_eq_zero hl
    subst hZ
    refine ⟨w, run_copy_nil Try.prog w 22 22 3 5 ⟨q, 0, none⟩ m m Try.underlying22 (by kernel_rfl), ?_, fun k _ => rfl, rfl, rfl, rfl, rfl⟩
    unfold FC
    rw [hq]
    have := made_bytes m
    rw [show m = 9 by omega] at this ⊢
    rw [List.nil_append, ← this]
  | some a =>
    have hc : (bcs Z).length = Nat.min n m := by rw [bcs_length, hl]; have : n ≤ m := by omega
                                                 exact (Nat.min_eq_left this).symm
    have hr := run_copy_row (P := Try.prog) w 22 22 3 5 q 0 m m a n c (madeCells #[.int .u8 0] m) 5 (bcs Z) Try.underlying22 (by kernel_rfl) hq hc (fun j v hj => by
      have hjl : j < Z.length := by rw [← bcs_length]; exact (List.getElem?_eq_some_iff.1 hj).1
      rw [bcs_at Z j hjl] at hj
      rw [S.2.2.1 a rfl j (by omega)]
      exact hj) (by rw [bcs_length, ← Array.length_toList, made_bytes, bcs_length, List.length_replicate]; omega) (bcs_one Z)
    refine ⟨_, by rw [bcs_length, hl] at hr; exact hr, ?_, fun k hk => setRow_other _ _ _ _ hk, by simp [World.setRow], rfl, rfl, rfl⟩
    unfold FC
    rw [setRow_heap w q _ _ _ _ hq]
    congr 2
    rw [made_bytes, bcs_append]
    congr 1
    rw [List.take_zero, List.nil_append]
    congr 1
    unfold bcs
    rw [← List.map_drop, List.drop_replicate, show m - (0 + n) = 9 by omega]
/-! ### the first closure -/
def gTwo : Got := ⟨2, false, ⟨#[]⟩⟩
theorem ct_two : ctE [2, 5, 6] 1 = 0 := by decide
theorem nmV_two : nmV [2, 5, 6] = 2 := by decide
theorem nmK_two : nmK [2, 5, 6] = 1 := by decide
def C1P (n0 : Nat) (w0 : World) (g gg : Nat) (r : Ending) (w' : World) : Prop :=
  Kl n0 w0 w' g gg ∧ r = .returned (.tuple #[]) ∧ (∃ so sc, Rdr w' g so 2 sc 0 false) ∧ ∃ lo lc, Var w' gg (.slice lo 1 lc) 24 ∧ GR w' lo 1 lc [gTwo] ∧ ∀ k, blk lo = some k → n0 ≤ k
set_option maxRecDepth 100000 in
set_option maxHeartbeats 4000000 in
theorem close1_any (h : CI n0 w0 w0 g gg bz ro 3 rc [2, 5, 6] none 0 0 []) : Calls Try.prog 7 #[ptr g, ptr gg] w0 fun r w' => C1P n0 w0 g gg r w' := by
  have ID := h.below (below_drew1 w0)
  have HIX := hide ID
  have x0 := ID.v2.c
  have hK := ask5_ok (n := 1) ID.rl ct_two
  rw [nmV_two, nmK_two] at hK
  have HA := hide hK
  clear h ID hK
  go_enter Try.func7, Try.ntmps7
  go_wp2_with fail
  refine wp_region_held_drew (S := fun _ => True) (by kernel_rfl) (trivial) (fun hHeld => ?_)
  refine wpAnyH_take (i := 1) (oi := { dst := some 4, op := Op.move (Operand.tmp 0), type := 25, pos := "law.go:137", after := #[], guard := none }) (v := ?_) rfl (by kernel_rfl) (by kernel_rfl) (by kernel_rfl) (fun _ _ _ h => h) (Or.inl ⟨by rfl, ?_⟩) (by assumption) ?_
  rotate_left
  · (intro w hSw; (try dsimp only at hSw); go_simp); first | done | with_reducible rfl
  simp only [Act.put, List.setIfInBounds_toArray, List.set_cons_zero, List.set_cons_succ]
  refine wpAnyH_take (i := 2) (oi := { dst := some 5, op := Op.build 32 #[(0, Operand.const (Value.int IntKind.i64 5)), (1, Operand.const (Value.int IntKind.i64 1))], type := 32, pos := "law.go:137", after := #[], guard := none }) (v := .agg (KC ⟨5, 1⟩)) rfl (by kernel_rfl) (by kernel_rfl) (by kernel_rfl) (fun _ _ _ h => h) (Or.inl ⟨by rfl, ?_⟩) (by assumption) ?_
  skip
  · (intro w hSw; (try dsimp only at hSw); (first | kernel_rfl | (go_simp; rfl))); first | done | with_reducible rfl
  simp only [Act.put, List.setIfInBounds_toArray, List.set_cons_zero, List.set_cons_succ]
  refine wpAnyH_ready (rs := [0, 3]) (by kernel_rfl) (by simp) ?_
  refine AllReadyH.cons rfl (fun K hK => ?_) (AllReadyH.cons rfl (fun K hK => ?_) AllReadyH.nil)
  · go_simp
    refine hK.out _ _ trivial (fun hHeld => ?_)
    clear hK K
    refine wpAnyH_ready (rs := [3]) (by kernel_rfl) (by simp) ?_
    refine AllReadyH.cons rfl (fun K hK => ?_) ?_
    rotate_left
    · exact AllReadyH.nil
    go_simp
    go_wp2_with fail
    refine HA.out.mono ?_
    rintro r w2 ⟨rfl, M2⟩
    obtain ⟨so2, sc2, IA⟩ := HIX.out.ask M2
    have HIA := hide IA
    have x0a := IA.v2.c
    have IL := IA.below (below_new w2 (.cells (GC ⟨2, false, ⟨#[]⟩⟩) 29))
    have x0l := IL.v2.c
    obtain ⟨bo, c2, w4, hrun, R4, A4⟩ := IA.gr.runs (L := [gTwo]) (cs := GC ⟨2, false, ⟨#[]⟩⟩) (m := 1) rfl (gcs_lit gTwo) (by decide) 24
    have IB := HIA.out.app R4 A4
    have HI4 := hide IB
    have y4 := IB.1.c
    have z4 := IB.1.z
    clear M2 IA IL IB R4 A4
    refine hK.out _ _ trivial (fun hHeld => ?_)
    clear hK K
    refine wpAnyH_ready (rs := [4]) (by kernel_rfl) (by simp) ?_
    refine AllReadyH.cons rfl (fun K hK => ?_) ?_
    rotate_left
    · exact AllReadyH.nil
    go_simp
    refine hK.out _ _ trivial (fun hHeld => ?_)
    clear hK K
    refine wpAnyH_ready (rs := [5]) (by kernel_rfl) (by simp) ?_
    refine AllReadyH.cons rfl (fun K hK => ?_) ?_
    rotate_left
    · exact AllReadyH.nil
    refine step_appG rfl (.tmp 3) (.tmp 7) rfl rfl rfl hrun ?_
    simp only [Act.put, List.setIfInBounds_toArray]
    refine hK.out _ _ trivial (fun hHeld => ?_)
    clear hK K
    refine wpAnyH_ready (rs := [6]) (by kernel_rfl) (by simp) ?_
    refine AllReadyH.cons rfl (fun K hK => ?_) ?_
    rotate_left
    · exact AllReadyH.nil
    go_simp
    refine hK.out _ _ trivial (fun hHeld => ?_)
    clear hK K
    refine wpAnyH_done (by kernel_rfl) ?_ _
    clear hHeld
    have HI5 := hide HI4.out.2.2
    clear HIX HIA HI4
    go_wp2_with fail
    go_end0
    exact ⟨HI5.out.kl, rfl, ⟨_, _, HI5.out.rl.r⟩, _, _, HI5.out.v2, HI5.out.gr, HI5.out.ge⟩
  · go_simp
    go_wp2_with fail
    refine HA.out.mono ?_
    rintro r w2 ⟨rfl, M2⟩
    obtain ⟨so2, sc2, IA⟩ := HIX.out.ask M2
    have HIA := hide IA
    have x0a := IA.v2.c
    have IL := IA.below (below_new w2 (.cells (GC ⟨2, false, ⟨#[]⟩⟩) 29))
    have x0l := IL.v2.c
    obtain ⟨bo, c2, w4, hrun, R4, A4⟩ := IA.gr.runs (L := [gTwo]) (cs := GC ⟨2, false, ⟨#[]⟩⟩) (m := 1) rfl (gcs_lit gTwo) (by decide) 24
    have IB := HIA.out.app R4 A4
    have HI4 := hide IB
    have y4 := IB.1.c
    have z4 := IB.1.z
    clear M2 IA IL IB R4 A4
    refine hK.out _ _ trivial (fun hHeld => ?_)
    clear hK K
    refine wpAnyH_ready (rs := [0, 4]) (by kernel_rfl) (by simp) ?_
    refine AllReadyH.cons rfl (fun K hK => ?_) (AllReadyH.cons rfl (fun K hK => ?_) AllReadyH.nil)
    · go_simp
      refine hK.out _ _ trivial (fun hHeld => ?_)
      clear hK K
      refine wpAnyH_ready (rs := [4]) (by kernel_rfl) (by simp) ?_
      refine AllReadyH.cons rfl (fun K hK => ?_) ?_
      rotate_left
      · exact AllReadyH.nil
      go_simp
      refine hK.out _ _ trivial (fun hHeld => ?_)
      clear hK K
      refine wpAnyH_ready (rs := [5]) (by kernel_rfl) (by simp) ?_
      refine AllReadyH.cons rfl (fun K hK => ?_) ?_
      rotate_left
      · exact AllReadyH.nil
      refine step_appG rfl (.tmp 3) (.tmp 7) rfl rfl rfl hrun ?_
      simp only [Act.put, List.setIfInBounds_toArray]
      refine hK.out _ _ trivial (fun hHeld => ?_)
      clear hK K
      refine wpAnyH_ready (rs := [6]) (by kernel_rfl) (by simp) ?_
      refine AllReadyH.cons rfl (fun K hK => ?_) ?_
      rotate_left
      · exact AllReadyH.nil
      go_simp
      refine hK.out _ _ trivial (fun hHeld => ?_)
      clear hK K
      refine wpAnyH_done (by kernel_rfl) ?_ _
      clear hHeld
      have HI5 := hide HI4.out.2.2
      clear HIX HIA HI4
      go_wp2_with fail
      go_end0
      exact ⟨HI5.out.kl, rfl, ⟨_, _, HI5.out.rl.r⟩, _, _, HI5.out.v2, HI5.out.gr, HI5.out.ge⟩
    · go_simp
      refine hK.out _ _ trivial (fun hHeld => ?_)
      clear hK K
      refine wpAnyH_ready (rs := [0]) (by kernel_rfl) (by simp) ?_
      refine AllReadyH.cons rfl (fun K hK => ?_) ?_
      rotate_left
      · exact AllReadyH.nil
      go_simp
      refine hK.out _ _ trivial (fun hHeld => ?_)
      clear hK K
      refine wpAnyH_ready (rs := [5]) (by kernel_rfl) (by simp) ?_
      refine AllReadyH.cons rfl (fun K hK => ?_) ?_
      rotate_left
      · exact AllReadyH.nil
      refine step_appG rfl (.tmp 3) (.tmp 7) rfl rfl rfl hrun ?_
      simp only [Act.put, List.setIfInBounds_toArray]
      refine hK.out _ _ trivial (fun hHeld => ?_)
      clear hK K
      refine wpAnyH_ready (rs := [6]) (by kernel_rfl) (by simp) ?_
      refine AllReadyH.cons rfl (fun K hK => ?_) ?_
      rotate_left
      · exact AllReadyH.nil
      go_simp
      refine hK.out _ _ trivial (fun hHeld => ?_)
      clear hK K
      refine wpAnyH_done (by kernel_rfl) ?_ _
      clear hHeld
      have HI5 := hide HI4.out.2.2
      clear HIX HIA HI4
      go_wp2_with fail
      go_end0
      exact ⟨HI5.out.kl, rfl, ⟨_, _, HI5.out.rl.r⟩, _, _, HI5.out.v2, HI5.out.gr, HI5.out.ge⟩
end Go.Proofs.Ytflinfmhmokfhaa
