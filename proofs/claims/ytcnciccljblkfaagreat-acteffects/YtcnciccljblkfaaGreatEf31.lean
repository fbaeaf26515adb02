/- BDs LPu LLtr LSrt LDd LShf -/
import Derived.Test.YtcnciccljblkfaaGreatEf27
import Derived.Test.YtcnciccljblkfaaGreatEf30
import Derived.Deep.CutRange
import Derived.Below
import Derived.Test.YtcnciccljblkfaaGreatEf23
import Derived.Laws.MakeOwn
import Derived.Deep.LoopGhost
import Derived.Lib.SlicesCompact
import Derived.Shelf.SlSortCmp.WholeK
import Derived.Test.YtcnciccljblkfaaGreatProg
namespace Go.Proofs.YtcnciccljblkfaaGreat
open Go.RowKit Go.Maps Go.Sort
attribute [local go_sem ↓] ldD_eq stD_eq K.ld28_eq K.st28_eq
attribute [local go_sem] K.cells_EV K.EC_size
theorem keyS : Keyed Tryz.prog 9 := string_keyed Tryz.underlying9
theorem zeroDs (w : World) : (zeroValue 68).run Tryz.prog w = .ok (HsV hs0) w := by kernel_rfl
/-- the dots that stand at a key -/
def dotsS (L : List K.En) (s : ByteArray) : List Rn := (L.filter (fun e => decide (s.size = 0) || decide (e.sku = s))).map dotOf
theorem dotsS_len (L : List K.En) (s : ByteArray) : (dotsS L s).length ≤ L.length := by unfold dotsS; rw [List.length_map]; exact List.length_filter_le _ _
def nilB : ByteArray := ⟨#[]⟩
theorem nilB_of {s : ByteArray} (h : s.size = 0) : s = nilB := by
  obtain ⟨d⟩ := s
  have : d = #[] := Array.eq_empty_of_size_eq_zero h
  rw [this]; rfl
theorem dotsS_snoc {L : List K.En} {e : K.En} (_ : ¬ e.sku.size = 0) (s : ByteArray) :
    rcs (dotsS (L ++ [e]) s) = if s = nilB then rcs (dotsS L s) ++ (RC (dotOf e)).toList else if s = e.sku then rcs (dotsS L s) ++ (RC (dotOf e)).toList else rcs (dotsS L s) := by
  unfold dotsS
  rw [List.filter_append, List.map_append, rcs_append]
  by_cases h0 : s = nilB
  · subst h0
    have h : List.filter (fun e => decide (nilB.size = 0) || decide (e.sku = nilB)) [e] = [e] := by simp only [show decide (nilB.size = 0) = true from rfl, Bool.true_or, List.filter_cons, List.filter_nil, if_true]
    rw [if_pos rfl, h]
    simp [rcs_one]
  · have h1 : ¬ s.size = 0 := fun h => h0 (nilB_of h)
    rw [if_neg h0]
    by_cases h2 : s = e.sku
    · subst h2
      simp [h1, rcs_one]
    · have h3 : ¬ e.sku = s := fun h => h2 h.symm
      simp [h1, h2, h3, rcs]
/-- the map of dots -/
def MD (w W : World) (kk : Nat) (L : List K.En) : Prop := ∃ K f, MRo Tryz.prog 9 34 2 (w.heap.size + 1) w W w.heap.size kk K f (fun s => rcs (dotsS L s))
/-- a dot is put at a key -/
theorem md_app {w W : World} {b B k : Nat} {K : ByteArray → Prop} {f : ByteArray → Hs} {X : ByteArray → List Value} (M : MRo Tryz.prog 9 34 2 B w W b k K f X) (s : ByteArray) (d : Rn) (hn : (f s).n ≤ 8000000000000) :
    ∃ g c2 W2, (Builtin.append_ #[68, 68] 68 #[HsV (f s), .slice (some ⟨W.heap.size, 0, none⟩) 1 1]).run Tryz.prog (W.alloc (.cells (RC d) 34)) = .ok (.slice (some ⟨g, 0, none⟩) ((f s).n + 1) c2) W2 ∧ MRm Tryz.prog 9 34 2 B w W2 b k K f X s ⟨some ⟨g, 0, none⟩, (f s).n + 1, c2⟩ (X s ++ (RC d).toList) ∧ ∀ q, q < W.heap.size → (HsV (f s)).ownBlock ≠ some q → W2.heap[q]? = W.heap[q]? := by
  obtain ⟨i0, hi, hz0, hz1, hz2⟩ := info_parts infoD
  obtain ⟨g, c2, W2, h1, h2, h3⟩ := (M.later (below_new W (.cells (RC d) 34))).app s (ty := 68) Tryz.underlying68 hi hz0 hz1 hz2 (by simp [Value.cells]) (by decide) ⟨W.heap.size, 0, none⟩ 1 (RC d).toList rfl (fun j u hj => by
    rw [Addr.add_lit, Nat.zero_add, World.cell?_alloc_new]
    simpa using hj) (RC_one d) (by unfold maxLen; omega) (by omega)
  exact ⟨g, c2, W2, h1, h2, fun q hq hn => (h3 q (by simp; omega) hn).trans (Below.heap_alloc W _ q hq)⟩
theorem MRo.len {w W : World} {b B k : Nat} {K0 : ByteArray → Prop} {f : ByteArray → Hs} {L : List K.En} (M : MRo Tryz.prog 9 34 2 B w W b k K0 f (fun s => rcs (dotsS L s))) (s : ByteArray) : (f s).n = (dotsS L s).length := by
  have h := (M.rows s).1
  rw [rcs_length] at h
  omega
set_option maxRecDepth 100000 in
set_option maxHeartbeats 3200000 in
theorem dotsBy_any (ao : Option Addr) (n cap : Nat) (L : List K.En) (w : World) (hS : K.ESrc w ao n cap L) (hne : ∀ e ∈ L, ¬ e.sku.size = 0) :
    Calls Tryz.prog 29 #[.slice ao n cap] w fun x w' => ∃ kk, x = .returned (.map (some w.heap.size)) ∧ MD w w' kk L := by
  have HS := hide hS
  have HL : Hid (L.length = n) := hS.1
  have hn := hS.2.2.2.2
  have HNE := hide hne
  have hmm := @run_makeMap Tryz.prog
  obtain ⟨w1, hw1⟩ : ∃ w1, w.alloc (.map #[] 0) = w1 := ⟨_, rfl⟩
  obtain ⟨b, hb⟩ : ∃ b, w.heap.size = b := ⟨_, rfl⟩
  have HM0 : Hid (MD w w1 0 []) := ⟨_, _, hw1 ▸ MRo.start w⟩
  have Hb := hide hb
  clear hS hne
  go_enter Tryz.func29, Tryz.ntmps29
  go_wp2_with fail
  clear hw1 hb
  go_loopw [9] (fun i wr => ∃ k : Nat, k ≤ n ∧ i = .int .i64 (k : Int) ∧ Hid (MD w wr (2 * k) (L.take k))) (fun i _ => n - (intOf i).toNat)
  case atStart => exact ⟨0, Nat.zero_le _, rfl, HM0⟩
  case round =>
    obtain ⟨k, hk, rfl, HM⟩ := hrel
    rename World => wr
    clear HM0
    by_cases hlt : k < n
    · have hlti : (k : Int) < (n : Int) := by omega
      obtain ⟨K0, f, M⟩ := HM.out
      obtain ⟨ad, hao, A0⟩ := (HS.out.below M.below).at k hlt
      subst hao
      obtain ⟨e, He⟩ : ∃ e, Hid (L.getD k K.en0 = e) := ⟨_, rfl⟩
      have hsk := HS.out.sku k hlt
      have HT := hide (K.take_snoc L k (by rw [HL.out]; exact hlt))
      have hee : ¬ (L.getD k K.en0).sku.size = 0 := HNE.out _ (by rw [List.getD_eq_getElem?_getD, List.getElem?_eq_getElem (by rw [HL.out]; exact hlt)]; exact List.getElem_mem _)
      rw [He.out] at A0 hsk HT hee
      have HEE := hide hee
      have hld := K.run_ld28 A0
      obtain ⟨g7, hg7⟩ : ∃ g7, wr.heap.size = g7 := ⟨_, rfl⟩
      obtain ⟨w7, hst, X7, B7, S7⟩ := K.made wr e g7 hg7
      replace hst : (K.st28 (.pointer (some ⟨g7, 0, none⟩)) (K.EV e)).run Tryz.prog (wr.alloc (.cells #[.int .i64 0, .int .i64 0, .string ⟨#[]⟩, .int .i64 0] 36)) = .ok () w7 := hst
      have M7 := (M.later B7).later (below_drew1 w7)
      have hnl : ∀ s, (f s).n ≤ 8000000000000 := fun s => by rw [M.len s]; have h1 := dotsS_len (L.take k) s; have h2 := List.length_take_le k L; omega
      have hoff : ∀ s, (HsV (f s)).ownBlock ≠ some g7 := fun s h => by have := ((M.rows s).lt g7 h).2; omega
      have HL0 : Hid (∀ W, Below w7.drew.heap.size w7.drew W → (Instr.lookup 63 (.map (some b)) (.string e.sku) false).run Tryz.prog W = .ok (HsV (f e.sku)) W) := fun W hW => by
        have := (M7.later hW).look keyS Tryz.underlying9 Tryz.underlying63 (zeroDs W) e.sku hsk
        rwa [Hb.out] at this
      obtain ⟨g8, c8, w8, ha8, M8, k8⟩ := md_app M7 e.sku (dotOf e) (hnl _)
      obtain ⟨w9, hu9, M9, k9⟩ := M8.put keyS Tryz.underlying9 Tryz.underlying63 hsk (by unfold maxLen; omega)
      rw [Hb.out] at hu9 k9
      have hgb : g7 ≠ b := by have := M.hb; rw [Hb.out] at this; omega
      have z7 : w7.drew.heap[g7]? = w7.heap[g7]? := rfl
      have z8 : w8.heap[g7]? = w7.heap[g7]? := k8 g7 (show g7 < w7.heap.size by omega) (hoff _)
      have z9 : w9.heap[g7]? = w7.heap[g7]? := (k9 g7 (Nat.lt_of_lt_of_le (show g7 < w7.heap.size by omega) (by have := M8.hb.2.2; have := (Array.getElem?_eq_some_iff.1 (z8.trans X7)).1; omega)) hgb).trans z8
      have HSt : Hid (∀ W : World, W.heap[g7]? = w7.heap[g7]? → W.cell? ⟨g7, 2, none⟩ = some (.string e.sku) ∧ (ldD (.pointer (some ⟨g7, 0, none⟩))).run Tryz.prog W = .ok (.agg #[.int .i64 e.rep, .int .i64 e.num]) W) := fun W h => by
        have X : K.Box W g7 36 e := h.trans X7
        exact ⟨X.at.c2, run_ldD (enc_dot X)⟩
      have HZ : Hid (w8.heap[g7]? = w7.heap[g7]? ∧ w9.heap[g7]? = w7.heap[g7]?) := ⟨z8, z9⟩
      have HZA : Hid ((w7.drew.alloc (.cells #[.int .i64 e.rep, .int .i64 e.num] 34)).heap[g7]? = w7.heap[g7]?) := Below.heap_alloc w7.drew _ g7 (show g7 < w7.heap.size by omega)
      have l0 := HL0.out w7.drew (Below.refl _ _)
      have l1 := HL0.out _ (below_new w7.drew (.cells #[.int .i64 e.rep, .int .i64 e.num] 34))
      have l2 : (Instr.lookup 63 (.map (some b)) (.string e.sku) false).run Tryz.prog (w7.alloc (.cells #[.int .i64 e.rep, .int .i64 e.num] 34)).drew = .ok (HsV (f e.sku)) (w7.drew.alloc (.cells #[.int .i64 e.rep, .int .i64 e.num] 34)) := l1
      obtain ⟨K1, f1, X1, M9', hX1⟩ : ∃ K1 f1 X1, MRo Tryz.prog 9 34 2 (w.heap.size + 1) w w9 w.heap.size (2 * k + 1) K1 f1 X1 ∧ ∀ s, X1 s = if s = e.sku then rcs (dotsS (L.take k) s) ++ (RC (dotOf e)).toList else rcs (dotsS (L.take k) s) := ⟨_, _, _, M9, fun s => by
        by_cases h : s = e.sku
        · subst h; simp
        · simp [h]⟩
      have hn1 : (f1 nilB).n ≤ 8000000000000 := by
        have h := (M9'.rows nilB).1
        have h1 := dotsS_len (L.take k) nilB
        have h2 := List.length_take_le k L
        rw [hX1] at h
        split at h
        · rw [List.length_append, rcs_length] at h
          have : (RC (dotOf e)).toList.length = 2 := rfl
          omega
        · rw [rcs_length] at h
          omega
      have l3 := M9'.look keyS Tryz.underlying9 Tryz.underlying63 (zeroDs w9) nilB (by decide)
      rw [Hb.out] at l3
      obtain ⟨ga, ca, wa, haa, Ma, ka⟩ := md_app M9' nilB (dotOf e) hn1
      obtain ⟨wb, hub, Mb, kb⟩ := Ma.put keyS Tryz.underlying9 Tryz.underlying63 (by decide) (by unfold maxLen; omega)
      rw [Hb.out] at hub
      have HL3 : Hid ((Instr.lookup 63 (.map (some b)) (.string ⟨#[]⟩) false).run Tryz.prog w9 = .ok (.slice (f1 nilB).o (f1 nilB).n (f1 nilB).c) w9) := l3
      have HUB : Hid ((Instr.mapUpdate 63 (.map (some b)) (.string ⟨#[]⟩) (.slice (some ⟨ga, 0, none⟩) ((f1 nilB).n + 1) ca)).run Tryz.prog wa = .ok () wb) := hub
      have HAA : Hid ((Builtin.append_ #[68, 68] 68 #[.slice (f1 nilB).o (f1 nilB).n (f1 nilB).c, .slice (some ⟨w9.heap.size, 0, none⟩) 1 1]).run Tryz.prog (w9.alloc (.cells #[.int .i64 e.rep, .int .i64 e.num] 34)) = .ok (.slice (some ⟨ga, 0, none⟩) ((f1 nilB).n + 1) ca) wa) := haa
      have HMb : Hid (MD w wb (2 * (k + 1)) (L.take (k + 1))) := by
        have hX : (fun s => rcs (dotsS (L.take (k + 1)) s)) = fun u => if u = nilB then X1 nilB ++ (RC (dotOf e)).toList else X1 u := by
          funext s
          rw [HT.out, dotsS_snoc hee s, hX1 s, hX1 nilB]
          have h0 : ¬ nilB = e.sku := fun h => hee (by rw [← h]; rfl)
          by_cases h1 : s = nilB
          · subst h1; simp [h0]
          · simp [h1]
        have h := Mb
        rw [← hX] at h
        exact ⟨_, _, h⟩
      have Hlt := hide hlt
      have HA8 : Hid ((Builtin.append_ #[68, 68] 68 #[.slice (f e.sku).o (f e.sku).n (f e.sku).c, .slice (some ⟨w7.heap.size, 0, none⟩) 1 1]).run Tryz.prog (w7.drew.alloc (.cells #[.int .i64 e.rep, .int .i64 e.num] 34)) = .ok (.slice (some ⟨g8, 0, none⟩) ((f e.sku).n + 1) c8) w8) := ha8
      clear A0 X7 B7 S7 M M7 M8 M9 M9' hX1 hn1 l3 haa Ma ka hub Mb kb k8 k9 z7 z8 z9 ha8 hlt hk
      go_upto_region 5 with fail
      clear hst hld
      refine wp_region_held_drew (S := fun W => W.cell? ⟨g7, 2, none⟩ = some (.string e.sku) ∧ (ldD (.pointer (some ⟨g7, 0, none⟩))).run Tryz.prog W = .ok (.agg #[.int .i64 e.rep, .int .i64 e.num]) W) (by kernel_rfl) (HSt.out _ rfl) (fun hHeld => ?_)
      refine wpAnyH_take (i := 0) (oi := { dst := some 13, op := Op.move (Operand.tmp 3), type := 63, pos := "bars.go:53", after := #[], guard := none }) (v := ?_) rfl (by kernel_rfl) (by kernel_rfl) (by kernel_rfl) (fun _ _ _ h => h) (Or.inl ⟨by rfl, ?_⟩) (by assumption) ?_
      rotate_left
      · (intro w hSw; (try dsimp only at hSw); go_simp); first | done | with_reducible rfl
      simp only [Act.put, List.setIfInBounds_toArray, List.set_cons_zero, List.set_cons_succ]
      refine wpAnyH_take (i := 1) (oi := { dst := some 14, op := Op.fieldAddr 36 (Operand.tmp 5) 1, type := 0, pos := "bars.go:53", after := #[], guard := none }) (v := ?_) rfl (by kernel_rfl) (by kernel_rfl) (by kernel_rfl) (fun _ _ _ h => h) (Or.inl ⟨by rfl, ?_⟩) (by assumption) ?_
      rotate_left
      · (intro w hSw; (try dsimp only at hSw); go_simp); first | done | with_reducible rfl
      simp only [Act.put, List.setIfInBounds_toArray, List.set_cons_zero, List.set_cons_succ]
      refine wpAnyH_take (i := 2) (oi := { dst := some 15, op := Op.load 9 (Operand.tmp 14), type := 9, pos := "bars.go:53", after := #[{ on := 1, ground := Ground.data }], guard := none }) (v := ?_) rfl (by kernel_rfl) (by kernel_rfl) (by kernel_rfl) (fun _ _ _ h => h) (Or.inl ⟨by rfl, ?_⟩) (by assumption) ?_
      rotate_left
      · (intro w hSw; (try dsimp only at hSw); go_simp); first | done | with_reducible rfl
      simp only [Act.put, List.setIfInBounds_toArray, List.set_cons_zero, List.set_cons_succ]
      refine wpAnyH_take (i := 3) (oi := { dst := some 16, op := Op.move (Operand.tmp 3), type := 63, pos := "bars.go:53", after := #[], guard := none }) (v := ?_) rfl (by kernel_rfl) (by kernel_rfl) (by kernel_rfl) (fun _ _ _ h => h) (Or.inl ⟨by rfl, ?_⟩) (by assumption) ?_
      rotate_left
      · (intro w hSw; (try dsimp only at hSw); go_simp); first | done | with_reducible rfl
      simp only [Act.put, List.setIfInBounds_toArray, List.set_cons_zero, List.set_cons_succ]
      refine wpAnyH_take (i := 4) (oi := { dst := some 17, op := Op.fieldAddr 36 (Operand.tmp 5) 1, type := 0, pos := "bars.go:53", after := #[], guard := none }) (v := ?_) rfl (by kernel_rfl) (by kernel_rfl) (by kernel_rfl) (fun _ _ _ h => h) (Or.inl ⟨by rfl, ?_⟩) (by assumption) ?_
      rotate_left
      · (intro w hSw; (try dsimp only at hSw); go_simp); first | done | with_reducible rfl
      simp only [Act.put, List.setIfInBounds_toArray, List.set_cons_zero, List.set_cons_succ]
      refine wpAnyH_take (i := 5) (oi := { dst := some 18, op := Op.load 9 (Operand.tmp 17), type := 9, pos := "bars.go:53", after := #[{ on := 4, ground := Ground.data }], guard := none }) (v := ?_) rfl (by kernel_rfl) (by kernel_rfl) (by kernel_rfl) (fun _ _ _ h => h) (Or.inl ⟨by rfl, ?_⟩) (by assumption) ?_
      rotate_left
      · (intro w hSw; (try dsimp only at hSw); go_simp); first | done | with_reducible rfl
      simp only [Act.put, List.setIfInBounds_toArray, List.set_cons_zero, List.set_cons_succ]
      refine wpAnyH_take (i := 7) (oi := { dst := some 20, op := Op.fieldAddr 36 (Operand.tmp 5) 0, type := 0, pos := "bars.go:53", after := #[], guard := none }) (v := ?_) rfl (by kernel_rfl) (by kernel_rfl) (by kernel_rfl) (fun _ _ _ h => h) (Or.inl ⟨by rfl, ?_⟩) (by assumption) ?_
      rotate_left
      · (intro w hSw; (try dsimp only at hSw); go_simp); first | done | with_reducible rfl
      simp only [Act.put, List.setIfInBounds_toArray, List.set_cons_zero, List.set_cons_succ]
      refine wpAnyH_take (i := 8) (oi := { dst := some 21, op := Op.load 34 (Operand.tmp 20), type := 34, pos := "bars.go:53", after := #[{ on := 7, ground := Ground.data }], guard := none }) (v := ?_) rfl (by kernel_rfl) (by kernel_rfl) (by kernel_rfl) (fun _ _ _ h => h) (Or.inl ⟨by rfl, ?_⟩) (by assumption) ?_
      rotate_left
      · (intro w hSw; (try dsimp only at hSw); go_simp); first | done | with_reducible rfl
      simp only [Act.put, List.setIfInBounds_toArray, List.set_cons_zero, List.set_cons_succ]
      refine wpAnyH_ready (rs := [6, 9]) (by kernel_rfl) (by simp) ?_
      refine AllReadyH.cons rfl (fun K hK => ?_) ?_
      · go_simp
        refine hK.out _ _ (HSt.out _ rfl) (fun hHeld => ?_)
        clear hK K
        refine wpAnyH_ready (rs := [9]) (by kernel_rfl) (by simp) ?_
        refine AllReadyH.cons rfl (fun K hK => ?_) ?_
        rotate_left
        · exact AllReadyH.nil
        go_simp
        refine hK.out _ _ (HSt.out _ HZA.out) (fun hHeld => ?_)
        clear hK K
        refine wpAnyH_ready (rs := [10]) (by kernel_rfl) (by simp) ?_
        refine AllReadyH.cons rfl (fun K hK => ?_) ?_
        rotate_left
        · exact AllReadyH.nil
        refine step_appM (by rfl) (.tmp 19) (.tmp 22) (by rfl) (by rfl) (by rfl) HA8.out ?_
        refine hK.out _ _ (HSt.out _ HZ.out.1) (fun hHeld => ?_)
        clear hK K
        refine wpAnyH_ready (rs := [11]) (by kernel_rfl) (by simp) ?_
        refine AllReadyH.cons rfl (fun K hK => ?_) ?_
        rotate_left
        · exact AllReadyH.nil
        go_simp
        refine hK.out _ _ (HSt.out _ HZ.out.2) (fun hHeld => ?_)
        clear hK K
        refine wpAnyH_done (by kernel_rfl) ?_ _
        clear hHeld
        have l3 := HL3.out
        have u3 := HUB.out
        obtain ⟨-, d3⟩ := HSt.out w9 HZ.out.2
        clear l0 l1 l2 hu9
        go_wp2_with (at_builtin; refine seq_appM rfl (.tmp 26) (.tmp 29) rfl rfl rfl HAA.out ?_)
        go_roundw
        case rel => exact ⟨k + 1, Hlt.out, by simp, HMb⟩
        case measure => simp [intOf]; have := Hlt.out; omega
      · refine AllReadyH.cons rfl (fun K hK => ?_) ?_
        rotate_left
        · exact AllReadyH.nil
        go_simp
        refine hK.out _ _ (HSt.out _ HZA.out) (fun hHeld => ?_)
        clear hK K
        refine wpAnyH_ready (rs := [6]) (by kernel_rfl) (by simp) ?_
        refine AllReadyH.cons rfl (fun K hK => ?_) ?_
        rotate_left
        · exact AllReadyH.nil
        go_simp
        refine hK.out _ _ (HSt.out _ HZA.out) (fun hHeld => ?_)
        clear hK K
        refine wpAnyH_ready (rs := [10]) (by kernel_rfl) (by simp) ?_
        refine AllReadyH.cons rfl (fun K hK => ?_) ?_
        rotate_left
        · exact AllReadyH.nil
        refine step_appM (by rfl) (.tmp 19) (.tmp 22) (by rfl) (by rfl) (by rfl) HA8.out ?_
        refine hK.out _ _ (HSt.out _ HZ.out.1) (fun hHeld => ?_)
        clear hK K
        refine wpAnyH_ready (rs := [11]) (by kernel_rfl) (by simp) ?_
        refine AllReadyH.cons rfl (fun K hK => ?_) ?_
        rotate_left
        · exact AllReadyH.nil
        go_simp
        refine hK.out _ _ (HSt.out _ HZ.out.2) (fun hHeld => ?_)
        clear hK K
        refine wpAnyH_done (by kernel_rfl) ?_ _
        clear hHeld
        have l3 := HL3.out
        have u3 := HUB.out
        obtain ⟨-, d3⟩ := HSt.out w9 HZ.out.2
        clear l0 l1 l2 hu9
        go_wp2_with (at_builtin; refine seq_appM rfl (.tmp 26) (.tmp 29) rfl rfl rfl HAA.out ?_)
        go_roundw
        case rel => exact ⟨k + 1, Hlt.out, by simp, HMb⟩
        case measure => simp [intOf]; have := Hlt.out; omega
    · obtain rfl : k = n := by omega
      have HE : Hid (∃ kk, MD w wr kk L) := by
        have h := HM.out
        rw [List.take_of_length_le (by have := HL.out; omega)] at h
        exact ⟨_, h⟩
      go_wp2_with fail
      go_ret
      obtain ⟨kk, h⟩ := HE.out
      exact ⟨kk, by rw [Hb.out]; rfl, h⟩
end Go.Proofs.YtcnciccljblkfaaGreat
namespace Go.Proofs.YtcnciccljblkfaaGreat.K


/-- every piece of w, counted from the front, stands in order -/
def Chunked {α : Type} (le : α → α → Prop) (w : Nat) (L : List α) : Prop := ∀ q, ((L.drop (q * w)).take w).Pairwise le
theorem chunked_one {α : Type} (le : α → α → Prop) (L : List α) : Chunked le 1 L := by
  intro q
  match h : (L.drop (q * 1)).take 1 with
  | [] => exact List.Pairwise.nil
  | [a] => exact List.pairwise_singleton _ _
  | a :: b :: r =>
    have := congrArg List.length h
    simp at this
    omega
theorem chunked_whole {α : Type} {le : α → α → Prop} {w : Nat} {L : List α} (h : Chunked le w L) (hl : L.length ≤ w) : L.Pairwise le := by
  have := h 0
  rwa [Nat.zero_mul, List.drop_zero, List.take_of_length_le hl] at this
theorem chunked_nil {α : Type} (le : α → α → Prop) (w : Nat) : Chunked le w [] := by intro q; simp
theorem chunked_snoc {α : Type} {le : α → α → Prop} {w q0 : Nat} {M X : List α} (hM : Chunked le w M) (hl : M.length = q0 * w) (hX : X.Pairwise le) (hXl : X.length ≤ w) : Chunked le w (M ++ X) := by
  intro q
  by_cases h : q < q0
  · have e : q * w + w ≤ M.length := by rw [hl, ← Nat.succ_mul]; exact Nat.mul_le_mul_right _ h
    rw [List.drop_append_of_le_length (by omega), List.take_append_of_le_length (by rw [List.length_drop]; omega)]
    exact hM q
  · have e : M.length ≤ q * w := by rw [hl]; exact Nat.mul_le_mul_right _ (by omega)
    rw [List.drop_append, List.drop_eq_nil_of_le e, List.nil_append]
    exact (hX.sublist (List.drop_sublist _ _)).sublist (List.take_sublist _ _)
theorem seg_cons {α : Type} (L : List α) (d : α) (i m : Nat) (h : i < m) (hm : m ≤ L.length) : (L.drop i).take (m - i) = L.getD i d :: (L.drop (i + 1)).take (m - (i + 1)) := by
  rw [List.drop_eq_getElem_cons (by omega), show m - i = (m - (i + 1)) + 1 by omega, List.take_succ_cons]
  simp [List.getD, show i < L.length by omega]
theorem seg_nil {α : Type} (L : List α) (i m : Nat) (h : m ≤ i) : (L.drop i).take (m - i) = [] := by rw [show m - i = 0 by omega]; simp
/-- what is left to be merged of two pieces -/
def mrg {α : Type} (le : α → α → Bool) (L : List α) (i mid j en : Nat) : List α := List.merge ((L.drop i).take (mid - i)) ((L.drop j).take (en - j)) le
theorem mrg_none {α : Type} (le : α → α → Bool) (L : List α) (i mid j en : Nat) (hi : mid ≤ i) (hj : en ≤ j) : mrg le L i mid j en = [] := by unfold mrg; rw [seg_nil L i mid hi, seg_nil L j en hj]; simp
theorem mrg_left {α : Type} (le : α → α → Bool) (L : List α) (d : α) (i mid j en : Nat) (hi : i < mid) (hm : mid ≤ L.length) (hj : en ≤ j) : mrg le L i mid j en = L.getD i d :: mrg le L (i + 1) mid j en := by
  unfold mrg; rw [seg_nil L j en hj, seg_cons L d i mid hi hm]; simp
theorem mrg_right {α : Type} (le : α → α → Bool) (L : List α) (d : α) (i mid j en : Nat) (hi : mid ≤ i) (hj : j < en) (he : en ≤ L.length) : mrg le L i mid j en = L.getD j d :: mrg le L i mid (j + 1) en := by
  unfold mrg; rw [seg_nil L i mid hi, seg_cons L d j en hj he]; simp
theorem mrg_le {α : Type} (le : α → α → Bool) (L : List α) (d : α) (i mid j en : Nat) (hi : i < mid) (hm : mid ≤ L.length) (hj : j < en) (he : en ≤ L.length) (h : le (L.getD i d) (L.getD j d) = true) : mrg le L i mid j en = L.getD i d :: mrg le L (i + 1) mid j en := by
  unfold mrg; rw [seg_cons L d i mid hi hm, seg_cons L d j en hj he, List.cons_merge_cons, if_pos h]
theorem mrg_gt {α : Type} (le : α → α → Bool) (L : List α) (d : α) (i mid j en : Nat) (hi : i < mid) (hm : mid ≤ L.length) (hj : j < en) (he : en ≤ L.length) (h : le (L.getD i d) (L.getD j d) = false) : mrg le L i mid j en = L.getD j d :: mrg le L i mid (j + 1) en := by
  unfold mrg; rw [seg_cons L d i mid hi hm, seg_cons L d j en hj he, List.cons_merge_cons, if_neg (by rw [h]; simp)]
theorem seg_split {α : Type} (L : List α) (a b c : Nat) (h : a ≤ b) (h2 : b ≤ c) : (L.drop a).take (b - a) ++ (L.drop b).take (c - b) = (L.drop a).take (c - a) := by
  have e : c - a = (b - a) + (c - b) := by omega
  rw [e, List.take_add, List.drop_drop, show a + (b - a) = b by omega]
theorem mrg_perm {α : Type} (le : α → α → Bool) (L : List α) (a mid en : Nat) (h : a ≤ mid) (h2 : mid ≤ en) : (mrg le L a mid mid en).Perm ((L.drop a).take (en - a)) := by
  unfold mrg
  refine (List.merge_perm_append le).trans ?_
  rw [seg_split L a mid en h h2]
theorem mrg_sorted {α : Type} {le : α → α → Bool} (ht : ∀ a b c, le a b = true → le b c = true → le a c = true) (hto : ∀ a b, (le a b || le b a) = true) (L : List α) (w q mid en : Nat) (h : Chunked (fun x y => le x y = true) w L) (hm : mid = min (2 * q * w + w) L.length) (he : en = min (mid + w) L.length) :
    (mrg le L (2 * q * w) mid mid en).Pairwise (fun x y => le x y = true) := by
  unfold mrg
  refine List.pairwise_merge ht hto _ _ ?_ ?_
  · have h1 := h (2 * q)
    exact h1.sublist (List.take_sublist_take_left (by omega))
  · by_cases hl : 2 * q * w + w ≤ L.length
    · have h1 := h (2 * q + 1)
      have e : (2 * q + 1) * w = mid := by rw [hm, Nat.min_eq_left hl, Nat.add_mul, Nat.one_mul]
      rw [e] at h1
      exact h1.sublist (List.take_sublist_take_left (by omega))
    · have : L.drop mid = [] := List.drop_eq_nil_of_le (by omega)
      rw [this]; simp
/-- a pass of the merging: t pairs of pieces of q are merged, f places are done -/
structure Pass {α : Type} (le : α → α → Bool) (L M : List α) (n q f t : Nat) : Prop where
  hf : f = 2 * t * q
  hl : M.length = min f n
  hp : M.Perm (L.take f)
  hc : Chunked (fun x y => le x y = true) (2 * q) M
theorem Pass.start {α : Type} (le : α → α → Bool) (L : List α) (n q : Nat) : Pass le L [] n q 0 0 := ⟨by simp, by simp, by simp, chunked_nil _ _⟩
theorem Pass.step {α : Type} {le : α → α → Bool} (ht : ∀ a b c, le a b = true → le b c = true → le a c = true) (hto : ∀ a b, (le a b || le b a) = true) {L M : List α} {n q f t mid en : Nat} (P : Pass le L M n q f t) (hn : L.length = n) (hlt : f < n) (hC : Chunked (fun x y => le x y = true) q L)
    (hm : mid = min (f + q) n) (he : en = min (mid + q) n) : Pass le L (M ++ mrg le L f mid mid en) n q (f + 2 * q) (t + 1) := by
  have h1 := mrg_perm le L f mid en (by omega) (by omega)
  have hs := mrg_sorted ht hto L q t mid en hC (by rw [hn, ← P.hf]; exact hm) (by rw [hn]; exact he)
  rw [← P.hf] at hs
  have hxl : (mrg le L f mid mid en).length = en - f := by rw [h1.length_eq, List.length_take, List.length_drop]; omega
  have hml : M.length = f := by rw [P.hl]; omega
  refine ⟨?_, ?_, ?_, ?_⟩
  · rw [P.hf, Nat.mul_add, Nat.add_mul]
  · rw [List.length_append, hxl, hml]; omega
  · refine (P.hp.append h1).trans ?_
    have e : L.take (f + 2 * q) = L.take en := by
      by_cases h : f + 2 * q ≤ n
      · rw [show en = f + 2 * q by omega]
      · rw [List.take_of_length_le (by omega), List.take_of_length_le (by omega)]
    have e2 := seg_split L 0 f en (by omega) (by omega)
    simp only [List.drop_zero, Nat.sub_zero] at e2
    rw [e, e2]
  · exact chunked_snoc P.hc (q0 := t) (by rw [hml, P.hf, Nat.mul_comm 2 t, Nat.mul_assoc]) hs (by rw [hxl]; omega)
theorem Pass.done {α : Type} {le : α → α → Bool} {L M : List α} {n q f t : Nat} (P : Pass le L M n q f t) (hn : L.length = n) (h : n ≤ f) : M.Perm L ∧ Chunked (fun x y => le x y = true) (2 * q) M ∧ M.length = n :=
  ⟨by have := P.hp; rwa [List.take_of_length_le (by omega)] at this, P.hc, by rw [P.hl]; omega⟩
theorem mrg_length {α : Type} (le : α → α → Bool) (L : List α) (f mid en n : Nat) (hn : L.length = n) (h : f ≤ mid) (h2 : mid ≤ en) (he : en ≤ n) : (mrg le L f mid mid en).length = en - f := by
  rw [(mrg_perm le L f mid en h h2).length_eq, List.length_take, List.length_drop]; omega
end Go.Proofs.YtcnciccljblkfaaGreat.K
namespace Go.Proofs.YtcnciccljblkfaaGreat.K
open Go.RowKit
attribute [local go_sem ↓] ld28_eq st28_eq ld26_eq
attribute [local go_sem] zero_EC cells_EV EC_size
def leE (x y : En) : Bool := !ahead y x
theorem leE_trans (a b c : En) (h1 : leE a b = true) (h2 : leE b c = true) : leE a c = true := by
  simp [leE, ahead] at *; omega
theorem leE_total (a b : En) : (leE a b || leE b a) = true := by
  simp [leE, ahead]; omega
end Go.Proofs.YtcnciccljblkfaaGreat.K
namespace Go.Proofs.YtcnciccljblkfaaGreat.K
open Go.RowKit
attribute [local go_sem ↓] ld28_eq st28_eq
attribute [local go_sem] zero_EC cells_EV EC_size
attribute [local go_sem] fold_EC
def mk22 (a b : Value) : Sem Value := Instr.makeSlice 22 a b
theorem mk22_eq (a b : Value) : Instr.makeSlice 22 a b = mk22 a b := rfl
attribute [local go_sem ↓] mk22_eq
/-- a list with room for n, made anew -/
theorem made0 (w : World) (n : Nat) (hn : n ≤ 3518437208883) : ∃ w' : World, (mk22 (.int .i64 0) (.int .i64 (n : Int))).run Tryz.prog w = .ok (.slice (some ⟨w.heap.size, 0, none⟩) 0 n) w' ∧ OwnE w.heap.size w.heap.size w w' (some ⟨w.heap.size, 0, none⟩) n [] := by
  obtain ⟨i0, hi, hz0, hz1, hz2⟩ := info_parts info28
  obtain ⟨w', h1, h2, h3⟩ := run_make_own (P := Tryz.prog) w w.heap.size 22 36 i0 _ 4 Tryz.underlying22 hi hz0 hz1 .i64 .i64 n (by rw [hz2]; omega) (by unfold maxLen; omega) (Nat.le_refl _)
  exact ⟨w', h1, h2, (Below.refl _ _).grown h3 (Nat.le_refl _) (fun k hk => by cases hk), h3.size, Nat.le_refl _⟩
/-- the members of L in order -/
def InOrder (L R : List En) : Prop := R.Perm L ∧ R.Pairwise (fun x y => leE x y = true)
/-- a list in order is handed back -/
def GivesS (w w' : World) (e : Ending) (L : List En) : Prop := ∃ R, InOrder L R ∧ GivesE w w' e R
theorem ahead_of_le {x y : En} {p : Bool} (h : ahead y x = p) : leE x y = !p := by unfold leE; rw [h]
end Go.Proofs.YtcnciccljblkfaaGreat.K
namespace Go.Proofs.YtcnciccljblkfaaGreat.K
open Go.RowKit

instance : DecidableEq En := fun a b =>
  decidable_of_iff (a.rep = b.rep ∧ a.num = b.num ∧ a.sku = b.sku ∧ a.qty = b.qty) ⟨fun ⟨h1, h2, h3, h4⟩ => by cases a; cases b; simp_all, fun h => by subst h; exact ⟨rfl, rfl, rfl, rfl⟩⟩
instance : Inhabited En := ⟨en0⟩
def sameDot (x y : En) : Bool := x.rep == y.rep && x.num == y.num
theorem ahead_of {x y : En} (h : leE x y = true) (hs : sameDot y x = false) : ahead x y = true := by
  simp [leE, ahead, sameDot] at *; omega
theorem ahead_le {x y z : En} (h : leE x y = true) (h2 : ahead y z = true) : ahead x z = true := by
  simp [leE, ahead] at *; omega
theorem ahead_trans {x y z : En} (h : ahead x y = true) (h2 : ahead y z = true) : ahead x z = true := by
  simp [ahead] at *; omega
theorem ahead_irr (x : En) : ahead x x = false := by simp [ahead]
theorem ahead_asymm {x y : En} (h : ahead x y = true) : ahead y x = false := by
  simp [ahead] at *; omega
theorem ahead_same {x y : En} (h : ahead x y = true) : sameDot x y = false := by
  simp [ahead, sameDot] at *; omega
theorem same_symm {x y : En} : sameDot x y = sameDot y x := by
  simp [sameDot, Bool.beq_comm]
/-- a dot has two contents -/
def Clash (L : List En) : Prop := ∃ x, x ∈ L ∧ ∃ y, y ∈ L ∧ sameDot x y = true ∧ x ≠ y
def Asc (R : List En) : Prop := R.Pairwise (fun x y => ahead x y = true)
/-- what Sort and Union answer of the entries L -/
def Settled (L R : List En) (e : Int) : Prop := (Clash L ∧ R = [] ∧ e = 10) ∨ (¬ Clash L ∧ e = 0 ∧ Asc R ∧ ∀ x, x ∈ R ↔ x ∈ L)
theorem asc_unique : ∀ {R R' : List En}, Asc R → Asc R' → (∀ x, x ∈ R ↔ x ∈ R') → R = R'
  | [], [], _, _, _ => rfl
  | [], b :: _, _, _, h => absurd ((h b).2 (List.mem_cons_self ..)) (by simp)
  | a :: _, [], _, _, h => absurd ((h a).1 (List.mem_cons_self ..)) (by simp)
  | a :: R, b :: R', h1, h2, h => by
    obtain ⟨a1, a2⟩ := List.pairwise_cons.1 h1
    obtain ⟨b1, b2⟩ := List.pairwise_cons.1 h2
    have e : a = b := by
      rcases List.mem_cons.1 ((h a).1 (List.mem_cons_self ..)) with e | e
      · exact e
      · rcases List.mem_cons.1 ((h b).2 (List.mem_cons_self ..)) with e' | e'
        · exact e'.symm
        · have := ahead_asymm (a1 b e'); rw [b1 a e] at this; cases this
    subst e
    rw [asc_unique a2 b2 (fun x => ?_)]
    have hx := h x
    simp only [List.mem_cons] at hx
    constructor
    · intro hm
      rcases hx.1 (Or.inr hm) with e | e
      · subst e; have := a1 x hm; rw [ahead_irr] at this; cases this
      · exact e
    · intro hm
      rcases hx.2 (Or.inr hm) with e | e
      · subst e; have := b1 x hm; rw [ahead_irr] at this; cases this
      · exact e
theorem Settled.unique {L R R' : List En} {e e' : Int} (h : Settled L R e) (h' : Settled L R' e') : R = R' ∧ e = e' := by
  rcases h with ⟨c, r, e1⟩ | ⟨c, e1, a, m⟩
  · rcases h' with ⟨_, r', e2⟩ | ⟨c', _⟩
    · exact ⟨r.trans r'.symm, e1.trans e2.symm⟩
    · exact absurd c c'
  · rcases h' with ⟨c', _⟩ | ⟨_, e2, a', m'⟩
    · exact absurd c' c
    · exact ⟨asc_unique a a' (fun x => (m x).trans (m' x).symm), e1.trans e2.symm⟩
theorem asc_noclash {R L : List En} (h : Asc R) (hm : ∀ x, x ∈ R ↔ x ∈ L) : ¬ Clash L := by
  rintro ⟨x, hx, y, hy, hs, hne⟩
  have hx := (hm x).2 hx
  have hy := (hm y).2 hy
  clear hm
  induction R with
  | nil => simp at hx
  | cons a R ih =>
    obtain ⟨a1, a2⟩ := List.pairwise_cons.1 h
    rcases List.mem_cons.1 hx with e | e
    · subst e
      rcases List.mem_cons.1 hy with e | e
      · exact hne e.symm
      · have := ahead_same (a1 y e); rw [hs] at this; cases this
    · rcases List.mem_cons.1 hy with e' | e'
      · subst e'
        have := ahead_same (a1 x e); rw [same_symm, hs] at this; cases this
      · exact ih a2 e e'
theorem Clash.perm {L R : List En} (h : Clash L) (hm : ∀ x, x ∈ L ↔ x ∈ R) : Clash R := by
  obtain ⟨x, hx, y, hy, r⟩ := h
  exact ⟨x, (hm x).1 hx, y, (hm y).1 hy, r⟩
theorem Settled.perm {L L' R : List En} {e : Int} (h : Settled L R e) (hm : ∀ x, x ∈ L ↔ x ∈ L') : Settled L' R e := by
  rcases h with ⟨c, r, e1⟩ | ⟨c, e1, a, m⟩
  · exact Or.inl ⟨c.perm hm, r, e1⟩
  · exact Or.inr ⟨fun c' => c (c'.perm (fun x => (hm x).symm)), e1, a, fun x => (m x).trans (hm x)⟩

/-- of k places each entry once -/
def OnceInv (L : List En) (k : Nat) (acc : List En) : Prop := Asc acc ∧ ∀ x, x ∈ acc ↔ x ∈ L.take k
theorem once_start (L : List En) : OnceInv L 0 [] := ⟨List.Pairwise.nil, by simp⟩
theorem mem_take_succ (L : List En) (k : Nat) (h : k < L.length) (x : En) : x ∈ L.take (k + 1) ↔ x ∈ L.take k ∨ x = L.getD k en0 := by
  rw [take_snoc L k h]; simp
theorem le_at {L : List En} (hL : L.Pairwise (fun x y => leE x y = true)) (i j : Nat) (hij : i < j) (hj : j < L.length) : leE (L.getD i en0) (L.getD j en0) = true := by
  have := List.pairwise_iff_getElem.1 hL i j (by omega) hj hij
  simpa [List.getD, hj, show i < L.length by omega] using this
theorem mem_take_at {L : List En} {k : Nat} {x : En} (h : x ∈ L.take k) : ∃ i, i < k ∧ i < L.length ∧ L.getD i en0 = x := by
  obtain ⟨i, hi, rfl⟩ := List.mem_iff_getElem.1 h
  rw [List.length_take] at hi
  exact ⟨i, by omega, by omega, by simp [List.getD, show i < L.length by omega]⟩
theorem once_new {L acc : List En} {k : Nat} (hL : L.Pairwise (fun x y => leE x y = true)) (hk : k < L.length) (h : OnceInv L k acc) (hn : k = 0 ∨ sameDot (L.getD k en0) (L.getD (k - 1) en0) = false) : OnceInv L (k + 1) (acc ++ [L.getD k en0]) := by
  refine ⟨?_, fun x => by rw [mem_take_succ L k hk, ← h.2 x]; simp⟩
  refine List.pairwise_append.2 ⟨h.1, List.pairwise_singleton _ _, fun x hx y hy => ?_⟩
  obtain rfl := List.mem_singleton.1 hy
  obtain ⟨i, h1, h2, rfl⟩ := mem_take_at ((h.2 x).1 hx)
  rcases hn with h0 | hs
  · omega
  · have ha := ahead_of (le_at hL (k - 1) k (by omega) hk) hs
    by_cases e : i = k - 1
    · rw [e]; exact ha
    · exact ahead_le (le_at hL i (k - 1) (by omega) (by omega)) ha
theorem once_skip {L acc : List En} {k : Nat} (hk : k < L.length) (h0 : 0 < k) (h : OnceInv L k acc) (he : L.getD k en0 = L.getD (k - 1) en0) : OnceInv L (k + 1) acc := by
  refine ⟨h.1, fun x => ?_⟩
  rw [mem_take_succ L k hk, h.2 x]
  constructor
  · exact Or.inl
  · rintro (hx | rfl)
    · exact hx
    · rw [he]
      have : L.getD (k - 1) en0 = L[k - 1]'(by omega) := by simp [List.getD, show k - 1 < L.length by omega]
      rw [this]
      exact List.mem_take_iff_getElem.2 ⟨k - 1, by omega, rfl⟩
theorem getD_mem (L : List En) (k : Nat) (h : k < L.length) : L.getD k en0 ∈ L := by
  have : L.getD k en0 = L[k] := by simp [List.getD, h]
  rw [this]; exact List.getElem_mem _
theorem once_clash {L : List En} {k : Nat} (hk : k < L.length) (hs : sameDot (L.getD k en0) (L.getD (k - 1) en0) = true) (hne : L.getD k en0 ≠ L.getD (k - 1) en0) : Clash L :=
  ⟨_, getD_mem L k hk, _, getD_mem L (k - 1) (by omega), hs, hne⟩
theorem once_done {L acc : List En} (h : OnceInv L L.length acc) : Settled L acc 0 := by
  have hm : ∀ x, x ∈ acc ↔ x ∈ L := fun x => by have := h.2 x; rwa [List.take_length] at this
  exact Or.inr ⟨asc_noclash h.1 hm, rfl, h.1, hm⟩
end Go.Proofs.YtcnciccljblkfaaGreat.K
namespace Go.Proofs
open Go.Shelf
def Tryz.sortEn_ren : Go.Shelf.Ren := ⟨fun | 6 => 68 | 15 => 97 | 14 => 100 | 28 => 129 | 29 => 130 | 20 => 133 | 21 => 134 | 22 => 135 | 23 => 136 | 24 => 137 | 25 => 138 | 26 => 139 | 27 => 140 | 46 => 165 | 47 => 161 | 48 => 162 | 49 => 166 | 50 => 167 | 57 => 185 | n => n, fun | 22 => 22 | 24 => 36 | 25 => 54 | 3 => 3 | 39 => 131 | 0 => 0 | 53 => 160 | 55 => 162 | 4 => 4 | 46 => 154 | 45 => 153 | 50 => 124 | 5 => 5 | 9 => 9 | 66 => 181 | 70 => 185 | 76 => 196 | 77 => 137 | n => n, fun | n => n⟩
theorem Tryz.sortEn : Go.Proofs.SlLaysF0.n6 Tryz.prog Tryz.sortEn_ren := {
  mixed := by kernel_rfl
  f6 := ⟨Tryz.f68.name, by decide, Tryz.func68.trans (congrArg some (by kernel_rfl))⟩
  f14 := ⟨Tryz.f100.name, by decide, Tryz.func100.trans (congrArg some (by kernel_rfl))⟩
  f15 := Tryz.func97.trans (congrArg some (by kernel_rfl))
  f20 := ⟨Tryz.f133.name, by decide, Tryz.func133.trans (congrArg some (by kernel_rfl))⟩
  f21 := ⟨Tryz.f134.name, by decide, Tryz.func134.trans (congrArg some (by kernel_rfl))⟩
  f22 := ⟨Tryz.f135.name, by decide, Tryz.func135.trans (congrArg some (by kernel_rfl))⟩
  f23 := ⟨Tryz.f136.name, by decide, Tryz.func136.trans (congrArg some (by kernel_rfl))⟩
  f24 := ⟨Tryz.f137.name, by decide, Tryz.func137.trans (congrArg some (by kernel_rfl))⟩
  f25 := ⟨Tryz.f138.name, by decide, Tryz.func138.trans (congrArg some (by kernel_rfl))⟩
  f26 := ⟨Tryz.f139.name, by decide, Tryz.func139.trans (congrArg some (by kernel_rfl))⟩
  f27 := ⟨Tryz.f140.name, by decide, Tryz.func140.trans (congrArg some (by kernel_rfl))⟩
  f28 := Tryz.func129.trans (congrArg some (by kernel_rfl))
  f29 := Tryz.func130.trans (congrArg some (by kernel_rfl))
  f46 := ⟨Tryz.f165.name, by decide, Tryz.func165.trans (congrArg some (by kernel_rfl))⟩
  f47 := Tryz.func161.trans (congrArg some (by kernel_rfl))
  f48 := Tryz.func162.trans (congrArg some (by kernel_rfl))
  f49 := ⟨Tryz.f166.name, by decide, Tryz.func166.trans (congrArg some (by kernel_rfl))⟩
  f50 := ⟨Tryz.f167.name, by decide, Tryz.func167.trans (congrArg some (by kernel_rfl))⟩
  f57 := ⟨Tryz.f185.name, by decide, Tryz.func185.trans (congrArg some (by kernel_rfl))⟩
  t0 := Tryz.underlying0
  a0 := Tryz.isAgg0
  z0 := Tryz.sizeOf0
  v0 := Tryz.zeroValue0
  t3 := Tryz.underlying3
  a3 := Tryz.isAgg3
  z3 := Tryz.sizeOf3
  v3 := Tryz.zeroValue3
  t4 := Tryz.underlying4
  a4 := Tryz.isAgg4
  z4 := Tryz.sizeOf4
  v4 := Tryz.zeroValue4
  t5 := Tryz.underlying5
  a5 := Tryz.isAgg5
  z5 := Tryz.sizeOf5
  v5 := Tryz.zeroValue5
  t9 := Tryz.underlying9
  a9 := Tryz.isAgg9
  z9 := Tryz.sizeOf9
  v9 := Tryz.zeroValue9
  t22 := Tryz.underlying22
  a22 := Tryz.isAgg22
  z22 := Tryz.sizeOf22
  v22 := Tryz.zeroValue22
  t25 := Tryz.underlying54
  a25 := Tryz.isAgg54
  z25 := Tryz.sizeOf54
  v25 := Tryz.zeroValue54
  t39 := Tryz.underlying131
  a39 := Tryz.isAgg131
  z39 := Tryz.sizeOf131
  v39 := Tryz.zeroValue131
  t45 := Tryz.underlying153
  a45 := Tryz.isAgg153
  z45 := Tryz.sizeOf153
  v45 := Tryz.zeroValue153
  t46 := Tryz.underlying154
  a46 := Tryz.isAgg154
  z46 := Tryz.sizeOf154
  v46 := Tryz.zeroValue154
  t50 := Tryz.underlying124
  a50 := Tryz.isAgg124
  z50 := Tryz.sizeOf124
  v50 := Tryz.zeroValue124
  t53 := Tryz.underlying160
  a53 := Tryz.isAgg160
  z53 := Tryz.sizeOf160
  v53 := Tryz.zeroValue160
  t55 := Tryz.underlying162
  a55 := Tryz.isAgg162
  z55 := Tryz.sizeOf162
  v55 := Tryz.zeroValue162
  t66 := Tryz.underlying181
  a66 := Tryz.isAgg181
  z66 := Tryz.sizeOf181
  v66 := Tryz.zeroValue181
  t70 := Tryz.underlying185
  a70 := Tryz.isAgg185
  z70 := Tryz.sizeOf185
  v70 := Tryz.zeroValue185
  t76 := Tryz.underlying196
  a76 := Tryz.isAgg196
  z76 := Tryz.sizeOf196
  v76 := Tryz.zeroValue196
  t77 := Tryz.underlying137
  a77 := Tryz.isAgg137
  z77 := Tryz.sizeOf137
  v77 := Tryz.zeroValue137 }
end Go.Proofs
