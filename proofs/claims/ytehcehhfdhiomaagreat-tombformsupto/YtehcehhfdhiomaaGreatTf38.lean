/- BDs LSp BBx TCl TSr -/
import Derived.Test.YtehcehhfdhiomaaGreatTk
import Derived.Test.YtehcehhfdhiomaaGreatTf26
import Derived.Test.YtehcehhfdhiomaaGreatTf37
import Derived.Deep.CutRange
import Derived.Test.YtehcehhfdhiomaaGreatTf33
import Derived.Test.YtehcehhfdhiomaaGreatTf34
import Derived.Test.YtehcehhfdhiomaaGreatTf18
namespace Go.Proofs.YtehcehhfdhiomaaGreat
open Go.RowKit Go.Maps Go.Sort
attribute [local go_sem ↓] ldD_eq stD_eq K.ld28_eq K.st28_eq
attribute [local go_sem] K.cells_EV K.EC_size
theorem keyS : Keyed Tryz.prog 9 := string_keyed Tryz.underlying9
theorem zeroDs (w : World) : (zeroValue 85).run Tryz.prog w = .ok (HsV hs0) w := by kernel_rfl
def dotsS (L : List K.En) (s : ByteArray) : List Rn := (L.filter (fun e => decide (s.size = 0) || decide (e.sku = s))).map dotOf
theorem dotsS_len (L : List K.En) (s : ByteArray) : (dotsS L s).length ≤ L.length := by unfold dotsS; rw [List.length_map]; exact List.length_filter_le _ _
def nilB : ByteArray := ⟨#[]⟩
theorem nilB_of {s : ByteArray} (h : s.size = 0) : s = nilB := by
 obtain ⟨d⟩ := s
 have : d = #[] := Array.eq_empty_of_size_eq_zero h
 rw [this]; rfl
theorem dotsS_snoc {L : List K.En} {e : K.En} (_ : ¬ e.sku.size = 0) (s : ByteArray) :
  rcs (dotsS (L ++ [e]) s) = if s = nilB then rcs (dotsS L s) ++ (RC (dotOf e)).toList else if s = e.sku then rcs (dotsS L s) ++ (RC (dotOf e)).toList else rcs (dotsS L s) := by
 unfold dotsS
 rw [List.filter_append, List.map_append, rcs_append]
 by_cases h0 : s = nilB
 ·subst h0
  have h : List.filter (fun e => decide (nilB.size = 0) || decide (e.sku = nilB)) [e] = [e] := by simp only [show decide (nilB.size = 0) = true from rfl, Bool.true_or, List.filter_cons, List.filter_nil, if_true]
  rw [if_pos rfl, h]
  simp [rcs_one]
 ·have h1 : ¬ s.size = 0 := fun h => h0 (nilB_of h)
  rw [if_neg h0]
  by_cases h2 : s = e.sku
  ·subst h2
   simp [h1, rcs_one]
  ·have h3 : ¬ e.sku = s := fun h => h2 h.symm
   simp [h1, h2, h3, rcs]
def MD (w W : World) (kk : Nat) (L : List K.En) : Prop := ∃ K f, MRo Tryz.prog 9 46 2 (w.heap.size + 1) w W w.heap.size kk K f (fun s => rcs (dotsS L s))
theorem md_app {w W : World} {b B k : Nat} {K : ByteArray → Prop} {f : ByteArray → Hs} {X : ByteArray → List Value} (M : MRo Tryz.prog 9 46 2 B w W b k K f X) (s : ByteArray) (d : Rn) (hn : (f s).n ≤ 8000000000000) :
  ∃ g c2 W2, (Builtin.append_ #[85, 85] 85 #[HsV (f s), .slice (some ⟨W.heap.size, 0, none⟩) 1 1]).run Tryz.prog (W.alloc (.cells (RC d) 46)) = .ok (.slice (some ⟨g, 0, none⟩) ((f s).n + 1) c2) W2 ∧ MRm Tryz.prog 9 46 2 B w W2 b k K f X s ⟨some ⟨g, 0, none⟩, (f s).n + 1, c2⟩ (X s ++ (RC d).toList) ∧ ∀ q, q < W.heap.size → (HsV (f s)).ownBlock ≠ some q → W2.heap[q]? = W.heap[q]? := by
 obtain ⟨i0, hi, hz0, hz1, hz2⟩ := info_parts infoD
 obtain ⟨g, c2, W2, h1, h2, h3⟩ := (M.later (below_new W (.cells (RC d) 46))).app s (ty := 85) Tryz.underlying85 hi hz0 hz1 hz2 (by simp [Value.cells]) (by decide) ⟨W.heap.size, 0, none⟩ 1 (RC d).toList rfl (fun j u hj => by
  rw [Addr.add_lit, Nat.zero_add, World.cell?_alloc_new]
  simpa using hj) (RC_one d) (by unfold maxLen; omega) (by omega)
 exact ⟨g, c2, W2, h1, h2, fun q hq hn => (h3 q (by simp; omega) hn).trans (Below.heap_alloc W _ q hq)⟩
theorem MRo.len {w W : World} {b B k : Nat} {K0 : ByteArray → Prop} {f : ByteArray → Hs} {L : List K.En} (M : MRo Tryz.prog 9 46 2 B w W b k K0 f (fun s => rcs (dotsS L s))) (s : ByteArray) : (f s).n = (dotsS L s).length := by
 have h := (M.rows s).1
 rw [rcs_length] at h
 omega
set_option maxRecDepth 100000 in
set_option maxHeartbeats 3200000 in
theorem dotsBy_any (ao : Option Addr) (n cap : Nat) (L : List K.En) (w : World) (hS : K.ESrc w ao n cap L) (hne : ∀ e ∈ L, ¬ e.sku.size = 0) :
  Calls Tryz.prog 60 #[.slice ao n cap] w fun x w' => ∃ kk, x = .returned (.map (some w.heap.size)) ∧ MD w w' kk L := by
 have HS := hide hS
 have HL : Hid (L.length = n) := hS.1
 have hn := hS.2.2.2.2
 have HNE := hide hne
 have hmm := @run_makeMap Tryz.prog
 obtain ⟨w1, hw1⟩ : ∃ w1, w.alloc (.map #[] 0) = w1 := ⟨_, rfl⟩
 obtain ⟨b, hb⟩ : ∃ b, w.heap.size = b := ⟨_, rfl⟩
 have HM0 : Hid (MD w w1 0 []) := ⟨_, _, hw1 ▸ MRo.start w⟩
 have Hb := hide hb
 clear hS hne
 go_enter Tryz.func60, Tryz.ntmps60
 go_wp2_with fail
 clear hw1 hb
 go_loopw [9] (fun i wr => ∃ k : Nat, k ≤ n ∧ i = .int .i64 (k : Int) ∧ Hid (MD w wr (2 * k) (L.take k))) (fun i _ => n - (intOf i).toNat)
 case atStart => exact ⟨0, Nat.zero_le _, rfl, HM0⟩
 case round =>
  obtain ⟨k, hk, rfl, HM⟩ := hrel
  rename World => wr
  clear HM0
  by_cases hlt : k < n
  ·have hlti : (k : Int) < (n : Int) := by omega
   obtain ⟨K0, f, M⟩ := HM.out
   obtain ⟨ad, hao, A0⟩ := (HS.out.below M.below).at k hlt
   subst hao
   obtain ⟨e, He⟩ : ∃ e, Hid (L.getD k K.en0 = e) := ⟨_, rfl⟩
   have hsk := HS.out.sku k hlt
   have HT := hide (K.take_snoc L k (by rw [HL.out]; exact hlt))
   have hee : ¬ (L.getD k K.en0).sku.size = 0 := HNE.out _ (by rw [List.getD_eq_getElem?_getD, List.getElem?_eq_getElem (by rw [HL.out]; exact hlt)]; exact List.getElem_mem _)
   rw [He.out] at A0 hsk HT hee
   have HEE := hide hee
   have hld := K.run_ld28 A0
   obtain ⟨g7, hg7⟩ : ∃ g7, wr.heap.size = g7 := ⟨_, rfl⟩
   obtain ⟨w7, hst, X7, B7, S7⟩ := K.made wr e g7 hg7
   replace hst : (K.st28 (.pointer (some ⟨g7, 0, none⟩)) (K.EV e)).run Tryz.prog (wr.alloc (.cells #[.int .i64 0, .int .i64 0, .string ⟨#[]⟩, .int .i64 0] 48)) = .ok () w7 := hst
   have M7 := (M.later B7).later (below_drew1 w7)
   have hnl : ∀ s, (f s).n ≤ 8000000000000 := fun s => by rw [M.len s]; have h1 := dotsS_len (L.take k) s; have h2 := List.length_take_le k L; omega
   have hoff : ∀ s, (HsV (f s)).ownBlock ≠ some g7 := fun s h => by have := ((M.rows s).lt g7 h).2; omega
   have HL0 : Hid (∀ W, Below w7.drew.heap.size w7.drew W → (Instr.lookup 95 (.map (some b)) (.string e.sku) false).run Tryz.prog W = .ok (HsV (f e.sku)) W) := fun W hW => by
    have := (M7.later hW).look keyS Tryz.underlying9 Tryz.underlying95 (zeroDs W) e.sku hsk
    rwa [Hb.out] at this
   obtain ⟨g8, c8, w8, ha8, M8, k8⟩ := md_app M7 e.sku (dotOf e) (hnl _)
   obtain ⟨w9, hu9, M9, k9⟩ := M8.put keyS Tryz.underlying9 Tryz.underlying95 hsk (by unfold maxLen; omega)
   rw [Hb.out] at hu9 k9
   have hgb : g7 ≠ b := by have := M.hb; rw [Hb.out] at this; omega
   have z7 : w7.drew.heap[g7]? = w7.heap[g7]? := rfl
   have z8 : w8.heap[g7]? = w7.heap[g7]? := k8 g7 (show g7 < w7.heap.size by omega) (hoff _)
   have z9 : w9.heap[g7]? = w7.heap[g7]? := (k9 g7 (Nat.lt_of_lt_of_le (show g7 < w7.heap.size by omega) (by have := M8.hb.2.2; have := (Array.getElem?_eq_some_iff.1 (z8.trans X7)).1; omega)) hgb).trans z8
   have HSt : Hid (∀ W : World, W.heap[g7]? = w7.heap[g7]? → W.cell? ⟨g7, 2, none⟩ = some (.string e.sku) ∧ (ldD (.pointer (some ⟨g7, 0, none⟩))).run Tryz.prog W = .ok (.agg #[.int .i64 e.rep, .int .i64 e.num]) W) := fun W h => by
    have X : K.Box W g7 48 e := h.trans X7
    exact ⟨X.at.c2, run_ldD (enc_dot X)⟩
   have HZ : Hid (w8.heap[g7]? = w7.heap[g7]? ∧ w9.heap[g7]? = w7.heap[g7]?) := ⟨z8, z9⟩
   have HZA : Hid ((w7.drew.alloc (.cells #[.int .i64 e.rep, .int .i64 e.num] 46)).heap[g7]? = w7.heap[g7]?) := Below.heap_alloc w7.drew _ g7 (show g7 < w7.heap.size by omega)
   have l0 := HL0.out w7.drew (Below.refl _ _)
   have l1 := HL0.out _ (below_new w7.drew (.cells #[.int .i64 e.rep, .int .i64 e.num] 46))
   have l2 : (Instr.lookup 95 (.map (some b)) (.string e.sku) false).run Tryz.prog (w7.alloc (.cells #[.int .i64 e.rep, .int .i64 e.num] 46)).drew = .ok (HsV (f e.sku)) (w7.drew.alloc (.cells #[.int .i64 e.rep, .int .i64 e.num] 46)) := l1
   obtain ⟨K1, f1, X1, M9', hX1⟩ : ∃ K1 f1 X1, MRo Tryz.prog 9 46 2 (w.heap.size + 1) w w9 w.heap.size (2 * k + 1) K1 f1 X1 ∧ ∀ s, X1 s = if s = e.sku then rcs (dotsS (L.take k) s) ++ (RC (dotOf e)).toList else rcs (dotsS (L.take k) s) := ⟨_, _, _, M9, fun s => by
    by_cases h : s = e.sku
    ·subst h; simp
    ·simp [h]⟩
   have hn1 : (f1 nilB).n ≤ 8000000000000 := by
    have h := (M9'.rows nilB).1
    have h1 := dotsS_len (L.take k) nilB
    have h2 := List.length_take_le k L
    rw [hX1] at h
    split at h
    ·rw [List.length_append, rcs_length] at h
     have : (RC (dotOf e)).toList.length = 2 := rfl
     omega
    ·rw [rcs_length] at h
     omega
   have l3 := M9'.look keyS Tryz.underlying9 Tryz.underlying95 (zeroDs w9) nilB (by decide)
   rw [Hb.out] at l3
   obtain ⟨ga, ca, wa, haa, Ma, ka⟩ := md_app M9' nilB (dotOf e) hn1
   obtain ⟨wb, hub, Mb, kb⟩ := Ma.put keyS Tryz.underlying9 Tryz.underlying95 (by decide) (by unfold maxLen; omega)
   rw [Hb.out] at hub
   have HL3 : Hid ((Instr.lookup 95 (.map (some b)) (.string ⟨#[]⟩) false).run Tryz.prog w9 = .ok (.slice (f1 nilB).o (f1 nilB).n (f1 nilB).c) w9) := l3
   have HUB : Hid ((Instr.mapUpdate 95 (.map (some b)) (.string ⟨#[]⟩) (.slice (some ⟨ga, 0, none⟩) ((f1 nilB).n + 1) ca)).run Tryz.prog wa = .ok () wb) := hub
   have HAA : Hid ((Builtin.append_ #[85, 85] 85 #[.slice (f1 nilB).o (f1 nilB).n (f1 nilB).c, .slice (some ⟨w9.heap.size, 0, none⟩) 1 1]).run Tryz.prog (w9.alloc (.cells #[.int .i64 e.rep, .int .i64 e.num] 46)) = .ok (.slice (some ⟨ga, 0, none⟩) ((f1 nilB).n + 1) ca) wa) := haa
   have HMb : Hid (MD w wb (2 * (k + 1)) (L.take (k + 1))) := by
    have hX : (fun s => rcs (dotsS (L.take (k + 1)) s)) = fun u => if u = nilB then X1 nilB ++ (RC (dotOf e)).toList else X1 u := by
     funext s
     rw [HT.out, dotsS_snoc hee s, hX1 s, hX1 nilB]
     have h0 : ¬ nilB = e.sku := fun h => hee (by rw [← h]; rfl)
     by_cases h1 : s = nilB
     ·subst h1; simp [h0]
     ·simp [h1]
    have h := Mb
    rw [← hX] at h
    exact ⟨_, _, h⟩
   have Hlt := hide hlt
   have HA8 : Hid ((Builtin.append_ #[85, 85] 85 #[.slice (f e.sku).o (f e.sku).n (f e.sku).c, .slice (some ⟨w7.heap.size, 0, none⟩) 1 1]).run Tryz.prog (w7.drew.alloc (.cells #[.int .i64 e.rep, .int .i64 e.num] 46)) = .ok (.slice (some ⟨g8, 0, none⟩) ((f e.sku).n + 1) c8) w8) := ha8
   clear A0 X7 B7 S7 M M7 M8 M9 M9' hX1 hn1 l3 haa Ma ka hub Mb kb k8 k9 z7 z8 z9 ha8 hlt hk
   go_upto_region 5 with fail
   clear hst hld
   refine wp_region_held_drew (S := fun W => W.cell? ⟨g7, 2, none⟩ = some (.string e.sku) ∧ (ldD (.pointer (some ⟨g7, 0, none⟩))).run Tryz.prog W = .ok (.agg #[.int .i64 e.rep, .int .i64 e.num]) W) (by kernel_rfl) (HSt.out _ rfl) (fun hHeld => ?_)
   refine wTk 0 ⟨some 13, .move (.tmp 3), 95, "bars.go:53", #[], none⟩ rfl ?_
   refine wTk 1 ⟨some 14, .fieldAddr 48 (.tmp 5) 1, 0, "bars.go:53", #[], none⟩ rfl ?_
   refine wTk 2 ⟨some 15, .load 9 (.tmp 14), 9, "bars.go:53", #[⟨1, .data⟩], none⟩ rfl ?_
   refine wTk 3 ⟨some 16, .move (.tmp 3), 95, "bars.go:53", #[], none⟩ rfl ?_
   refine wTk 4 ⟨some 17, .fieldAddr 48 (.tmp 5) 1, 0, "bars.go:53", #[], none⟩ rfl ?_
   refine wTk 5 ⟨some 18, .load 9 (.tmp 17), 9, "bars.go:53", #[⟨4, .data⟩], none⟩ rfl ?_
   refine wTk 7 ⟨some 20, .fieldAddr 48 (.tmp 5) 0, 0, "bars.go:53", #[], none⟩ rfl ?_
   refine wTk 8 ⟨some 21, .load 46 (.tmp 20), 46, "bars.go:53", #[⟨7, .data⟩], none⟩ rfl ?_
   refine wpAnyH_ready (rs := [6, 9]) (by kernel_rfl) (by simp) ?_
   refine AllReadyH.cons rfl (fun K hK => ?_) ?_
   ·go_simp
    refine hK.out _ _ (HSt.out _ rfl) (fun hHeld => ?_)
    clear hK K
    refine wpAnyH_ready (rs := [9]) (by kernel_rfl) (by simp) (.cons rfl (fun K hK => ?_) .nil)
    go_simp
    refine hK.out _ _ (HSt.out _ HZA.out) (fun hHeld => ?_)
    clear hK K
    refine wpAnyH_ready (rs := [10]) (by kernel_rfl) (by simp) (.cons rfl (fun K hK => ?_) .nil)
    refine step_appM (by rfl) (.tmp 19) (.tmp 22) (by rfl) (by rfl) (by rfl) HA8.out ?_
    refine hK.out _ _ (HSt.out _ HZ.out.1) (fun hHeld => ?_)
    clear hK K
    refine wpAnyH_ready (rs := [11]) (by kernel_rfl) (by simp) (.cons rfl (fun K hK => ?_) .nil)
    go_simp
    refine hK.out _ _ (HSt.out _ HZ.out.2) (fun hHeld => ?_)
    clear hK K
    refine wpAnyH_done (by kernel_rfl) ?_ _
    clear hHeld
    have l3 := HL3.out
    have u3 := HUB.out
    obtain ⟨-, d3⟩ := HSt.out w9 HZ.out.2
    clear l0 l1 l2 hu9
    go_wp2_with (at_builtin; refine seq_appM rfl (.tmp 26) (.tmp 29) rfl rfl rfl HAA.out ?_)
    go_roundw
    case rel => exact ⟨k + 1, Hlt.out, by simp, HMb⟩
    case measure => simp [intOf]; have := Hlt.out; omega
   ·refine AllReadyH.cons rfl (fun K hK => ?_) ?_
    rotate_left
    ·exact AllReadyH.nil
    go_simp
    refine hK.out _ _ (HSt.out _ HZA.out) (fun hHeld => ?_)
    clear hK K
    refine wpAnyH_ready (rs := [6]) (by kernel_rfl) (by simp) (.cons rfl (fun K hK => ?_) .nil)
    go_simp
    refine hK.out _ _ (HSt.out _ HZA.out) (fun hHeld => ?_)
    clear hK K
    refine wpAnyH_ready (rs := [10]) (by kernel_rfl) (by simp) (.cons rfl (fun K hK => ?_) .nil)
    refine step_appM (by rfl) (.tmp 19) (.tmp 22) (by rfl) (by rfl) (by rfl) HA8.out ?_
    refine hK.out _ _ (HSt.out _ HZ.out.1) (fun hHeld => ?_)
    clear hK K
    refine wpAnyH_ready (rs := [11]) (by kernel_rfl) (by simp) (.cons rfl (fun K hK => ?_) .nil)
    go_simp
    refine hK.out _ _ (HSt.out _ HZ.out.2) (fun hHeld => ?_)
    clear hK K
    refine wpAnyH_done (by kernel_rfl) ?_ _
    clear hHeld
    have l3 := HL3.out
    have u3 := HUB.out
    obtain ⟨-, d3⟩ := HSt.out w9 HZ.out.2
    clear l0 l1 l2 hu9
    go_wp2_with (at_builtin; refine seq_appM rfl (.tmp 26) (.tmp 29) rfl rfl rfl HAA.out ?_)
    go_roundw
    case rel => exact ⟨k + 1, Hlt.out, by simp, HMb⟩
    case measure => simp [intOf]; have := Hlt.out; omega
  ·obtain rfl : k = n := by omega
   have HE : Hid (∃ kk, MD w wr kk L) := by
    have h := HM.out
    rw [List.take_of_length_le (by have := HL.out; omega)] at h
    exact ⟨_, h⟩
   go_wp2_with fail
   go_ret
   obtain ⟨kk, h⟩ := HE.out
   exact ⟨kk, by rw [Hb.out]; rfl, h⟩
end Go.Proofs.YtehcehhfdhiomaaGreat
namespace Go.Proofs.YtehcehhfdhiomaaGreat.K
open Go.RowKit

theorem chk_asc {R : List En} (ha : Asc R) (hc : ∀ e ∈ R, ceE e = 0) : chk R = 0 := by
 have key : okN R R.length = true := by
  unfold okN
  rw [List.all_eq_true]
  intro k hk
  have hk' := List.mem_range.1 hk
  unfold okAt
  rw [Bool.and_eq_true]
  refine ⟨?_, ?_⟩
  ·rw [beq_iff_eq]; exact hc _ (getD_mem R k hk')
  ·cases k with
   | zero => rfl
   | succ j =>
    have h := List.pairwise_iff_getElem.1 ha j (j + 1) (by omega) hk' (by omega)
    have e1 : R.getD j en0 = R[j] := by simp [List.getD, show j < R.length by omega]
    have e2 : R.getD (j + 1) en0 = R[j + 1] := by simp [List.getD, hk']
    simp only [Nat.add_sub_cancel, e1, e2, h, Bool.or_true]
 unfold chk; rw [if_pos key]
theorem chk_asc' {R : List En} (h : chk R = 0) : Asc R := by
 refine asc_of_adj R (fun i hi => ?_)
 have := okN_at R _ (chk_zero h) (i + 1) hi
 unfold okAt at this
 rw [Bool.and_eq_true] at this
 simpa using this.2
theorem union_of {A B R U : List En} {er : Int} (hA : Asc A) (hB : Asc B) (hc : ∀ e ∈ R, ceE e = 0) (hR : Asc R) (hm : ∀ x, x ∈ R ↔ x ∈ A ∨ x ∈ B) (h : UnionOf A B U er) : er = 0 ∧ U = R := by
 have ca : chk A = 0 := chk_asc hA (fun e he => hc e ((hm e).2 (Or.inl he)))
 have cb : chk B = 0 := chk_asc hB (fun e he => hc e ((hm e).2 (Or.inr he)))
 have hmm : ∀ x, x ∈ R ↔ x ∈ A ++ B := fun x => by rw [hm, List.mem_append]
 rcases h with ⟨h, _⟩ | ⟨_, h⟩
 ·exact absurd ⟨ca, cb⟩ h
 ·rcases h with ⟨h1, _⟩ | ⟨_, h2, h3, h4⟩
  ·exact absurd h1 (asc_noclash hR hmm)
  ·exact ⟨h2, asc_unique h3 hR (fun x => (h4 x).trans (hmm x).symm)⟩
end Go.Proofs.YtehcehhfdhiomaaGreat.K
namespace Go.Proofs.YtehcehhfdhiomaaGreat
open Go.RowKit
theorem chk_ce {L : List K.En} (h : K.chk L = 0) : ∀ e ∈ L, K.ceE e = 0 := fun e he => by
 obtain ⟨k, hk, rfl⟩ := List.getElem_of_mem he
 have h1 := K.okN_at L _ (K.chk_zero h) k hk
 unfold K.okAt at h1
 rw [Bool.and_eq_true] at h1
 have e1 : L.getD k K.en0 = L[k] := by simp [List.getD, List.getElem?_eq_getElem hk]
 rw [e1] at h1
 simpa using h1.1
theorem ce_dot {e : K.En} (h : K.ceE e = 0) : okD (dotOf e) = true := by
 unfold K.ceE at h
 by_cases h1 : K.isR e.rep = false
 ·rw [if_pos h1] at h; cases h
 ·rw [if_neg h1] at h
  by_cases h2 : e.num < 1 ∨ 1000000000 < e.num
  ·rw [if_pos h2] at h; cases h
  ·have h3 : K.isR e.rep = true := by simpa using h1
   unfold okD dotOf V.isR
   unfold K.isR at h3
   simp only [Bool.and_eq_true, decide_eq_true_eq] at h3 ⊢
   exact ⟨h3, by omega, by omega⟩
theorem dot_one {L : List K.En} (h : K.chk L = 0) {x y : K.En} (hx : x ∈ L) (hy : y ∈ L) (e : dotOf x = dotOf y) : x = y := by
 apply Classical.byContradiction
 intro hn
 refine K.asc_noclash (K.chk_asc' h) (fun _ => Iff.rfl) ⟨x, hx, y, hy, ?_, hn⟩
 unfold dotOf at e
 simp only [Rn.mk.injEq] at e
 simp [K.sameDot, e.1, e.2]
theorem ce_sku {e : K.En} (h : K.ceE e = 0) : ¬ e.sku.size = 0 := by
 intro h0
 have hn : e.sku.data.toList = [] := by
  apply List.eq_nil_of_length_eq_zero
  rw [K.len_at]; exact h0
 unfold K.ceE at h
 by_cases h1 : K.isR e.rep = false
 ·rw [if_pos h1] at h; cases h
 ·rw [if_neg h1] at h
  by_cases h2 : e.num < 1 ∨ 1000000000 < e.num
  ·rw [if_pos h2] at h; cases h
  ·rw [if_neg h2, hn] at h
   have hg : K.good ([] : List UInt8) = false := by decide
   simp [hg] at h
def BX (L : List K.En) (F : List Rc) (X : List Pv) : Prop := (∀ r : Nat, r < 16 → ∀ m, (∃ p ∈ X, mem (runsAt p.P r) m) ↔ ∃ f ∈ F, mem (dotsG (dotsS L f.s) r) m ∧ mem (runsAt f.p.P r) m) ∧ wt X ≤ F.length * (L.length + 1)
theorem BX.nil (L : List K.En) : BX L [] [] := ⟨fun r _ m => by simp, Nat.zero_le _⟩
theorem BX.snoc {L : List K.En} {F : List Rc} {X : List Pv} (h : BX L F X) {f : Rc} {D : Pst} {p : Pv} (hD : CanonOf (dotsG (dotsS L f.s)) D) (hm : ∃ C : Nat → List Rn, (∀ r, r < 16 → MeetOf (runsAt D r) (runsAt f.p.P r) (C r)) ∧ CanonOf C p.P) : BX L (F ++ [f]) (X ++ [p]) := by
 obtain ⟨C, hC, hP⟩ := hm
 have key : ∀ r : Nat, r < 16 → ∀ m, mem (C r) m ↔ mem (dotsG (dotsS L f.s) r) m ∧ mem (runsAt f.p.P r) m := fun r hr m => by rw [(hC r hr).2 m, canon_mem hD r hr m]
 refine ⟨fun r hr m => ?_, ?_⟩
 ·constructor
  ·rintro ⟨q, hq, hm⟩
   rcases List.mem_append.1 hq with hq | hq
   ·obtain ⟨g, hg, h1⟩ := (h.1 r hr m).1 ⟨q, hq, hm⟩
    exact ⟨g, List.mem_append_left _ hg, h1⟩
   ·obtain rfl : q = p := by simpa using hq
    rw [canon_mem hP r hr m, key r hr m] at hm
    exact ⟨f, by simp, hm⟩
  ·rintro ⟨g, hg, h1⟩
   rcases List.mem_append.1 hg with hg | hg
   ·obtain ⟨q, hq, h2⟩ := (h.1 r hr m).2 ⟨g, hg, h1⟩
    exact ⟨q, List.mem_append_left _ hq, h2⟩
   ·obtain rfl : g = f := by simpa using hg
    exact ⟨p, by simp, by rw [canon_mem hP r hr m, key r hr m]; exact h1⟩
 ·have h1 : p.P.cloud.length ≤ (dotsS L f.s).length := canon_count hP _ (fun r hr n hn => by
   obtain ⟨d, hd, -, e1, e2⟩ := (dotsG_mem _ _ _).1 ((key r hr n).1 hn).1
   have : d = ⟨(r : Int), n⟩ := by cases d; simp_all
   rw [← this]; exact hd)
  have h2 := dotsS_len L f.s
  have h3 := h.2
  rw [wt_append, List.length_append]
  simp only [wt, List.length_cons, List.length_nil]
  rw [Nat.add_mul]
  omega
theorem sku_eq {a b : ByteArray} (h : (a.toList == b.toList) = true) : a = b := by
 rw [beq_iff_eq, ByteArray.toList_eq, ByteArray.toList_eq] at h
 cases a; cases b
 simp at h
 rw [h]
theorem sku_refl (a : ByteArray) : (a.toList == a.toList) = true := by simp
theorem nilF_of {s : ByteArray} (h : s.size = 0) : s = nilF := by
 obtain ⟨d⟩ := s
 have : d = #[] := Array.eq_empty_of_size_eq_zero h
 rw [this]; rfl
theorem cov_iff {e : K.En} (he : okD (dotOf e) = true) (r : Rc) : covB r e = true ↔ (r.s = nilF ∨ r.s = e.sku) ∧ mem (runsAt r.p.P e.rep.toNat) e.num := by
 unfold covB
 rw [Bool.and_eq_true, inB_iff, Bool.or_eq_true, decide_eq_true_eq]
 have h1 : V.isR e.rep = true := by
  unfold okD dotOf at he
  simp only [Bool.and_eq_true] at he
  exact he.1
 constructor
 ·rintro ⟨h2, h3⟩
  refine ⟨h2.elim (fun h => .inl (nilF_of h)) (fun h => .inr (sku_eq h)), h3.2⟩
 ·rintro ⟨h2, h3⟩
  refine ⟨h2.elim (fun h => .inl (by rw [h]; rfl)) (fun h => .inr (by rw [h]; exact sku_refl _)), h1, h3⟩
theorem free_of {L : List K.En} {R F : List Rc} (hc : K.chk L = 0) (hF : FoldOf R F) {X : List Pv} (hX : BX L F X) {P : Pst} (hP : CanonOf (runsOf X) P) : L.filter (pkB P false) = L.filter (freeB R) := by
 apply List.filter_congr
 intro e he
 have hd := ce_dot (chk_ce hc e he)
 have hs := ce_sku (chk_ce hc e he)
 have hR : V.isR e.rep = true := by
  have h := hd
  unfold okD dotOf at h
  simp only [Bool.and_eq_true] at h
  exact h.1
 have hr : 0 ≤ e.rep ∧ e.rep < 16 := by simpa [V.isR] using hR
 have hrn : e.rep.toNat < 16 := by omega
 have hdot : ∀ s : ByteArray, mem (dotsG (dotsS L s) e.rep.toNat) e.num ↔ (s = nilF ∨ s = e.sku) := fun s => by
  rw [dotsG_mem]
  unfold dotsS
  constructor
  ·rintro ⟨d, hd1, -, h1, h2⟩
   obtain ⟨x, hx, rfl⟩ := List.mem_map.1 hd1
   obtain ⟨hx1, hx2⟩ := List.mem_filter.1 hx
   have ed : dotOf x = dotOf e := by
    unfold dotOf at h1 h2 ⊢
    simp only at h1 h2
    congr 1
    omega
   have := dot_one hc hx1 he ed
   subst this
   rw [Bool.or_eq_true, decide_eq_true_eq, decide_eq_true_eq] at hx2
   exact hx2.elim (fun h => .inl (nilF_of h)) (fun h => .inr h.symm)
  ·intro h
   refine ⟨dotOf e, List.mem_map.2 ⟨e, List.mem_filter.2 ⟨he, ?_⟩, rfl⟩, hd, by unfold dotOf; simp only; omega, rfl⟩
   rw [Bool.or_eq_true, decide_eq_true_eq, decide_eq_true_eq]
   exact h.elim (fun h => .inl (by rw [h]; rfl)) (fun h => .inr h.symm)
 have hin : inB P e = true ↔ ∃ f ∈ F, (f.s = nilF ∨ f.s = e.sku) ∧ FoldM R f.s e.rep.toNat e.num := by
  rw [inB_iff]
  unfold dotIn
  simp only [hR, true_and]
  rw [canon_mem hP _ hrn, runsOf_mem, hX.1 _ hrn]
  constructor
  ·rintro ⟨f, hf, h1, h2⟩
   refine ⟨f, hf, (hdot f.s).1 h1, ?_⟩
   obtain ⟨C, hC, hI⟩ := (hF.2.1 f hf).2.1
   exact (hI _ hrn _).1 ((canon_mem hC _ hrn _).1 h2)
  ·rintro ⟨f, hf, h1, h2⟩
   refine ⟨f, hf, (hdot f.s).2 h1, ?_⟩
   obtain ⟨C, hC, hI⟩ := (hF.2.1 f hf).2.1
   exact (canon_mem hC _ hrn _).2 ((hI _ hrn _).2 h2)
 have hin2 : inB P e = true ↔ R.any (fun r => covB r e) = true := by
  rw [hin, List.any_eq_true]
  constructor
  ·rintro ⟨f, hf, h1, ⟨x, hx, hxs, hm⟩, -⟩
   exact ⟨x, hx, (cov_iff hd x).2 ⟨by rw [hxs]; exact h1, hm⟩⟩
  ·rintro ⟨r, hr1, hcv⟩
   obtain ⟨h1, h2⟩ := (cov_iff hd r).1 hcv
   have step : ∀ s, (s = nilF ∨ s = e.sku) → FoldM R s e.rep.toNat e.num → ∃ f ∈ F, (f.s = nilF ∨ f.s = e.sku) ∧ FoldM R f.s e.rep.toNat e.num := fun s hs1 hM => by
    obtain ⟨x, hx, hxs, -⟩ := hM.1
    apply Classical.byContradiction
    intro hn
    refine hF.2.2 s ⟨x, hx, hxs⟩ (fun f hf hfs => hn ⟨f, hf, by rw [hfs]; exact hs1, by rw [hfs]; exact hM⟩) _ hrn _ hM
   by_cases hz : ∃ x ∈ R, x.s = nilF ∧ mem (runsAt x.p.P e.rep.toNat) e.num
   ·exact step nilF (.inl rfl) ⟨hz, fun h => absurd rfl h⟩
   ·rcases h1 with h1 | h1
    ·exact absurd ⟨r, hr1, h1, h2⟩ hz
    ·exact step e.sku (.inr rfl) ⟨⟨r, hr1, h1, h2⟩, fun _ => hz⟩
 unfold pkB freeB
 cases h1 : inB P e <;> cases h2 : R.any (fun r => covB r e)
 ·rfl
 ·rw [h1, h2] at hin2; exact absurd (hin2.2 rfl) (by decide)
 ·rw [h1, h2] at hin2; exact absurd (hin2.1 rfl) (by decide)
 ·rfl
theorem free_nil {L : List K.En} {R : List Rc} (hc : K.chk L = 0) (hF : FoldOf R []) : L.filter (freeB R) = L := by
 have h := free_of hc hF (BX.nil L) (P := pv0.P) ⟨fun _ => [], fun _ _ => ⟨trivial, fun _ => Iff.rfl⟩, by decide⟩
 rw [← h]
 apply List.filter_eq_self.2
 intro e _
 have : inB pv0.P e = false := by
  cases hb : inB pv0.P e
  ·rfl
  ·rw [inB_iff] at hb
   unfold dotIn at hb
   obtain ⟨h1, h2⟩ := hb
   exact absurd h2 (by unfold runsAt pv0; simp [vecPart, cloudPart, V.at', mem, V.clamp])
 unfold pkB
 rw [this]
 rfl
end Go.Proofs.YtehcehhfdhiomaaGreat
namespace Go.Proofs.YtehcehhfdhiomaaGreat
open Go.RowKit
def ClE (e : K.En) (g : Fc) : Prop := ∃ y ∈ g.es, K.sameDot y e = true ∧ y ≠ e
def dotE (e : K.En) : Rn := ⟨e.rep, e.num⟩
def ClOf (f g : Fc) (d : Rn) (b : Bool) : Prop := (¬ (FormF f ∧ FormF g) ∧ d = rn0 ∧ b = false) ∨ (FormF f ∧ FormF g ∧ ((b = false ∧ d = rn0 ∧ ∀ i, i < f.an → ¬ ClE (f.es.getD i K.en0) g) ∨ (b = true ∧ ∃ i, i < f.an ∧ ClE (f.es.getD i K.en0) g ∧ (∀ j, j < i → ¬ ClE (f.es.getD j K.en0) g) ∧ d = dotE (f.es.getD i K.en0))))
def ClA (w w' : World) (x : Ending) (f g : Fc) : Prop := ∃ (d : Rn) (b : Bool), x = .returned (.tuple #[RV d, .bool b]) ∧ ClOf f g d b ∧ Below w.heap.size w w'
attribute [local go_sem ↓] ldP_eq stP_eq ldFa_eq stFa_eq ldD_eq stD_eq K.ld28_eq K.st28_eq
attribute [local go_sem] cells_PV PC_size cells_FaV FaC_size cells_RV RC_size zero_RC fold_RC K.zero_EC K.cells_EV K.EC_size
def bldDz (a : Array (Nat × Value)) : Sem Value := Instr.build 46 a
theorem bldDz_eq (a : Array (Nat × Value)) : Instr.build 46 a = bldDz a := rfl
theorem run_bldDz (w : World) : (bldDz #[]).run Tryz.prog w = .ok (RV rn0) w := by kernel_rfl
attribute [local go_sem ↓] bldDz_eq
attribute [local go_sem] run_bldDz
end Go.Proofs.YtehcehhfdhiomaaGreat
namespace Go.Proofs.YtehcehhfdhiomaaGreat
open Go.RowKit
attribute [local go_sem ↓] K.ld28_eq K.st28_eq K.run_eq28 ldP_eq stP_eq ldRe_eq stRe_eq
attribute [local go_sem] K.zero_EC K.cells_EV cells_PV PC_size
def EqF (f g : Fc) : Prop := f.es = g.es ∧ f.p.P = g.p.P ∧ plR f.rs = plR g.rs
attribute [local go_sem ↓] ldFa_eq stFa_eq
attribute [local go_sem] cells_FaV FaC_size
end Go.Proofs.YtehcehhfdhiomaaGreat
