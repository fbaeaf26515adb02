/- BDs LPu LLtr LSrt LDd LShf LMr LOnc -/
import Derived.Test.YtfpmijfcemopoaaGreatTk
import Derived.Test.YtfpmijfcemopoaaGreatKb14
import Derived.Test.YtfpmijfcemopoaaGreatKb35
import Derived.Deep.CutRange
import Derived.Below
import Derived.Test.YtfpmijfcemopoaaGreatKb22
import Derived.Laws.MakeOwn
import Derived.Deep.LoopGhost
import Derived.Lib.SlicesCompact
import Derived.Shelf.SlSortCmp.WholeK
import Derived.Test.YtfpmijfcemopoaaGreatProg
import Derived.Shelf.SlicesQ.Reverse
import Derived.Lib.OwnBridge
import Derived.Test.YtfpmijfcemopoaaGreatKb27
namespace Go.Proofs.YtfpmijfcemopoaaGreat
open Go.RowKit Go.Maps Go.Sort
attribute [local go_sem ↓] ldD_eq stD_eq K.ld28_eq K.st28_eq
attribute [local go_sem] K.cells_EV K.EC_size
theorem keyS : Keyed Tryz.prog 9 := string_keyed Tryz.underlying9
theorem zeroDs (w : World) : (zeroValue 58).run Tryz.prog w = .ok (HsV hs0) w := by kernel_rfl
def dotsS (L : List K.En) (s : ByteArray) : List Rn := (L.filter (fun e => decide (s.size = 0) || decide (e.sku = s))).map dotOf
theorem dotsS_len (L : List K.En) (s : ByteArray) : (dotsS L s).length ≤ L.length := by unfold dotsS; rw [List.length_map]; exact List.length_filter_le _ _
def nilB : ByteArray := ⟨#[]⟩
theorem nilB_of {s : ByteArray} (h : s.size = 0) : s = nilB := by
 obtain ⟨d⟩ := s
 have : d = #[] := Array.eq_empty_of_size_eq_zero h
 rw [this]; rfl
theorem dotsS_snoc {L : List K.En} {e : K.En} (_ : ¬ e.sku.size = 0) (s : ByteArray) :
  rcs (dotsS (L ++ [e]) s) = if s = nilB then rcs (dotsS L s) ++ (RC (dotOf e)).toList else if s = e.sku then rcs (dotsS L s) ++ (RC (dotOf e)).toList else rcs (dotsS L s) := by
 unfold dotsS
 rw [List.filter_append, List.map_append, rcs_append]
 by_cases h0 : s = nilB
 ·subst h0
  have h : List.filter (fun e => decide (nilB.size = 0) || decide (e.sku = nilB)) [e] = [e] := by simp only [show decide (nilB.size = 0) = true from rfl, Bool.true_or, List.filter_cons, List.filter_nil, if_true]
  rw [if_pos rfl, h]
  simp [rcs_one]
 ·have h1 : ¬ s.size = 0 := fun h => h0 (nilB_of h)
  rw [if_neg h0]
  by_cases h2 : s = e.sku
  ·subst h2
   simp [h1, rcs_one]
  ·have h3 : ¬ e.sku = s := fun h => h2 h.symm
   simp [h1, h2, h3, rcs]
def MD (w W : World) (kk : Nat) (L : List K.En) : Prop := ∃ K f, MRo Tryz.prog 9 47 2 (w.heap.size + 1) w W w.heap.size kk K f (fun s => rcs (dotsS L s))
theorem md_app {w W : World} {b B k : Nat} {K : ByteArray → Prop} {f : ByteArray → Hs} {X : ByteArray → List Value} (M : MRo Tryz.prog 9 47 2 B w W b k K f X) (s : ByteArray) (d : Rn) (hn : (f s).n ≤ 8000000000000) :
  ∃ g c2 W2, (Builtin.append_ #[58, 58] 58 #[HsV (f s), .slice (some ⟨W.heap.size, 0, none⟩) 1 1]).run Tryz.prog (W.alloc (.cells (RC d) 47)) = .ok (.slice (some ⟨g, 0, none⟩) ((f s).n + 1) c2) W2 ∧ MRm Tryz.prog 9 47 2 B w W2 b k K f X s ⟨some ⟨g, 0, none⟩, (f s).n + 1, c2⟩ (X s ++ (RC d).toList) ∧ ∀ q, q < W.heap.size → (HsV (f s)).ownBlock ≠ some q → W2.heap[q]? = W.heap[q]? := by
 obtain ⟨i0, hi, hz0, hz1, hz2⟩ := info_parts infoD
 obtain ⟨g, c2, W2, h1, h2, h3⟩ := (M.later (below_new W (.cells (RC d) 47))).app s (ty := 58) Tryz.underlying58 hi hz0 hz1 hz2 (by simp [Value.cells]) (by decide) ⟨W.heap.size, 0, none⟩ 1 (RC d).toList rfl (fun j u hj => by
  rw [Addr.add_lit, Nat.zero_add, World.cell?_alloc_new]
  simpa using hj) (RC_one d) (by unfold maxLen; omega) (by omega)
 exact ⟨g, c2, W2, h1, h2, fun q hq hn => (h3 q (by simp; omega) hn).trans (Below.heap_alloc W _ q hq)⟩
theorem MRo.len {w W : World} {b B k : Nat} {K0 : ByteArray → Prop} {f : ByteArray → Hs} {L : List K.En} (M : MRo Tryz.prog 9 47 2 B w W b k K0 f (fun s => rcs (dotsS L s))) (s : ByteArray) : (f s).n = (dotsS L s).length := by
 have h := (M.rows s).1
 rw [rcs_length] at h
 omega
set_option maxRecDepth 100000 in
set_option maxHeartbeats 3200000 in
theorem dotsBy_any (ao : Option Addr) (n cap : Nat) (L : List K.En) (w : World) (hS : K.ESrc w ao n cap L) (hne : ∀ e ∈ L, ¬ e.sku.size = 0) :
  Calls Tryz.prog 57 #[.slice ao n cap] w fun x w' => ∃ kk, x = .returned (.map (some w.heap.size)) ∧ MD w w' kk L := by
 have HS := hide hS
 have HL : Hid (L.length = n) := hS.1
 have hn := hS.2.2.2.2
 have HNE := hide hne
 have hmm := @run_makeMap Tryz.prog
 obtain ⟨w1, hw1⟩ : ∃ w1, w.alloc (.map #[] 0) = w1 := ⟨_, rfl⟩
 obtain ⟨b, hb⟩ : ∃ b, w.heap.size = b := ⟨_, rfl⟩
 have HM0 : Hid (MD w w1 0 []) := ⟨_, _, hw1 ▸ MRo.start w⟩
 have Hb := hide hb
 clear hS hne
 go_enter Tryz.func57, Tryz.ntmps57
 go_wp2_with fail
 clear hw1 hb
 go_loopw [9] (fun i wr => ∃ k : Nat, k ≤ n ∧ i = .int .i64 (k : Int) ∧ Hid (MD w wr (2 * k) (L.take k))) (fun i _ => n - (intOf i).toNat)
 case atStart => exact ⟨0, Nat.zero_le _, rfl, HM0⟩
 case round =>
  obtain ⟨k, hk, rfl, HM⟩ := hrel
  rename World => wr
  clear HM0
  by_cases hlt : k < n
  ·have hlti : (k : Int) < (n : Int) := by omega
   obtain ⟨K0, f, M⟩ := HM.out
   obtain ⟨ad, hao, A0⟩ := (HS.out.below M.below).at k hlt
   subst hao
   obtain ⟨e, He⟩ : ∃ e, Hid (L.getD k K.en0 = e) := ⟨_, rfl⟩
   have hsk := HS.out.sku k hlt
   have HT := hide (K.take_snoc L k (by rw [HL.out]; exact hlt))
   have hee : ¬ (L.getD k K.en0).sku.size = 0 := HNE.out _ (by rw [List.getD_eq_getElem?_getD, List.getElem?_eq_getElem (by rw [HL.out]; exact hlt)]; exact List.getElem_mem _)
   rw [He.out] at A0 hsk HT hee
   have HEE := hide hee
   have hld := K.run_ld28 A0
   obtain ⟨g7, hg7⟩ : ∃ g7, wr.heap.size = g7 := ⟨_, rfl⟩
   obtain ⟨w7, hst, X7, B7, S7⟩ := K.made wr e g7 hg7
   replace hst : (K.st28 (.pointer (some ⟨g7, 0, none⟩)) (K.EV e)).run Tryz.prog (wr.alloc (.cells #[.int .i64 0, .int .i64 0, .string ⟨#[]⟩, .int .i64 0] 49)) = .ok () w7 := hst
   have M7 := (M.later B7).later (below_drew1 w7)
   have hnl : ∀ s, (f s).n ≤ 8000000000000 := fun s => by rw [M.len s]; have h1 := dotsS_len (L.take k) s; have h2 := List.length_take_le k L; omega
   have hoff : ∀ s, (HsV (f s)).ownBlock ≠ some g7 := fun s h => by have := ((M.rows s).lt g7 h).2; omega
   have HL0 : Hid (∀ W, Below w7.drew.heap.size w7.drew W → (Instr.lookup 76 (.map (some b)) (.string e.sku) false).run Tryz.prog W = .ok (HsV (f e.sku)) W) := fun W hW => by
    have := (M7.later hW).look keyS Tryz.underlying9 Tryz.underlying76 (zeroDs W) e.sku hsk
    rwa [Hb.out] at this
   obtain ⟨g8, c8, w8, ha8, M8, k8⟩ := md_app M7 e.sku (dotOf e) (hnl _)
   obtain ⟨w9, hu9, M9, k9⟩ := M8.put keyS Tryz.underlying9 Tryz.underlying76 hsk (by unfold maxLen; omega)
   rw [Hb.out] at hu9 k9
   have hgb : g7 ≠ b := by have := M.hb; rw [Hb.out] at this; omega
   have z7 : w7.drew.heap[g7]? = w7.heap[g7]? := rfl
   have z8 : w8.heap[g7]? = w7.heap[g7]? := k8 g7 (show g7 < w7.heap.size by omega) (hoff _)
   have z9 : w9.heap[g7]? = w7.heap[g7]? := (k9 g7 (Nat.lt_of_lt_of_le (show g7 < w7.heap.size by omega) (by have := M8.hb.2.2; have := (Array.getElem?_eq_some_iff.1 (z8.trans X7)).1; omega)) hgb).trans z8
   have HSt : Hid (∀ W : World, W.heap[g7]? = w7.heap[g7]? → W.cell? ⟨g7, 2, none⟩ = some (.string e.sku) ∧ (ldD (.pointer (some ⟨g7, 0, none⟩))).run Tryz.prog W = .ok (.agg #[.int .i64 e.rep, .int .i64 e.num]) W) := fun W h => by
    have X : K.Box W g7 49 e := h.trans X7
    exact ⟨X.at.c2, run_ldD (enc_dot X)⟩
   have HZ : Hid (w8.heap[g7]? = w7.heap[g7]? ∧ w9.heap[g7]? = w7.heap[g7]?) := ⟨z8, z9⟩
   have HZA : Hid ((w7.drew.alloc (.cells #[.int .i64 e.rep, .int .i64 e.num] 47)).heap[g7]? = w7.heap[g7]?) := Below.heap_alloc w7.drew _ g7 (show g7 < w7.heap.size by omega)
   have l0 := HL0.out w7.drew (Below.refl _ _)
   have l1 := HL0.out _ (below_new w7.drew (.cells #[.int .i64 e.rep, .int .i64 e.num] 47))
   have l2 : (Instr.lookup 76 (.map (some b)) (.string e.sku) false).run Tryz.prog (w7.alloc (.cells #[.int .i64 e.rep, .int .i64 e.num] 47)).drew = .ok (HsV (f e.sku)) (w7.drew.alloc (.cells #[.int .i64 e.rep, .int .i64 e.num] 47)) := l1
   obtain ⟨K1, f1, X1, M9', hX1⟩ : ∃ K1 f1 X1, MRo Tryz.prog 9 47 2 (w.heap.size + 1) w w9 w.heap.size (2 * k + 1) K1 f1 X1 ∧ ∀ s, X1 s = if s = e.sku then rcs (dotsS (L.take k) s) ++ (RC (dotOf e)).toList else rcs (dotsS (L.take k) s) := ⟨_, _, _, M9, fun s => by
    by_cases h : s = e.sku
    ·subst h; simp
    ·simp [h]⟩
   have hn1 : (f1 nilB).n ≤ 8000000000000 := by
    have h := (M9'.rows nilB).1
    have h1 := dotsS_len (L.take k) nilB
    have h2 := List.length_take_le k L
    rw [hX1] at h
    split at h
    ·rw [List.length_append, rcs_length] at h
     have : (RC (dotOf e)).toList.length = 2 := rfl
     omega
    ·rw [rcs_length] at h
     omega
   have l3 := M9'.look keyS Tryz.underlying9 Tryz.underlying76 (zeroDs w9) nilB (by decide)
   rw [Hb.out] at l3
   obtain ⟨ga, ca, wa, haa, Ma, ka⟩ := md_app M9' nilB (dotOf e) hn1
   obtain ⟨wb, hub, Mb, kb⟩ := Ma.put keyS Tryz.underlying9 Tryz.underlying76 (by decide) (by unfold maxLen; omega)
   rw [Hb.out] at hub
   have HL3 : Hid ((Instr.lookup 76 (.map (some b)) (.string ⟨#[]⟩) false).run Tryz.prog w9 = .ok (.slice (f1 nilB).o (f1 nilB).n (f1 nilB).c) w9) := l3
   have HUB : Hid ((Instr.mapUpdate 76 (.map (some b)) (.string ⟨#[]⟩) (.slice (some ⟨ga, 0, none⟩) ((f1 nilB).n + 1) ca)).run Tryz.prog wa = .ok () wb) := hub
   have HAA : Hid ((Builtin.append_ #[58, 58] 58 #[.slice (f1 nilB).o (f1 nilB).n (f1 nilB).c, .slice (some ⟨w9.heap.size, 0, none⟩) 1 1]).run Tryz.prog (w9.alloc (.cells #[.int .i64 e.rep, .int .i64 e.num] 47)) = .ok (.slice (some ⟨ga, 0, none⟩) ((f1 nilB).n + 1) ca) wa) := haa
   have HMb : Hid (MD w wb (2 * (k + 1)) (L.take (k + 1))) := by
    have hX : (fun s => rcs (dotsS (L.take (k + 1)) s)) = fun u => if u = nilB then X1 nilB ++ (RC (dotOf e)).toList else X1 u := by
     funext s
     rw [HT.out, dotsS_snoc hee s, hX1 s, hX1 nilB]
     have h0 : ¬ nilB = e.sku := fun h => hee (by rw [← h]; rfl)
     by_cases h1 : s = nilB
     ·subst h1; simp [h0]
     ·simp [h1]
    have h := Mb
    rw [← hX] at h
    exact ⟨_, _, h⟩
   have Hlt := hide hlt
   have HA8 : Hid ((Builtin.append_ #[58, 58] 58 #[.slice (f e.sku).o (f e.sku).n (f e.sku).c, .slice (some ⟨w7.heap.size, 0, none⟩) 1 1]).run Tryz.prog (w7.drew.alloc (.cells #[.int .i64 e.rep, .int .i64 e.num] 47)) = .ok (.slice (some ⟨g8, 0, none⟩) ((f e.sku).n + 1) c8) w8) := ha8
   clear A0 X7 B7 S7 M M7 M8 M9 M9' hX1 hn1 l3 haa Ma ka hub Mb kb k8 k9 z7 z8 z9 ha8 hlt hk
   go_upto_region 5 with fail
   clear hst hld
   refine wp_region_held_drew (S := fun W => W.cell? ⟨g7, 2, none⟩ = some (.string e.sku) ∧ (ldD (.pointer (some ⟨g7, 0, none⟩))).run Tryz.prog W = .ok (.agg #[.int .i64 e.rep, .int .i64 e.num]) W) (by kernel_rfl) (HSt.out _ rfl) (fun hHeld => ?_)
   refine wTk 0 ⟨some 13, .move (.tmp 3), 76, "bars.go:53", #[], none⟩ rfl ?_
   refine wTk 1 ⟨some 14, .fieldAddr 49 (.tmp 5) 1, 0, "bars.go:53", #[], none⟩ rfl ?_
   refine wTk 2 ⟨some 15, .load 9 (.tmp 14), 9, "bars.go:53", #[⟨1, .data⟩], none⟩ rfl ?_
   refine wTk 3 ⟨some 16, .move (.tmp 3), 76, "bars.go:53", #[], none⟩ rfl ?_
   refine wTk 4 ⟨some 17, .fieldAddr 49 (.tmp 5) 1, 0, "bars.go:53", #[], none⟩ rfl ?_
   refine wTk 5 ⟨some 18, .load 9 (.tmp 17), 9, "bars.go:53", #[⟨4, .data⟩], none⟩ rfl ?_
   refine wTk 7 ⟨some 20, .fieldAddr 49 (.tmp 5) 0, 0, "bars.go:53", #[], none⟩ rfl ?_
   refine wTk 8 ⟨some 21, .load 47 (.tmp 20), 47, "bars.go:53", #[⟨7, .data⟩], none⟩ rfl ?_
   refine wpAnyH_ready (rs := [6, 9]) (by kernel_rfl) (by simp) ?_
   refine AllReadyH.cons rfl (fun K hK => ?_) ?_
   ·go_simp
    refine hK.out _ _ (HSt.out _ rfl) (fun hHeld => ?_)
    clear hK K
    refine wpAnyH_ready (rs := [9]) (by kernel_rfl) (by simp) (.cons rfl (fun K hK => ?_) .nil)
    go_simp
    refine hK.out _ _ (HSt.out _ HZA.out) (fun hHeld => ?_)
    clear hK K
    refine wpAnyH_ready (rs := [10]) (by kernel_rfl) (by simp) (.cons rfl (fun K hK => ?_) .nil)
    refine step_appM (by rfl) (.tmp 19) (.tmp 22) (by rfl) (by rfl) (by rfl) HA8.out ?_
    refine hK.out _ _ (HSt.out _ HZ.out.1) (fun hHeld => ?_)
    clear hK K
    refine wpAnyH_ready (rs := [11]) (by kernel_rfl) (by simp) (.cons rfl (fun K hK => ?_) .nil)
    go_simp
    refine hK.out _ _ (HSt.out _ HZ.out.2) (fun hHeld => ?_)
    clear hK K
    refine wpAnyH_done (by kernel_rfl) ?_ _
    clear hHeld
    have l3 := HL3.out
    have u3 := HUB.out
    obtain ⟨-, d3⟩ := HSt.out w9 HZ.out.2
    clear l0 l1 l2 hu9
    go_wp2_with (at_builtin; refine seq_appM rfl (.tmp 26) (.tmp 29) rfl rfl rfl HAA.out ?_)
    go_roundw
    case rel => exact ⟨k + 1, Hlt.out, by simp, HMb⟩
    case measure => simp [intOf]; have := Hlt.out; omega
   ·refine AllReadyH.cons rfl (fun K hK => ?_) ?_
    rotate_left
    ·exact AllReadyH.nil
    go_simp
    refine hK.out _ _ (HSt.out _ HZA.out) (fun hHeld => ?_)
    clear hK K
    refine wpAnyH_ready (rs := [6]) (by kernel_rfl) (by simp) (.cons rfl (fun K hK => ?_) .nil)
    go_simp
    refine hK.out _ _ (HSt.out _ HZA.out) (fun hHeld => ?_)
    clear hK K
    refine wpAnyH_ready (rs := [10]) (by kernel_rfl) (by simp) (.cons rfl (fun K hK => ?_) .nil)
    refine step_appM (by rfl) (.tmp 19) (.tmp 22) (by rfl) (by rfl) (by rfl) HA8.out ?_
    refine hK.out _ _ (HSt.out _ HZ.out.1) (fun hHeld => ?_)
    clear hK K
    refine wpAnyH_ready (rs := [11]) (by kernel_rfl) (by simp) (.cons rfl (fun K hK => ?_) .nil)
    go_simp
    refine hK.out _ _ (HSt.out _ HZ.out.2) (fun hHeld => ?_)
    clear hK K
    refine wpAnyH_done (by kernel_rfl) ?_ _
    clear hHeld
    have l3 := HL3.out
    have u3 := HUB.out
    obtain ⟨-, d3⟩ := HSt.out w9 HZ.out.2
    clear l0 l1 l2 hu9
    go_wp2_with (at_builtin; refine seq_appM rfl (.tmp 26) (.tmp 29) rfl rfl rfl HAA.out ?_)
    go_roundw
    case rel => exact ⟨k + 1, Hlt.out, by simp, HMb⟩
    case measure => simp [intOf]; have := Hlt.out; omega
  ·obtain rfl : k = n := by omega
   have HE : Hid (∃ kk, MD w wr kk L) := by
    have h := HM.out
    rw [List.take_of_length_le (by have := HL.out; omega)] at h
    exact ⟨_, h⟩
   go_wp2_with fail
   go_ret
   obtain ⟨kk, h⟩ := HE.out
   exact ⟨kk, by rw [Hb.out]; rfl, h⟩
end Go.Proofs.YtfpmijfcemopoaaGreat
namespace Go.Proofs.YtfpmijfcemopoaaGreat.K


def Chunked {α : Type} (le : α → α → Prop) (w : Nat) (L : List α) : Prop := ∀ q, ((L.drop (q * w)).take w).Pairwise le
theorem chunked_nil {α : Type} (le : α → α → Prop) (w : Nat) : Chunked le w [] := by intro q; simp
theorem chunked_snoc {α : Type} {le : α → α → Prop} {w q0 : Nat} {M X : List α} (hM : Chunked le w M) (hl : M.length = q0 * w) (hX : X.Pairwise le) (hXl : X.length ≤ w) : Chunked le w (M ++ X) := by
 intro q
 by_cases h : q < q0
 ·have e : q * w + w ≤ M.length := by rw [hl, ← Nat.succ_mul]; exact Nat.mul_le_mul_right _ h
  rw [List.drop_append_of_le_length (by omega), List.take_append_of_le_length (by rw [List.length_drop]; omega)]
  exact hM q
 ·have e : M.length ≤ q * w := by rw [hl]; exact Nat.mul_le_mul_right _ (by omega)
  rw [List.drop_append, List.drop_eq_nil_of_le e, List.nil_append]
  exact (hX.sublist (List.drop_sublist _ _)).sublist (List.take_sublist _ _)
def mrg {α : Type} (le : α → α → Bool) (L : List α) (i mid j en : Nat) : List α := List.merge ((L.drop i).take (mid - i)) ((L.drop j).take (en - j)) le
theorem seg_split {α : Type} (L : List α) (a b c : Nat) (h : a ≤ b) (h2 : b ≤ c) : (L.drop a).take (b - a) ++ (L.drop b).take (c - b) = (L.drop a).take (c - a) := by
 have e : c - a = (b - a) + (c - b) := by omega
 rw [e, List.take_add, List.drop_drop, show a + (b - a) = b by omega]
theorem mrg_perm {α : Type} (le : α → α → Bool) (L : List α) (a mid en : Nat) (h : a ≤ mid) (h2 : mid ≤ en) : (mrg le L a mid mid en).Perm ((L.drop a).take (en - a)) := by
 unfold mrg
 refine (List.merge_perm_append le).trans ?_
 rw [seg_split L a mid en h h2]
theorem mrg_sorted {α : Type} {le : α → α → Bool} (ht : ∀ a b c, le a b = true → le b c = true → le a c = true) (hto : ∀ a b, (le a b || le b a) = true) (L : List α) (w q mid en : Nat) (h : Chunked (fun x y => le x y = true) w L) (hm : mid = min (2 * q * w + w) L.length) (he : en = min (mid + w) L.length) :
  (mrg le L (2 * q * w) mid mid en).Pairwise (fun x y => le x y = true) := by
 unfold mrg
 refine List.pairwise_merge ht hto _ _ ?_ ?_
 ·have h1 := h (2 * q)
  exact h1.sublist (List.take_sublist_take_left (by omega))
 ·by_cases hl : 2 * q * w + w ≤ L.length
  ·have h1 := h (2 * q + 1)
   have e : (2 * q + 1) * w = mid := by rw [hm, Nat.min_eq_left hl, Nat.add_mul, Nat.one_mul]
   rw [e] at h1
   exact h1.sublist (List.take_sublist_take_left (by omega))
  ·have : L.drop mid = [] := List.drop_eq_nil_of_le (by omega)
   rw [this]; simp
structure Pass {α : Type} (le : α → α → Bool) (L M : List α) (n q f t : Nat) : Prop where
 hf : f = 2 * t * q
 hl : M.length = min f n
 hp : M.Perm (L.take f)
 hc : Chunked (fun x y => le x y = true) (2 * q) M
theorem Pass.start {α : Type} (le : α → α → Bool) (L : List α) (n q : Nat) : Pass le L [] n q 0 0 := ⟨by simp, by simp, by simp, chunked_nil _ _⟩
theorem Pass.step {α : Type} {le : α → α → Bool} (ht : ∀ a b c, le a b = true → le b c = true → le a c = true) (hto : ∀ a b, (le a b || le b a) = true) {L M : List α} {n q f t mid en : Nat} (P : Pass le L M n q f t) (hn : L.length = n) (hlt : f < n) (hC : Chunked (fun x y => le x y = true) q L)
  (hm : mid = min (f + q) n) (he : en = min (mid + q) n) : Pass le L (M ++ mrg le L f mid mid en) n q (f + 2 * q) (t + 1) := by
 have h1 := mrg_perm le L f mid en (by omega) (by omega)
 have hs := mrg_sorted ht hto L q t mid en hC (by rw [hn, ← P.hf]; exact hm) (by rw [hn]; exact he)
 rw [← P.hf] at hs
 have hxl : (mrg le L f mid mid en).length = en - f := by rw [h1.length_eq, List.length_take, List.length_drop]; omega
 have hml : M.length = f := by rw [P.hl]; omega
 refine ⟨?_, ?_, ?_, ?_⟩
 ·rw [P.hf, Nat.mul_add, Nat.add_mul]
 ·rw [List.length_append, hxl, hml]; omega
 ·refine (P.hp.append h1).trans ?_
  have e : L.take (f + 2 * q) = L.take en := by
   by_cases h : f + 2 * q ≤ n
   ·rw [show en = f + 2 * q by omega]
   ·rw [List.take_of_length_le (by omega), List.take_of_length_le (by omega)]
  have e2 := seg_split L 0 f en (by omega) (by omega)
  simp only [List.drop_zero, Nat.sub_zero] at e2
  rw [e, e2]
 ·exact chunked_snoc P.hc (q0 := t) (by rw [hml, P.hf, Nat.mul_comm 2 t, Nat.mul_assoc]) hs (by rw [hxl]; omega)
theorem Pass.done {α : Type} {le : α → α → Bool} {L M : List α} {n q f t : Nat} (P : Pass le L M n q f t) (hn : L.length = n) (h : n ≤ f) : M.Perm L ∧ Chunked (fun x y => le x y = true) (2 * q) M ∧ M.length = n :=
 ⟨by have := P.hp; rwa [List.take_of_length_le (by omega)] at this, P.hc, by rw [P.hl]; omega⟩
end Go.Proofs.YtfpmijfcemopoaaGreat.K
namespace Go.Proofs.YtfpmijfcemopoaaGreat.K
open Go.RowKit
attribute [local go_sem ↓] ld28_eq st28_eq ld26_eq
attribute [local go_sem] zero_EC cells_EV EC_size
def leE (x y : En) : Bool := !ahead y x
end Go.Proofs.YtfpmijfcemopoaaGreat.K
namespace Go.Proofs.YtfpmijfcemopoaaGreat.K
open Go.RowKit
attribute [local go_sem ↓] ld28_eq st28_eq
attribute [local go_sem] zero_EC cells_EV EC_size
attribute [local go_sem] fold_EC
def mk22 (a b : Value) : Sem Value := Instr.makeSlice 23 a b
theorem mk22_eq (a b : Value) : Instr.makeSlice 23 a b = mk22 a b := rfl
attribute [local go_sem ↓] mk22_eq
def InOrder (L R : List En) : Prop := R.Perm L ∧ R.Pairwise (fun x y => leE x y = true)
def GivesS (w w' : World) (e : Ending) (L : List En) : Prop := ∃ R, InOrder L R ∧ GivesE w w' e R
end Go.Proofs.YtfpmijfcemopoaaGreat.K
namespace Go.Proofs.YtfpmijfcemopoaaGreat.K
open Go.RowKit

instance : DecidableEq En := fun a b =>
 decidable_of_iff (a.rep = b.rep ∧ a.num = b.num ∧ a.sku = b.sku ∧ a.qty = b.qty) ⟨fun ⟨h1, h2, h3, h4⟩ => by cases a; cases b; simp_all, fun h => by subst h; exact ⟨rfl, rfl, rfl, rfl⟩⟩
instance : Inhabited En := ⟨en0⟩
def sameDot (x y : En) : Bool := x.rep == y.rep && x.num == y.num
theorem ahead_of {x y : En} (h : leE x y = true) (hs : sameDot y x = false) : ahead x y = true := by
 simp [leE, ahead, sameDot] at *; omega
theorem ahead_trans {x y z : En} (h : ahead x y = true) (h2 : ahead y z = true) : ahead x z = true := by
 simp [ahead] at *; omega
theorem ahead_irr (x : En) : ahead x x = false := by simp [ahead]
theorem ahead_asymm {x y : En} (h : ahead x y = true) : ahead y x = false := by
 simp [ahead] at *; omega
theorem ahead_same {x y : En} (h : ahead x y = true) : sameDot x y = false := by
 simp [ahead, sameDot] at *; omega
theorem same_symm {x y : En} : sameDot x y = sameDot y x := by
 simp [sameDot, Bool.beq_comm]
def Clash (L : List En) : Prop := ∃ x, x ∈ L ∧ ∃ y, y ∈ L ∧ sameDot x y = true ∧ x ≠ y
def Asc (R : List En) : Prop := R.Pairwise (fun x y => ahead x y = true)
def Settled (L R : List En) (e : Int) : Prop := (Clash L ∧ R = [] ∧ e = 10) ∨ (¬ Clash L ∧ e = 0 ∧ Asc R ∧ ∀ x, x ∈ R ↔ x ∈ L)
theorem asc_unique : ∀ {R R' : List En}, Asc R → Asc R' → (∀ x, x ∈ R ↔ x ∈ R') → R = R'
 | [], [], _, _, _ => rfl
 | [], b :: _, _, _, h => absurd ((h b).2 (List.mem_cons_self ..)) (by simp)
 | a :: _, [], _, _, h => absurd ((h a).1 (List.mem_cons_self ..)) (by simp)
 | a :: R, b :: R', h1, h2, h => by
  obtain ⟨a1, a2⟩ := List.pairwise_cons.1 h1
  obtain ⟨b1, b2⟩ := List.pairwise_cons.1 h2
  have e : a = b := by
   rcases List.mem_cons.1 ((h a).1 (List.mem_cons_self ..)) with e | e
   ·exact e
   ·rcases List.mem_cons.1 ((h b).2 (List.mem_cons_self ..)) with e' | e'
    ·exact e'.symm
    ·have := ahead_asymm (a1 b e'); rw [b1 a e] at this; cases this
  subst e
  rw [asc_unique a2 b2 (fun x => ?_)]
  have hx := h x
  simp only [List.mem_cons] at hx
  constructor
  ·intro hm
   rcases hx.1 (Or.inr hm) with e | e
   ·subst e; have := a1 x hm; rw [ahead_irr] at this; cases this
   ·exact e
  ·intro hm
   rcases hx.2 (Or.inr hm) with e | e
   ·subst e; have := b1 x hm; rw [ahead_irr] at this; cases this
   ·exact e
theorem Settled.unique {L R R' : List En} {e e' : Int} (h : Settled L R e) (h' : Settled L R' e') : R = R' ∧ e = e' := by
 rcases h with ⟨c, r, e1⟩ | ⟨c, e1, a, m⟩
 ·rcases h' with ⟨_, r', e2⟩ | ⟨c', _⟩
  ·exact ⟨r.trans r'.symm, e1.trans e2.symm⟩
  ·exact absurd c c'
 ·rcases h' with ⟨c', _⟩ | ⟨_, e2, a', m'⟩
  ·exact absurd c' c
  ·exact ⟨asc_unique a a' (fun x => (m x).trans (m' x).symm), e1.trans e2.symm⟩
theorem asc_noclash {R L : List En} (h : Asc R) (hm : ∀ x, x ∈ R ↔ x ∈ L) : ¬ Clash L := by
 rintro ⟨x, hx, y, hy, hs, hne⟩
 have hx := (hm x).2 hx
 have hy := (hm y).2 hy
 clear hm
 induction R with
 | nil => simp at hx
 | cons a R ih =>
  obtain ⟨a1, a2⟩ := List.pairwise_cons.1 h
  rcases List.mem_cons.1 hx with e | e
  ·subst e
   rcases List.mem_cons.1 hy with e | e
   ·exact hne e.symm
   ·have := ahead_same (a1 y e); rw [hs] at this; cases this
  ·rcases List.mem_cons.1 hy with e' | e'
   ·subst e'
    have := ahead_same (a1 x e); rw [same_symm, hs] at this; cases this
   ·exact ih a2 e e'
theorem Clash.perm {L R : List En} (h : Clash L) (hm : ∀ x, x ∈ L ↔ x ∈ R) : Clash R := by
 obtain ⟨x, hx, y, hy, r⟩ := h
 exact ⟨x, (hm x).1 hx, y, (hm y).1 hy, r⟩
theorem Settled.perm {L L' R : List En} {e : Int} (h : Settled L R e) (hm : ∀ x, x ∈ L ↔ x ∈ L') : Settled L' R e := by
 rcases h with ⟨c, r, e1⟩ | ⟨c, e1, a, m⟩
 ·exact Or.inl ⟨c.perm hm, r, e1⟩
 ·exact Or.inr ⟨fun c' => c (c'.perm (fun x => (hm x).symm)), e1, a, fun x => (m x).trans (hm x)⟩

def OnceInv (L : List En) (k : Nat) (acc : List En) : Prop := Asc acc ∧ ∀ x, x ∈ acc ↔ x ∈ L.take k
theorem le_at {L : List En} (hL : L.Pairwise (fun x y => leE x y = true)) (i j : Nat) (hij : i < j) (hj : j < L.length) : leE (L.getD i en0) (L.getD j en0) = true := by
 have := List.pairwise_iff_getElem.1 hL i j (by omega) hj hij
 simpa [List.getD, hj, show i < L.length by omega] using this
theorem getD_mem (L : List En) (k : Nat) (h : k < L.length) : L.getD k en0 ∈ L := by
 have : L.getD k en0 = L[k] := by simp [List.getD, h]
 rw [this]; exact List.getElem_mem _
end Go.Proofs.YtfpmijfcemopoaaGreat.K
namespace Go.Proofs
open Go.Shelf
def Tryz.sortEn_ren : Go.Shelf.Ren := ⟨fun | 6 => 158 | 15 => 86 | 14 => 198 | 28 => 137 | 29 => 138 | 20 => 209 | 21 => 210 | 22 => 211 | 23 => 212 | 24 => 213 | 25 => 214 | 26 => 215 | 27 => 216 | 46 => 230 | 47 => 164 | 48 => 165 | 49 => 231 | 50 => 232 | 57 => 236 | n => n, fun | 22 => 23 | 24 => 49 | 25 => 120 | 3 => 3 | 39 => 108 | 0 => 0 | 53 => 157 | 55 => 159 | 4 => 4 | 46 => 150 | 45 => 149 | 50 => 154 | 5 => 5 | 9 => 9 | 66 => 180 | 70 => 184 | 76 => 207 | 77 => 109 | n => n, fun | n => n⟩
theorem Tryz.sortEn : Go.Proofs.SlLaysF0.n6 Tryz.prog Tryz.sortEn_ren := {
 mixed := by kernel_rfl
 f6 := ⟨Tryz.f158.name, by decide, Tryz.func158.trans (congrArg some (by kernel_rfl))⟩
 f14 := ⟨Tryz.f198.name, by decide, Tryz.func198.trans (congrArg some (by kernel_rfl))⟩
 f15 := Tryz.func86.trans (congrArg some (by kernel_rfl))
 f20 := ⟨Tryz.f209.name, by decide, Tryz.func209.trans (congrArg some (by kernel_rfl))⟩
 f21 := ⟨Tryz.f210.name, by decide, Tryz.func210.trans (congrArg some (by kernel_rfl))⟩
 f22 := ⟨Tryz.f211.name, by decide, Tryz.func211.trans (congrArg some (by kernel_rfl))⟩
 f23 := ⟨Tryz.f212.name, by decide, Tryz.func212.trans (congrArg some (by kernel_rfl))⟩
 f24 := ⟨Tryz.f213.name, by decide, Tryz.func213.trans (congrArg some (by kernel_rfl))⟩
 f25 := ⟨Tryz.f214.name, by decide, Tryz.func214.trans (congrArg some (by kernel_rfl))⟩
 f26 := ⟨Tryz.f215.name, by decide, Tryz.func215.trans (congrArg some (by kernel_rfl))⟩
 f27 := ⟨Tryz.f216.name, by decide, Tryz.func216.trans (congrArg some (by kernel_rfl))⟩
 f28 := Tryz.func137.trans (congrArg some (by kernel_rfl))
 f29 := Tryz.func138.trans (congrArg some (by kernel_rfl))
 f46 := ⟨Tryz.f230.name, by decide, Tryz.func230.trans (congrArg some (by kernel_rfl))⟩
 f47 := Tryz.func164.trans (congrArg some (by kernel_rfl))
 f48 := Tryz.func165.trans (congrArg some (by kernel_rfl))
 f49 := ⟨Tryz.f231.name, by decide, Tryz.func231.trans (congrArg some (by kernel_rfl))⟩
 f50 := ⟨Tryz.f232.name, by decide, Tryz.func232.trans (congrArg some (by kernel_rfl))⟩
 f57 := ⟨Tryz.f236.name, by decide, Tryz.func236.trans (congrArg some (by kernel_rfl))⟩
 t0 := Tryz.underlying0
 a0 := Tryz.isAgg0
 z0 := Tryz.sizeOf0
 v0 := Tryz.zeroValue0
 t3 := Tryz.underlying3
 a3 := Tryz.isAgg3
 z3 := Tryz.sizeOf3
 v3 := Tryz.zeroValue3
 t4 := Tryz.underlying4
 a4 := Tryz.isAgg4
 z4 := Tryz.sizeOf4
 v4 := Tryz.zeroValue4
 t5 := Tryz.underlying5
 a5 := Tryz.isAgg5
 z5 := Tryz.sizeOf5
 v5 := Tryz.zeroValue5
 t9 := Tryz.underlying9
 a9 := Tryz.isAgg9
 z9 := Tryz.sizeOf9
 v9 := Tryz.zeroValue9
 t22 := Tryz.underlying23
 a22 := Tryz.isAgg23
 z22 := Tryz.sizeOf23
 v22 := Tryz.zeroValue23
 t25 := Tryz.underlying120
 a25 := Tryz.isAgg120
 z25 := Tryz.sizeOf120
 v25 := Tryz.zeroValue120
 t39 := Tryz.underlying108
 a39 := Tryz.isAgg108
 z39 := Tryz.sizeOf108
 v39 := Tryz.zeroValue108
 t45 := Tryz.underlying149
 a45 := Tryz.isAgg149
 z45 := Tryz.sizeOf149
 v45 := Tryz.zeroValue149
 t46 := Tryz.underlying150
 a46 := Tryz.isAgg150
 z46 := Tryz.sizeOf150
 v46 := Tryz.zeroValue150
 t50 := Tryz.underlying154
 a50 := Tryz.isAgg154
 z50 := Tryz.sizeOf154
 v50 := Tryz.zeroValue154
 t53 := Tryz.underlying157
 a53 := Tryz.isAgg157
 z53 := Tryz.sizeOf157
 v53 := Tryz.zeroValue157
 t55 := Tryz.underlying159
 a55 := Tryz.isAgg159
 z55 := Tryz.sizeOf159
 v55 := Tryz.zeroValue159
 t66 := Tryz.underlying180
 a66 := Tryz.isAgg180
 z66 := Tryz.sizeOf180
 v66 := Tryz.zeroValue180
 t70 := Tryz.underlying184
 a70 := Tryz.isAgg184
 z70 := Tryz.sizeOf184
 v70 := Tryz.zeroValue184
 t76 := Tryz.underlying207
 a76 := Tryz.isAgg207
 z76 := Tryz.sizeOf207
 v76 := Tryz.zeroValue207
 t77 := Tryz.underlying109
 a77 := Tryz.isAgg109
 z77 := Tryz.sizeOf109
 v77 := Tryz.zeroValue109 }
end Go.Proofs
namespace Go.Proofs.YtfpmijfcemopoaaGreat.K
open Go.RowKit Go.Sort

def encE (e : En) : List Value := (EC e).toList
theorem encE_len (e : En) : (encE e).length = 4 := rfl
structure MR (W : World) (ad : Addr) (d : Array En) : Prop where
 hk : HoldsK encE 4 W ad.block 0 d
 lt : ad.block < W.heap.size
 ha : ad = ⟨ad.block, 0, none⟩
theorem MR.at {W : World} {ad : Addr} {d : Array En} (M : MR W ad d) (i : Nat) (hi : i < d.size) : EnAt W (ad.add (i * 4)) d[i]! := by
 have h : ∀ c, c < 4 → W.cell? ⟨ad.block, i * 4 + c, none⟩ = some (encE d[i]!)[c]! := fun c hc => by
  have := (M.hk.cell hi hc).1
  rwa [Nat.zero_add] at this
 rw [M.ha, Addr.add_lit, Nat.zero_add]
 exact ⟨h 0 (by omega), by rw [Addr.add_lit]; exact h 1 (by omega), by rw [Addr.add_lit]; exact h 2 (by omega), by rw [Addr.add_lit]; exact h 3 (by omega)⟩
theorem MR.on {W W' : World} {ad : Addr} {d : Array En} (M : MR W ad d) (hb : Below W.heap.size W W') : MR W' ad d :=
 ⟨fun j hj => by rw [hb.cell (p := ⟨ad.block, 0 + j, none⟩) M.lt, hb.frozen (p := ⟨ad.block, 0 + j, none⟩) M.lt]; exact M.hk j hj, Nat.lt_of_lt_of_le M.lt hb.size, M.ha⟩
theorem flat_set (d : Array En) (i : Nat) (e : En) (hi : i < d.size) : setMany (flatK encE 4 d) (i * 4) (encE e) = flatK encE 4 (d.setIfInBounds i e) := by
 refine ext_get! (by simp) fun t ht => ?_
 have ht' : t < d.size * 4 := by simpa using ht
 rw [get_setMany _ _ _ t (by simpa using ht'), get_flatK _ _ _ t ht', get_flatK _ _ _ t (by simpa using ht'), encE_len]
 by_cases a : t / 4 = i
 ·rw [if_pos ((blk_iff 4 i t (by omega)).2 a), a, getElem!_set_same d i e hi, show t - i * 4 = t % 4 by omega]
 ·rw [if_neg (fun h => a ((blk_iff 4 i t (by omega)).1 h)), getElem!_set_other d i _ e a]
theorem below_put (W : World) (g : Nat) (F : Array Value) : Below g W (putRow id W g 0 F) := Lib.below_putRow (q := 0) (Below.refl g W) (Nat.le_refl _)
theorem MR.setCells {W : World} {ad : Addr} {d : Array En} (M : MR W ad d) (i : Nat) (e : En) (hi : i < d.size) :
  W.setCells ad.block (i * 4) (encE e) = putRowK encE 4 W ad.block 0 (d.setIfInBounds i e) := by
 have h1 := putRowK_self encE 4 W ad.block 0 d M.hk
 have h2 := setCells_putRow W ad.block 0 (encE e) (i * 4) (flatK encE 4 d) (by rw [encE_len, size_flatK]; have := Nat.mul_le_mul_right 4 (show i + 1 ≤ d.size from hi); omega)
 unfold putRowK at h1
 rw [h1, flat_set d i e hi, Nat.zero_add] at h2
 exact h2
theorem MR.store {W : World} {ad : Addr} {d : Array En} (M : MR W ad d) (i : Nat) (e : En) (hi : i < d.size) :
  ∃ W' : World, (st28 (.pointer (some (ad.add (i * 4)))) (EV e)).run Tryz.prog W = .ok () W' ∧ MR W' ad (d.setIfInBounds i e) ∧ Below ad.block W W' ∧ W'.heap.size = W.heap.size := by
 have hs := stores_of_holds Tryz.prog (W := W) (blk := ad.block) (off := 0) (F := flatK encE 4 d) M.hk (i * 4) (encE e) (by rw [encE_len, size_flatK]; have := Nat.mul_le_mul_right 4 (show i + 1 ≤ d.size from hi); omega) (EC_one e)
 rw [Nat.zero_add, M.setCells i e hi] at hs
 refine ⟨_, ?_, ⟨holdsK_putRowK encE 4 W ad.block 0 d _ M.hk (by simp), by show ad.block < (putRow id W ad.block 0 _).heap.size; rw [size_putRow]; exact M.lt, M.ha⟩, below_put W ad.block _, size_putRow _ _ _ _ _⟩
 have ha := M.ha
 rw [ha, Addr.add_lit, Nat.zero_add]
 unfold st28
 cases hq : Tryz.prog.info? 49 with
 | none => have := size28; simp [hq] at this
 | some x =>
  have hz : x.size = 4 := by have := size28; simpa [hq] using this
  have hs' : (storeCells ⟨ad.block, i * 4, none⟩ (EC e).toList 0).run Tryz.prog W = .ok () (putRowK encE 4 W ad.block 0 (d.setIfInBounds i e)) := hs
  simp only [Instr.storeAt, Instr.sureAddr, Sem.run_bind, Sem.run_pure, Result.andThen, storeVar, sizeOf, typeInfo, cells_EV, EC_size]
  simp [hs', hq, hz]
theorem flat_lay (d : Array En) : ∀ (xs : List En) (i : Nat), i + xs.length ≤ d.size → setMany (flatK encE 4 d) (i * 4) (xs.map encE).flatten = flatK encE 4 (Lib.lay d i xs)
 | [], _, _ => rfl
 | x :: r, i, h => by
  have hi : i < d.size := by simp at h; omega
  have key : ∀ (F : Array Value) (s : Nat) (a b : List Value), setMany F s (a ++ b) = setMany (setMany F s a) (s + a.length) b := by
   intro F s a
   induction a generalizing F s with
   | nil => intro b; rfl
   | cons v a ih => intro b; simp only [List.cons_append, setMany, List.length_cons]; rw [ih, show s + 1 + a.length = s + (a.length + 1) by omega]
  rw [List.map_cons, List.flatten_cons, key, flat_set d i x hi, encE_len, show i * 4 + 4 = (i + 1) * 4 by omega]
  exact flat_lay (d.setIfInBounds i x) r (i + 1) (by simp at h ⊢; omega)
theorem zero29 (w : World) : (zeroValue 49).run Tryz.prog w = .ok (EV en0) w := Tryz.zeroValue49 w
theorem zeros (n : Nat) : (Builtin.zeroCells (EC en0) n).toList = ((List.replicate n en0).map encE).flatten := by
 show _ = ecs (List.replicate n en0)
 apply List.ext_getElem?
 intro t
 by_cases ht : t < n * 4
 ·have h2 := ecs_at (List.replicate n en0) (t / 4) (t % 4) (by simp; omega) (by omega)
  rw [show t / 4 * 4 + t % 4 = t by omega] at h2
  have hg : (List.replicate n en0).getD (t / 4) en0 = en0 := by simp [List.getD, show t / 4 < n by omega]
  rw [h2, hg]
  have h1 : (Builtin.zeroCells (EC en0) n).toList[t]? = some ((EC en0)[t % 4]!) := by simp [Builtin.zeroCells, EC_size, ht]
  rw [h1]
  have : t % 4 = 0 ∨ t % 4 = 1 ∨ t % 4 = 2 ∨ t % 4 = 3 := by omega
  rcases this with h | h | h | h <;> rw [h] <;> rfl
 ·rw [List.getElem?_eq_none (by simp [Builtin.zeroCells, EC_size]; omega), List.getElem?_eq_none (by rw [ecs_length]; simp; omega)]
theorem lay_size (d : Array En) : ∀ (xs : List En) (k : Nat), (Lib.lay d k xs).size = d.size := by
 intro xs
 induction xs generalizing d with
 | nil => intro k; rfl
 | cons x r ih => intro k; rw [Lib.lay, ih]; simp
theorem MR.clear {W : World} {ad : Addr} {d : Array En} (M : MR W ad d) (kk : Nat) (hk : kk < d.size) (c : Nat) :
  ∃ (W' : World) (d' : Array En), (∀ ty, (Builtin.clear_ #[23] ty #[.slice (some (ad.add (kk * 4))) (d.size - kk) c]).run Tryz.prog W = .ok (.tuple #[]) W') ∧ MR W' ad d' ∧ d'.size = d.size ∧ (∀ j, j < kk → d'[j]! = d[j]!) ∧ Below ad.block W W' ∧ W'.heap.size = W.heap.size := by
 obtain ⟨m, hm⟩ : ∃ m, d.size - kk = m := ⟨_, rfl⟩
 have h1 := putRowK_self encE 4 W ad.block 0 d M.hk
 have hlen : (((List.replicate m en0).map encE).flatten).length = m * 4 := by
  have := ecs_length (List.replicate m en0); rwa [List.length_replicate] at this
 have hs := stores_of_holds Tryz.prog (W := W) (blk := ad.block) (off := 0) (F := flatK encE 4 d) M.hk (kk * 4) ((List.replicate m en0).map encE).flatten (by rw [hlen, size_flatK]; omega) (by
  intro v hv
  obtain ⟨l, hl, hv⟩ := List.mem_flatten.1 hv
  obtain ⟨e, _, rfl⟩ := List.mem_map.1 hl
  exact EC_one e v hv)
 have h2 := setCells_putRow W ad.block 0 ((List.replicate m en0).map encE).flatten (kk * 4) (flatK encE 4 d) (by rw [hlen, size_flatK]; omega)
 unfold putRowK at h1
 rw [h1, flat_lay d (List.replicate m en0) kk (by simp; omega), Nat.zero_add] at h2
 rw [Nat.zero_add, h2] at hs
 refine ⟨_, Lib.lay d kk (List.replicate m en0), fun ty => ?_, ⟨holdsK_putRowK encE 4 W ad.block 0 d _ M.hk (lay_size _ _ _), by show ad.block < (putRow id W ad.block 0 _).heap.size; rw [size_putRow]; exact M.lt, M.ha⟩, lay_size _ _ _, fun j hj => ?_, below_put W ad.block _, size_putRow _ _ _ _ _⟩
 ·have ha := M.ha
  rw [ha, Addr.add_lit, Nat.zero_add, hm]
  obtain ⟨m', rfl⟩ : ∃ m', m = m' + 1 := ⟨m - 1, by omega⟩
  have hz := zero29 W
  simp [Builtin.clear_, run_underlying Tryz.underlying23, hz]
  rw [cells_EV, zeros, hs]
  rfl
 ·have := Lib.lay_get? (List.replicate m en0) d kk j (by simp; omega)
  rw [if_neg (by omega)] at this
  rw [getElem!_def, getElem!_def, this]
def Grew (w w' : World) : Prop := ∃ q os, w' = grow (w.drewN q) os
theorem grew_by (w : World) (a b c : Obj) : Grew w (((w.alloc a).alloc b).drew.alloc c) := by
 refine ⟨1, #[a] ++ #[b] ++ #[c], ?_⟩
 rw [alloc_eq_grow ((w.alloc a).alloc b).drew c, alloc_eq_grow (w.alloc a) b, alloc_eq_grow w a, grow_grow, drew_grow, grow_grow]
 rfl
set_option maxHeartbeats 1600000 in
theorem byDot_gr (x y : En) (w : World) : Calls Tryz.prog 100 #[enV x, enV y] w fun e w' => e = .returned (.int .i64 (byD x y)) ∧ Grew w w' := by
 have T0 := hide (Two.start w x y)
 obtain ⟨w0, Hw0⟩ : ∃ w0, Hid ((w.alloc (.cells #[.int .i64 x.rep, .int .i64 x.num, .string x.sku, .int .i64 x.qty] 49)).alloc (.cells #[.int .i64 y.rep, .int .i64 y.num, .string y.sku, .int .i64 y.qty] 49) = w0) := ⟨_, rfl⟩
 rw [Hw0.out] at T0
 have c1 := T0.out.a0
 have c2 := T0.out.a1
 have c3 := T0.out.b0
 have c4 := T0.out.b1
 obtain ⟨p, Hp⟩ : ∃ p, Hid (cmpI x.rep y.rep = p) := ⟨_, rfl⟩
 obtain ⟨q, Hq⟩ : ∃ q, Hid (cmpI x.num y.num = q) := ⟨_, rfl⟩
 have C1 : Hid (∀ W, Calls Tryz.prog 142 #[.int .i64 x.rep, .int .i64 y.rep] W fun e w' => e = .returned (.int .i64 p) ∧ w' = W) := fun W => by rw [← Hp.out]; exact cmp_any _ _ W
 have C2 : Hid (∀ W, Calls Tryz.prog 142 #[.int .i64 x.num, .int .i64 y.num] W fun e w' => e = .returned (.int .i64 q) ∧ w' = W) := fun W => by rw [← Hq.out]; exact cmp_any _ _ W
 have HF : Hid (or2 p q = byD x y) := by show _ = _; unfold byD; rw [Hp.out, Hq.out]
 have T1 : Hid (Two w (w0.drew.alloc (.cells #[.int .i64 p, .int .i64 q] 3)) x y) := (T0.out.on (below_drew (Below.refl _ _))).on (below_new _ _)
 have HO := hide (or_new p q w0.drew w0.heap.size rfl)
 have HG : Hid (Grew w (w0.drew.alloc (.cells #[.int .i64 p, .int .i64 q] 3))) := by rw [← Hw0.out]; exact grew_by _ _ _ _
 obtain ⟨r, m, s, q⟩ := x
 obtain ⟨r', m', s', q'⟩ := y
 go_enter Tryz.func100, Tryz.ntmps100
 go_wp2_with fail
 rw [Hw0.out]
 first | (go_region_held (fun W => W.cell? ⟨w.heap.size, 0, none⟩ = some (.int .i64 r) ∧ W.cell? ⟨w.heap.size, 1, none⟩ = some (.int .i64 m) ∧ W.cell? ⟨w.heap.size + 1, 0, none⟩ = some (.int .i64 r') ∧ W.cell? ⟨w.heap.size + 1, 1, none⟩ = some (.int .i64 m')) (first | exact ⟨T1.out.a0, T1.out.a1, T1.out.b0, T1.out.b1⟩ | go_keep) (first | (go_at_call_of 142 r; refine (C1.out _).mono ?_; rintro e w' ⟨rfl, rfl⟩) | (go_at_call_of 142 m; refine (C2.out _).mono ?_; rintro e w' ⟨rfl, rfl⟩) | (go_at_call 143; refine HO.out.mono ?_; rintro e w' ⟨rfl, rfl⟩))) | fail
 all_goals (go_wp2_with fail)
 all_goals go_ret
 all_goals exact ⟨ret_int HF.out, HG.out⟩
theorem byD_lt (x y : En) : ltOf byD x y = ahead x y := by
 unfold ltOf byD or2 cmpI ahead
 by_cases h1 : x.rep < y.rep
 ·simp [h1]
 ·by_cases h2 : y.rep < x.rep
  ·have : ¬ x.rep = y.rep := by omega
   simp [h1, h2, this]
  ·have e : x.rep = y.rep := by omega
   by_cases h3 : x.num < y.num
   ·simp [e, h3]
   ·by_cases h4 : y.num < x.num <;> simp [e, h3, h4]
theorem byD_swo : SWO (ltOf byD) where
 irrefl x := by rw [byD_lt]; exact ahead_irr x
 trans x y z h1 h2 := by rw [byD_lt] at *; exact ahead_trans h1 h2
 ntrans x y z h1 h2 := by rw [byD_lt] at *; simp [ahead] at *; omega
theorem cmpLays (blk size : Nat) (w : World) : CmpLays Tryz.prog 100 #[] encE 4 byD blk 0 size w :=
 fun _ _ _ _ x y => byDot_gr x y _
set_option maxRecDepth 100000 in
theorem sortFunc_any (ad : Addr) (cap n : Nat) (d : Array En) (w : World) (M : MR w ad d) (hn : d.size = n) (hb : n ≤ 3518437208883) :
  Calls Tryz.prog 158 #[.slice (some ad) n cap, .func (.func 100) #[] #[]] w fun e w' => e = .returned (.tuple #[]) ∧ ∃ d', d'.toList.Perm d.toList ∧ d'.toList.Pairwise (fun x y => leE x y = true) ∧ MR w' ad d' ∧ Below ad.block w w' := by
 subst hn
 have eg : ∀ args w, (callFunc 100 args).run Tryz.prog w = .ok (.enter 100 args) w := enters_of Tryz.func100 (by kernel_rfl) rfl
 have h := AnyQ.slices_SortFunc Tryz.sortEn 4 Tryz.isAgg49 Tryz.sizeOf49 encE (fun _ => rfl) (fun x v hv => EC_one x v hv) byD byD_swo 100 #[] ad.block 0 cap d w eg (cmpLays ad.block d.size w) M.hk M.lt (by omega)
 rw [← M.ha] at h
 refine Calls.mono h ?_
 rintro e w' ⟨rfl, d', m, os, ⟨hs, _, hp⟩, hsr, rfl⟩
 refine ⟨rfl, d', ?_, ?_, ⟨holdsK_sortWorldK_c encE 4 w ad.block 0 d d' m os M.hk M.lt hs, ?_, M.ha⟩, ?_⟩
 ·have e1 : d'.extract 0 d.size = d' := by rw [← hs]; simp
  have e2 : d.extract 0 d.size = d := by simp
  rwa [e1, e2] at hp
 ·rw [List.pairwise_iff_getElem]
  intro i j hi hj hij
  have := hsr i j (Nat.zero_le _) hij (by rw [← hs]; simpa using hj)
  rw [byD_lt] at this
  rw [getElem!_pos d' j (by simpa using hj), getElem!_pos d' i (by simpa using hi)] at this
  simp only [Array.getElem_toList]
  unfold leE; rw [this]; rfl
 ·have := M.lt
  show ad.block < (grow (putRow id (Sort.ahead w m) ad.block 0 (flatK encE 4 d')) os).heap.size
  show ad.block < ((putRow id (Sort.ahead w m) ad.block 0 (flatK encE 4 d')).heap ++ os).size
  rw [Array.size_append, size_putRow]
  show ad.block < w.heap.size + os.size
  omega
 ·have h1 : Below ad.block w (putRow id (Sort.ahead w m) ad.block 0 (flatK encE 4 d')) := Lib.below_putRow (Below.refl _ _) (Nat.le_refl _)
  refine h1.trans ?_
  have hsz : ad.block ≤ (putRow id (Sort.ahead w m) ad.block 0 (flatK encE 4 d')).heap.size := by rw [size_putRow]; exact Nat.le_of_lt M.lt
  show Below ad.block _ (grow (putRow id (Sort.ahead w m) ad.block 0 (flatK encE 4 d')) os)
  generalize putRow id (Sort.ahead w m) ad.block 0 (flatK encE 4 d') = V at hsz
  exact ⟨rfl, rfl, rfl, by show _ ≤ (V.heap ++ os).size; rw [Array.size_append]; omega, fun k hk => by show (V.heap ++ os)[k]? = _; rw [Array.getElem?_append_left (by omega)]⟩
end Go.Proofs.YtfpmijfcemopoaaGreat.K
namespace Go.Proofs.YtfpmijfcemopoaaGreat.K
open Go.RowKit
attribute [local go_sem ↓] ld28_eq st28_eq ld26_eq
attribute [local go_sem] zero_EC cells_EV EC_size fold_EC
theorem run_eqD (x y : En) (w : World) : (Op.equalIn 10000 47 (.agg (DC x)) (.agg (DC y))).run Tryz.prog w = .ok (sameDot x y) w := by
 have u3 := Tryz.underlying3
 have a3 := Tryz.isAgg3
 have z3 := Tryz.sizeOf3
 have hS : Tryz.prog.underlying 47 = some (.struct (Tryz.prog.fieldsOf 47)) := by kernel_rfl
 have hp : Tryz.prog.stoodInHeld 47 = false := by kernel_rfl
 obtain ⟨a, b, _, _⟩ := x
 obtain ⟨c, d, _, _⟩ := y
 show (Op.equalIn 10000 47 (.agg #[.int .i64 a, .int .i64 b]) (.agg #[.int .i64 c, .int .i64 d])).run Tryz.prog w = .ok (a == c && b == d) w
 rw [show (10000 : Nat) = 9999 + 1 from rfl, run_equalIn_struct w 9999 47 _ _ hS hp]
 simp only [Program.fieldsOf, Tryz.underlying47]
 go_simp
 by_cases h1 : a = c <;> by_cases h2 : b = d <;> simp [h1, h2]
attribute [local go_sem ↓] run_eq28 run_eqD
theorem eqE_iff (x y : En) : eqE x y = true ↔ x = y := by
 constructor
 ·intro h
  obtain ⟨a, b, s, c⟩ := x
  obtain ⟨a', b', s', c'⟩ := y
  simp only [eqE, Bool.and_eq_true, beq_iff_eq] at h
  obtain ⟨⟨⟨rfl, rfl⟩, h3⟩, rfl⟩ := h
  have : s = s' := by
   rw [ByteArray.toList_eq, ByteArray.toList_eq] at h3
   cases s; cases s'; simp at h3; simp [h3]
  rw [this]
 ·rintro rfl; exact eqE_self _
def GivesT (w w' : World) (e : Ending) (L : List En) : Prop := ∃ ao n c R er, e = .returned (.tuple #[.slice ao n c, .int .i64 er]) ∧ ESrc w' ao n c R ∧ Below w.heap.size w w' ∧ (∀ ad, ao = some ad → w.heap.size ≤ ad.block) ∧ Settled L R er
end Go.Proofs.YtfpmijfcemopoaaGreat.K
